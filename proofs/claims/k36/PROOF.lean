import PyProof.Rows.All
import Wide.All
import OpenK.AllK
import Wide.FinOn
import PyProof.EqAt
import PyProof.EqKinds
import PyProof.TupleCall
import PySem.Challenge.RW_raisedsums_k36_whole_held_is_settled
set_option Elab.async false
set_option linter.all false
set_option maxRecDepth 100000
noncomputable section
namespace PySem.W.Fast
theorem tw13784997188105896835:True:=⟨⟩
theorem tw8165567135066490408:True:=⟨⟩
theorem tw965977981315262164:True:=⟨⟩
theorem tw7438788712332307656:True:=⟨⟩
theorem tw7624824138309762260:True:=⟨⟩
theorem tw5412701616880045198:True:=⟨⟩
theorem tw2521243779788352572:True:=⟨⟩
theorem tw4913078211530552842:True:=⟨⟩
theorem tw11960285446760654827:True:=⟨⟩
theorem tw17770082902788063460:True:=⟨⟩
theorem tw1529889558774136126:True:=⟨⟩
theorem tw8537164069001765219:True:=⟨⟩
theorem tw8941273416091479443:True:=⟨⟩
theorem tw11657259534812164559:True:=⟨⟩
theorem tw2078427381670361224:True:=⟨⟩
theorem tw14355238276282792063:True:=⟨⟩
theorem tw15752293447413617697:True:=⟨⟩
theorem tw7009456291087046637:True:=⟨⟩
theorem tw3369157959511723799:True:=⟨⟩
theorem tw3364669355928601794:True:=⟨⟩
theorem tw9165915118634280929:True:=⟨⟩
theorem tw12522671198244156426:True:=⟨⟩
theorem tw17048578669169255296:True:=⟨⟩
theorem tw14502376886578664366:True:=⟨⟩
theorem tw5459705476402093973:True:=⟨⟩
theorem tw14328012363697200464:True:=⟨⟩
theorem tw3986980002045128662:True:=⟨⟩
theorem tw12238936498545910299:True:=⟨⟩
theorem tw8617382108736871482:True:=⟨⟩
theorem tw17222163613032252371:True:=⟨⟩
theorem tw16980608397811404:True:=⟨⟩
theorem tw14866406618235773036:True:=⟨⟩
theorem tw1917936248109779647:True:=⟨⟩
theorem tw10459202290871712031:True:=⟨⟩
theorem tw12664490130618375598:True:=⟨⟩
theorem tw13628450233049138232:True:=⟨⟩
theorem tw3639752270161983770:True:=⟨⟩
theorem tw757308373454801280:True:=⟨⟩
theorem tw6473678873527964170:True:=⟨⟩
theorem tw3103380776356091268:True:=⟨⟩
theorem tw17819046865259672449:True:=⟨⟩
theorem tw14679956704248713364:True:=⟨⟩
theorem tw1494436915955773404:True:=⟨⟩
theorem tw1115140286607704225:True:=⟨⟩
theorem tw4680412123156006036:True:=⟨⟩
theorem tw2451937903313534371:True:=⟨⟩
theorem tw6586810652814760549:True:=⟨⟩
theorem tw3458104837793806316:True:=⟨⟩
theorem tw7114847106963376122:True:=⟨⟩
theorem tw17017491918206188730:True:=⟨⟩
theorem tw14536169169228226421:True:=⟨⟩
theorem tw8178117042532774094:True:=⟨⟩
theorem tw5340806826319722516:True:=⟨⟩
theorem tw14299121114990131974:True:=⟨⟩
theorem tw7447364323603974505:True:=⟨⟩
theorem tw9586338839822219962:True:=⟨⟩
theorem tw6107261017098506314:True:=⟨⟩
theorem tw13288490954757787586:True:=⟨⟩
theorem tw1087252559988723768:True:=⟨⟩
theorem tw17945592806945656375:True:=⟨⟩
theorem tw12435174979961346532:True:=⟨⟩
theorem tw18047643542970960931:True:=⟨⟩
theorem tw7068712417465598036:True:=⟨⟩
theorem tw9702679664989398484:True:=⟨⟩
theorem tw4265725638236415619:True:=⟨⟩
theorem tw9246548676372446235:True:=⟨⟩
theorem tw11825081337853834318:True:=⟨⟩
theorem tw2823826149048881:True:=⟨⟩
theorem tw10131206388414363464:True:=⟨⟩
theorem tw17720191483314211263:True:=⟨⟩
theorem tw18198231051526525775:True:=⟨⟩
theorem tw4784931115721591641:True:=⟨⟩
theorem tw14544015609105275625:True:=⟨⟩
theorem tw6034621835415391554:True:=⟨⟩
theorem tw11619173147434486472:True:=⟨⟩
theorem tw1995875595185654019:True:=⟨⟩
theorem tw11940745927216785319:True:=⟨⟩
theorem tw16984399094227200552:True:=⟨⟩
theorem tw10911871367837973305:True:=⟨⟩
theorem tw9566562411771835176:True:=⟨⟩
theorem tw12319748161287355641:True:=⟨⟩
theorem tw17681209493945431096:True:=⟨⟩
theorem tw12092359274700855665:True:=⟨⟩
theorem tw15488864801504502737:True:=⟨⟩
theorem tw14822778923968415759:True:=⟨⟩
theorem tw2516637182327610356:True:=⟨⟩
theorem tw12696396382331942222:True:=⟨⟩
theorem tw14725790133416451866:True:=⟨⟩
theorem tw6340039723980767910:True:=⟨⟩
theorem tw9947488418794915573:True:=⟨⟩
theorem tw9556267059500402112:True:=⟨⟩
theorem tw10879257463854738395:True:=⟨⟩
theorem tw10843015892702473587:True:=⟨⟩
theorem tw4314273526124356051:True:=⟨⟩
theorem tw5676993831576408980:True:=⟨⟩
end PySem.W.Fast
open PySem
set_option genSizeOfSpec false
set_option genInjectivity false
abbrev Fg:=PySem.W.Frag
abbrev ag:=@PySem.wpAny_bind
abbrev bV:=@List.getElem?_eq_getElem
abbrev ay:=@Nat.le_trans
abbrev bj:=@List.length_map
abbrev cJ:=@List.getD_eq_getElem?_getD
abbrev bU:=@List.mem_cons_of_mem
abbrev db:=@List.getElem?_eq_some_iff
abbrev aW:=@PySem.wpAny_pure
abbrev br:=@Nat.le_refl
abbrev bR:=@List.mem_range
abbrev cQ:=@List.length_append
abbrev da:=@Nat.lt_of_lt_of_le
abbrev ca:=@List.mem_cons
abbrev dY:=@PySem.Heap.get?_push_of_some
abbrev bS:=@List.mem_map
abbrev bh:=@PyProof.Rows.wpS_bind
abbrev cO:=@decide_eq_false
abbrev cr:=@List.map_cons
abbrev dB:=@List.mem_cons_self
abbrev cI:=@decide_eq_true
abbrev bn:=@PyProof.Rows.wpS_pure
abbrev ew:=@List.mem_of_getElem?
abbrev dw:=@List.length_cons
abbrev dk:=@List.mem_append
abbrev et:=@List.mem_singleton
abbrev dW:=@List.all_eq_true
abbrev dU:=@List.take_length
abbrev dH:=@List.mem_filter
abbrev fu:=@List.getElem?_set_ne
abbrev eE:=@List.size_toArray
abbrev cZ:=@PySem.Heap.lt_size
abbrev gv:=@List.getElem?_append_left
abbrev dj:=@Nat.le_of_lt
abbrev ff:=@List.append_assoc
abbrev gV:=@List.filter_cons_of_pos
abbrev fZ:=@Array.length_toList
abbrev fY:=@PySem.Heap.get?_push_size
abbrev dJ:=@Nat.ne_of_lt
abbrev hE:=@List.filter_cons_of_neg
abbrev ft:=@Nat.le_add_right
abbrev gU:=@Array.getElem?_toList
abbrev fM:=@List.getElem?_map
abbrev fG:=@Nat.le_of_not_lt
abbrev fL:=@List.mem_flatMap
abbrev gS:=@Nat.add_sub_cancel'
abbrev fe:=@List.sum_cons
abbrev gf:=@List.getElem_mem
abbrev hD:=@Nat.add_le_add_left
abbrev eS:=@List.map_map
abbrev gR:=@of_decide_eq_true
abbrev h7:=@Nat.le_of_lt_succ
abbrev kQ:=@List.getElem?_append_right
abbrev g9:=@List.length_take
abbrev jE:=@Option.map_eq_some_iff
abbrev lO:=@Array.getD_eq_getD_getElem?
abbrev g8:=@Option.some.inj
abbrev g7:=@List.nodup_cons
abbrev gZ:=@List.sum_append
abbrev ka:=@List.take_of_length_le
abbrev lN:=@List.drop_eq_getElem_cons
abbrev hZ:=@List.map_append
abbrev j9:=@List.take_append_drop
abbrev jl:=@Nat.lt_of_le_of_lt
abbrev jk:=@Bool.false_eq_true
abbrev mn:=@Nat.mod_two_eq_zero_or_one
abbrev lM:=@Nat.add_sub_cancel_left
abbrev lL:=@Int.eq_ofNat_of_zero_le
abbrev mm:=@Array.getElem?_eq_getElem
abbrev gY:=@Nat.xor_assoc
abbrev iT:=@List.length_set
abbrev jD:=@Nat.lt_of_le_of_ne
abbrev jC:=@PySem.W.mg_none_of
abbrev gQ:=@Nat.le_of_eq
abbrev kP:=@Nat.le_sub_one_of_lt
abbrev jB:=@Nat.le_of_succ_le
abbrev lK:=@List.mem_append_right
abbrev lJ:=@Nat.le_of_add_left_le
abbrev kO:=@Array.toList_append
abbrev nk:=@List.filterMap_cons_some
abbrev kN:=@List.filter_append
abbrev kM:=@List.count_eq_zero
abbrev gX:=@Nat.zero_le
abbrev lI:=@List.map_congr_left
abbrev iu:=@PyProof.Rows.wpS_forRange
abbrev jA:=@List.append_nil
abbrev ou:=@Nat.sub_lt_left_of_lt_add
abbrev j8:=@Bool.and_eq_true
abbrev kL:=@Int.toNat_natCast
abbrev ml:=@List.mem_of_mem_take
abbrev iS:=@Nat.zero_add
abbrev j7:=@Nat.le_antisymm
abbrev j6:=@Nat.min_eq_left
abbrev nj:=@Nat.add_lt_of_lt_sub'
abbrev lH:=@List.foldl_append
abbrev lG:=@List.count_append
abbrev lF:=@decide_eq_true_eq
abbrev kK:=@Bool.eq_iff_iff
abbrev jz:=@PySem.wpAny_holding
abbrev pS:=@List.filterMap_cons_none
abbrev lE:=@PySem.wpAny_call_entry
abbrev nh:=@List.getElem_of_mem
abbrev ng:=@PySem.Heap.SameBut.update
abbrev nc:=@Nat.add_lt_add_left
abbrev ir:=@PySem.wpAny_mono
abbrev ot:=@List.length_singleton
abbrev oq:=@List.getElem?_eq_none
abbrev mj:=@List.filter_congr
abbrev mi:=@PySem.wpAny_newObj_type
abbrev fX:=@Ne.symm
abbrev lD:=@List.find?_cons
abbrev om:=@Nat.sub_lt_sub_right
abbrev lC:=@List.foldl_cons
abbrev jy:=@Nat.xor_zero
abbrev pR:=@List.getElem?_set_self
abbrev mh:=@Nat.not_lt_of_le
abbrev gP:=@if_false
abbrev mZ:=@Array.toList_push
abbrev pQ:=@PySem.Heap.get?_update_self
abbrev pP:=@List.length_filter_le
abbrev pO:=@Nat.le_sub_of_add_le'
abbrev pN:=@Nat.eq_of_beq_eq_true
abbrev gr:=@if_true
abbrev mf:=@PySem.W.kia_one
abbrev oj:=@List.getElem?_drop
abbrev rJ:=@Option.bind_eq_some_iff
abbrev mY:=@List.length_drop
abbrev pM:=@List.mem_of_mem_drop
abbrev uf:=@Array.perm_iff_toList_perm
abbrev oi:=@Nat.le_succ_of_le
abbrev oh:=@Nat.lt_of_succ_lt
abbrev og:=@PySem.wpAny_truthy_bool
abbrev pL:=@List.replicate_succ
abbrev pK:=@beq_eq_false_iff_ne
abbrev ue:=@List.pairwise_iff_getElem
abbrev yF:=@List.Nodup.length_le_of_subset
abbrev rH:=@List.length_replicate
abbrev pJ:=@Bool.false_ne_true
abbrev oe:=@List.lookup_cons
abbrev n9:=@Nat.succ_le_succ
abbrev iR:=@PyProof.Rows.wpS_mono
abbrev mX:=@List.nodup_nil
abbrev yE:=@PySem.F.slot_dict_keyiterator_next
abbrev rG:=@Nat.sub_le_sub_right
abbrev rF:=@List.pairwise_append
abbrev pI:=@Nat.sub_pos_of_lt
abbrev pH:=@List.length_range
abbrev n8:=@List.count_cons
abbrev n7:=@PySem.wpAny_ite_false
abbrev yD:=@List.nodup_iff_pairwise_ne
abbrev pG:=@List.filter_cons
abbrev pF:=@Nat.lt_of_not_le
abbrev pE:=@decide_eq_decide
abbrev rE:=@PySem.Obj.data_mapFields
abbrev ud:=@List.Perm.append_left
abbrev uc:=@List.Pairwise.sublist
abbrev rD:=@Nat.lt_of_lt_of_eq
abbrev rC:=@List.pairwise_cons
abbrev rB:=@List.count_pos_iff
abbrev me:=@PySem.sizeLine_eq
abbrev ub:=@List.mem_append_left
abbrev pD:=@List.range_succ
abbrev lB:=@Nat.sub_le
abbrev ua:=@Bool.or_eq_false_iff
abbrev pC:=@Int.natCast_add
abbrev tZ:=@Nat.mul_le_mul_right
abbrev n6:=@Nat.lt_irrefl
abbrev Dh:=@PySem.wpAny_typeNameOfWhole_keyiter
abbrev yC:=@List.getElem?_cons_succ
abbrev yB:=@List.length_eq_zero_iff
abbrev tY:=@PySem.mem_of_lookup
abbrev tX:=@Nat.sub_le_sub_left
abbrev rA:=@Nat.min_le_right
abbrev rz:=@List.nodup_range
abbrev ry:=@beq_self_eq_true
abbrev yA:=@Array.getElem?_eq_none
abbrev yz:=@List.filter_eq_nil_iff
abbrev md:=@beq_iff_eq
abbrev l9:=@PyProof.Rows.wpS_modify
abbrev tW:=@Nat.sub_add_cancel
abbrev tV:=@List.find?_eq_none
abbrev n5:=@Int.zero_add
abbrev tU:=@decide_eq_true_iff
abbrev yy:=@PySem.Obj.isFreed_of_fields
abbrev rx:=@Nat.min_le_left
abbrev yx:=@List.perm_append_comm
abbrev rq:=@List.filter_map
abbrev ro:=@Nat.testBit_xor
abbrev rm:=@PySem.wpAny_passesOwn
abbrev tT:=@List.ext_getElem?
abbrev tS:=@Nat.lt_succ_of_lt
abbrev tR:=@List.flatten_cons
abbrev Df:=@List.mem_of_find?_eq_some
abbrev rk:=@PySem.wpAny_setField
abbrev pB:=@Nat.lt_or_ge
abbrev OV:=@List.take_succ_eq_append_getElem
abbrev pA:=@PySem.F.called_set
abbrev tQ:=@List.cons_append
abbrev pz:=@Nat.zero_xor
abbrev py:=@Nat.xor_self
abbrev px:=@decide_false
abbrev yw:=@List.filter_sublist
abbrev OU:=@PyProof.Rows.slot_tuple_getitem
abbrev De:=@PySem.F.plainAttrs_dict
abbrev Dc:=@List.countP_cons_of_pos
abbrev Db:=@Nat.lt_add_of_pos_right
abbrev rj:=@PySem.Paired.length
abbrev ri:=@List.any_cons
abbrev kJ:=@PyProof.Rows.wpS_get
abbrev yv:=@PySem.Calls.spliced_cons
abbrev tP:=@List.length_nil
abbrev n0:=@Nat.sub_lt
abbrev yu:=@Nat.eq_zero_or_pos
abbrev tO:=@PySem.PassesOwn.never
abbrev OT:=@List.eq_nil_iff_forall_not_mem
abbrev yt:=@PySem.tupleKind_room_in1
abbrev nZ:=@PySem.wpAny_rule
abbrev Da:=@List.Perm.append_right
abbrev C9:=@List.drop_eq_nil_of_le
abbrev pu:=@decide_true
abbrev yr:=@List.nodup_append
abbrev yq:=@PySem.wpAny_dictEntries
abbrev rh:=@Nat.lt_trans
abbrev C8:=@PySem.F.slot_dict_pop
abbrev OS:=@Array.extract_eq_empty_of_le
abbrev rg:=@List.sum_nil
abbrev C7:=@Nat.ble_eq_true_of_le
abbrev C6:=@Nat.le_of_ble_eq_true
abbrev rf:=@PySem.codeAny_mono
abbrev yp:=@Nat.min_eq_right
abbrev C5:=@Array.toList_reverse
abbrev C4:=@List.reverse_reverse
abbrev yo:=@Nat.lt_succ_self
abbrev yn:=@PySem.F.slot_tuple_mul
abbrev ym:=@Nat.zero_testBit
abbrev yk:=@PySem.wpAny_askSetting
abbrev SN:=@Array.getElem?_setIfInBounds_self_of_lt
abbrev C3:=@List.getElem?_range
abbrev C2:=@Nat.testBit_two_pow
abbrev yj:=@Int.emod_nonneg
abbrev yi:=@PySem.codeAny_builtin
abbrev yh:=@PySem.wpAny_ite_split
abbrev tN:=@Nat.ne_of_gt
abbrev OR:=@PySem.F.args_tuple_add_2
abbrev tM:=@Nat.sub_self
abbrev tL:=@Nat.add_zero
abbrev OQ:=@PySem.AutoSeq1.wpAny_loadPart'
abbrev C1:=@List.filter_filter
abbrev tK:=@Nat.pow_succ
abbrev C0:=@PySem.wpAny_pyIter_tuple
abbrev CZ:=@PySem.wpAny_Call_Name_kw
abbrev CY:=@PyProof.Rows.slot_tuple_getitem
abbrev OP:=@PySem.F.entry_tuple_add
abbrev OO:=@List.countP_cons_of_neg
abbrev ON:=@List.pairwise_singleton
abbrev OM:=@List.getElem?_cons_zero
abbrev OL:=@List.eraseIdx_cons_succ
abbrev CW:=@PySem.Calls.spliced_nil
abbrev CV:=@List.take_sublist
abbrev CU:=@PySem.Obj.cls_mapFields
abbrev CT:=@Nat.zero_lt_of_lt
abbrev CS:=@List.flatMap_cons
abbrev CQ:=@PySem.wpAny_pyIter_list
abbrev CP:=@PySem.wpAny_setState_of
abbrev OJ:=@PySem.F.slot_tuple_add
abbrev OI:=@PySem.Calls.callWith_builtin
abbrev OH:=@Nat.le_mul_of_pos_left
abbrev tJ:=@Nat.le_succ
abbrev tI:=@Int.add_mul
abbrev yg:=@PySem.W.mg_of
abbrev yf:=@Nat.mul_assoc
abbrev ye:=@PySem.wpAny_attempt
abbrev CO:=@List.getElem_inj
abbrev CN:=@List.ext_getElem
abbrev CM:=@List.getElem_map
abbrev CL:=@List.mem_reverse
abbrev CK:=@List.not_mem_nil
abbrev CJ:=@List.any_eq_true
abbrev pr:=@PyProof.Rows.wpS_lift
abbrev OG:=@PySem.F.slot_tuple_lt
abbrev OF:=@PySem.F.slot_dict_get
abbrev SM:=@Array.getElem?_setIfInBounds_ne
abbrev OE:=@Array.mem_toList_iff
abbrev OD:=@PySem.Calls.evalArgs_plain
abbrev yd:=@Nat.add_comm
abbrev OC:=@Array.toList_extract
abbrev yc:=@Int.le_trans
abbrev CH:=@List.find?_some
abbrev OB:=@PySem.Around.under_plainId
abbrev OA:=@List.nodup_iff_count
abbrev CG:=@Bool.decide_and
abbrev Oz:=@List.Pairwise.filter
abbrev Oy:=@Bool.and_eq_true_iff
abbrev CF:=@PySem.wpAny_execs_nil
abbrev tH:=@PySem.call_meets
abbrev ya:=@PySem.call_meetsIn
abbrev Ox:=@PySem.codeAny_call_builtin
abbrev Ov:=@List.filterMap_cons
abbrev Ou:=@List.filter_eq_self
abbrev Ot:=@Int.toNat_of_nonneg
abbrev Os:=@PySem.wpAny_setEntries_of
abbrev CD:=@List.drop_drop
abbrev CC:=@List.take_zero
abbrev CB:=@PySem.Heap.size_push
abbrev SL:=@PySem.F.slot_dict_setdefault
abbrev CA:=@PySem.wpAny_fieldsOf
abbrev x9:=@List.map_id
abbrev x8:=@Int.le_refl
abbrev x3:=@PySem.wpAny_field
abbrev SK:=@PyProof.Rows.callWith_type1
abbrev Oq:=@Array.append_empty
abbrev Op:=@Nat.pos_of_ne_zero
abbrev Oo:=@PySem.F.args_tuple_mul_2
abbrev On:=@Int.lt_of_le_of_lt
abbrev Om:=@of_decide_eq_false
abbrev SJ:=@Array.getElem?_eq_some_iff
abbrev Cz:=@Nat.add_assoc
abbrev SI:=@List.perm_ext_iff_of_nodup
abbrev Cy:=@Bool.and_true
abbrev Cw:=@PySem.wpAny_standAt
abbrev Ol:=@Nat.lt_succ_of_le
abbrev Oj:=@List.mapM_toArray
abbrev Oi:=@List.drop_sublist
abbrev Oh:=@List.getElem_drop
abbrev Og:=@List.getElem_take
abbrev Of:=@PySem.F.entry_tuple_mul
abbrev Oe:=@List.pairwise_map
abbrev Od:=@List.Pairwise.imp
abbrev Oc:=@List.Pairwise.map
abbrev Ob:=@PySem.wpAny_pyIter_slot
abbrev xZ:=@Nat.mod_lt
abbrev Cv:=@List.map_nil
abbrev Oa:=@Nat.max_eq_right
abbrev N9:=@List.perm_middle
abbrev Cu:=@Nat.succ_mul
abbrev Ct:=@Nat.xor_comm
abbrev Cs:=@Nat.mul_comm
abbrev N8:=@Option.getD_some
abbrev N7:=@List.Nodup.count
abbrev N6:=@map_eq_pure_bind
abbrev N5:=@List.of_mem_zip
abbrev N4:=@Nat.le_add_left
abbrev N3:=@List.nil_append
abbrev N2:=@Bool.or_eq_true
abbrev N1:=@Nat.and_div_two
abbrev Cr:=@Nat.two_pos
abbrev Cq:=@Int.mul_add
abbrev N0:=@List.Perm.refl
abbrev NZ:=@Int.mul_nonneg
set_option maxHeartbeats 0
namespace L2
open Spec PyProof.Rows
noncomputable abbrev cA:=Sum Int Str
def gE:cA->Value->Bool
 |.inl k,v=>Value.isInt k v
 |.inr x,v=>Value.isStrOf x v
def Pj(w:World):cA->Int
 |.inl k=>hashInt k
 |.inr x=>hashStr w x
theorem mW:∀{k:cA}{v:Value},gE k v=true->(∃i t,k=Sum.inl i/\v=Value.int i t)\/(∃x t,k=Sum.inr x/\v=Value.str x t)
 |.inl i,v,h=>by
  obtain⟨t,e⟩:=Value.isInt_shape (k:=i) (v:=v) h;exact .inl ⟨i,t,rfl,e⟩
 |.inr x,v,h=>by
  obtain⟨t,e⟩:=Value.isStrOf_shape (x:=x) (v:=v) h;exact .inr ⟨x,t,rfl,e⟩
theorem Nq(i:Int)(t:Tok):gE (.inl i) (.int i t)=true:=by simp[gE,Value.isInt]
theorem Nr(x:Str)(t:Tok):gE (.inr x) (.str x t)=true:=by simp[gE,Value.isStrOf]
theorem G4(a b:Int):decide ((Sum.inl a:cA)=Sum.inl b)=(a==b):=by
 by_cases e:a=b
 ·subst e;simp
 ·have h:¬ (Sum.inl a:cA)=Sum.inl b:=λq=>e (Sum.inl.inj q)
  rw[cO h];exact(pK.mpr e).symm
theorem G7(a b:Str):decide ((Sum.inr a:cA)=Sum.inr b)=decide (a=b):=by
 by_cases e:a=b
 ·subst e;simp
 ·have h:¬ (Sum.inr a:cA)=Sum.inr b:=λq=>e (Sum.inr.inj q)
  rw[cO h,cO e]
theorem G5(a:Int)(b:Str):decide ((Sum.inl a:cA)=Sum.inr b)=false:=cO (λq=>nomatch q)
theorem G6(a:Str)(b:Int):decide ((Sum.inr a:cA)=Sum.inl b)=false:=cO (λq=>nomatch q)
def aZ(c:Program) (w:World):PySem.KeyKind c w cA where
 is:=gE
 hash:=Pj w
 inj:=λv a b l g=>by
  rcases mW l with⟨i,t,rfl,rfl⟩|⟨x,t,rfl,rfl⟩
  ·rcases mW g with⟨j,u,rfl,e⟩|⟨y,u,rfl,e⟩
   ·injection e with d _;rw[d]
   ·exact nomatch e
  ·rcases mW g with⟨j,u,rfl,e⟩|⟨y,u,rfl,e⟩
   ·exact nomatch e
   ·injection e with d _;rw[d]
 byValue:=λk v h=>by
  rcases mW h with⟨i,t,rfl,rfl⟩|⟨x,t,rfl,rfl⟩<;>rfl
 pyHash:=λf h=>by
  rcases mW f with⟨i,t,rfl,rfl⟩|⟨x,t,rfl,rfl⟩
  ·exact wpAny_pyHash_int h
  ·exact wpAny_pyHash_str h
 eqBool:=λm f h=>by
  rcases mW m with⟨i,t,rfl,rfl⟩|⟨x,t,rfl,rfl⟩
  ·rcases mW f with⟨j,u,rfl,rfl⟩|⟨y,u,rfl,rfl⟩
   ·rw[G4] at h;exact wpAny_eqBool_int h
   ·rw[G5] at h;exact SeqAt.EqAt.int_str i t y u _ _ _ _ h
  ·rcases mW f with⟨j,u,rfl,rfl⟩|⟨y,u,rfl,rfl⟩
   ·rw[G6] at h;exact SeqAt.EqAt.str_int x t j u _ _ _ _ h
   ·rw[G7] at h;exact wpAny_eqBool_str h
 «strs»:=λk x t v h=>by
  rcases mW h with⟨i,u,rfl,e⟩|⟨y,u,rfl,e⟩
  ·exact nomatch e
  ·injection e with d _
   subst d;cases v<;>rfl
theorem Uq(a:Program)(w:World)(i:Int)(t:Tok):(aZ a w).is (.inl i) (.int i t)=true:=Nq i t
theorem Ur(a:Program)(w:World)(x:Str)(t:Tok):(aZ a w).is (.inr x) (.str x t)=true:=Nr x t
set_option genInjectivity true in
inductive V where
 |non|bl (b:Bool)|int (i:Int)|str (x:Str)|byt (b:Array UInt8)|flt (b:UInt64)|ref (a:Addr)|ty (n:String)
 deriving DecidableEq
noncomputable def RelV:V->Value->Prop
 |.non,u=>u=Value.none
 |.bl b,u=>u=Value.bool b
 |.int i,u=>∃t,u=Value.int i t
 |.str x,u=>∃t,u=Value.str x t
 |.byt b,u=>∃t,u=Value.bytes b t
 |.flt b,u=>∃t,u=Value.float b t
 |.ref a,u=>u=Value.ref a
 |.ty n,u=>u=Value.type n
abbrev am:List V->List Value->Prop:=Paired RelV
theorem am.length(r:am xs us):xs.length=us.length:=rj r
theorem am.get:∀{b:List V}{a:List Value}{i:Nat}{x:V},am b a->b[i]?=some x->∃u,a[i]?=some u/\RelV x u
 |_,_,_,_,.nil,e=>by simp at e
 |_,_,0,_,.cons r _,e=>by simp at e;subst e;exact⟨_,rfl,r⟩
 |_,_,i+1,x,.cons _ t,e=>by
  obtain⟨u,c,d⟩:=am.get (i:=i) (x:=x) t (by simpa using e);exact⟨u,by simpa using c,d⟩
theorem am.set(r:RelV x u):∀{b:List V}{a:List Value}(i:Nat),am b a->am (b.set i x) (a.set i u)
 |_,_,_,.nil=>.nil
 |_,_,0,.cons _ t=>.cons r t
 |_,_,i+1,.cons q t=>.cons q (am.set r i t)
theorem am.append:∀{d a:List V}{b c:List Value},am d b->am a c->am (d++a) (b++c)
 |_,_,_,_,.nil,s=>s
 |_,_,_,_,.cons r t,s=>.cons r (am.append t s)
theorem am.take:∀{b:List V}{a:List Value}(n:Nat),am b a->am (b.take n) (a.take n)
 |_,_,0,_=>.nil
 |_,_,_+1,.nil=>.nil
 |_,_,n+1,.cons r t=>.cons r (am.take n t)
theorem am.drop:∀{b:List V}{a:List Value}(n:Nat),am b a->am (b.drop n) (a.drop n)
 |_,_,0,r=>r
 |_,_,_+1,.nil=>.nil
 |_,_,n+1,.cons _ t=>am.drop n t
def fq:Option V->Option Value->Prop
 |some v,some u=>RelV v u
 |none,none=>True
 |_,_=>False
def KV{a:Type}:List (a×V)->List (a×Value)->Prop:=Paired λ(p:a×V) (q:a×Value)=>p.1=q.1/\RelV p.2 q.2
def kV:cA->V
 |.inl i=>.int i
 |.inr x=>.str x
set_option genInjectivity true in
inductive HO where
 /-- a list -/
 |lst (xs:List V)
 /-- a tuple (never changes) -/
 |tup (xs:List V)
 /-- a dict whose keys are ints and texts;one whose keys are tuples of ints and texts (the empty one is both) -/
 |dK (kvs:List (cA×V))|dT (kvs:List (List cA×V))
 /-- a set of ints: its members,its size -/
 |set (S:Int->Bool) (n:Nat)
 /-- an instance of the class at C,its dict at dx,its attributes -/
 |ins (C dx:Addr) (fs:List (Str×V))
 /-- the dict of the instance at x -/
 |own (x:Addr)
 /-- the dict of an exception -/
 |xd (fs:List (Str×V))
 /-- a bound method,f of x -/
 |met (f x:Addr)
 /-- a range object lo,lo+1,.. below hi -/
 |rng (lo hi:Int)
 /-- a thing that is known to the object (the script;a dict while a loop walks it): read,never written while it is so -/
 |frz (o:Obj) (u:HO)
 /-- a code object's table -/
 |tbl (ps:Array Value)
 /-- any other thing,by what is true of its one object (a def of one's own: SetO a S n:=HO.ext λh=>..) -/
 |ext (φ:Heap->Prop)
noncomputable abbrev Hp:=Addr->Option HO
def bf(H:Hp) (a:Addr) (o:HO):Hp:=λb=>if b=a then some o else H b
theorem zy:bf H a o a=some o:=by unfold bf;rw[if_pos rfl]
theorem zx(h:b≠a):bf H a o b=H b:=by unfold bf;rw[if_neg h]
theorem vt{H:Hp}{a b:Addr}{o u:HO}(h:H a=some o)(c:H b=some u)(d:o≠u):a≠b:=by
 intro e;subst e;rw[h] at c;exact d (g8 c)
theorem zp{H:Hp}{a b:Addr}{o:HO}(h:H a=some o)(c:H b=none):a≠b:=by
 intro e;subst e;rw[h] at c;cases c
section
variable (P:Program)(w:World)
def ba(H:Hp) (h:Heap) (a:Addr):HO->Prop
 |.lst c=>c.length<=sizeLine/\∃(b:List Value) (n:Nat),am c b/\h.get? a=some { cls:=.type "list",data:=.seq b.toArray n }
 |.tup c=>c.length<=sizeLine/\∃b:List Value,am c b/\IsTup h a b.toArray
 |.dK kvs=>kvs.length<=sizeLine/\(a==sysModules)=false/\∃e,KV kvs e/\h.DictOf (aZ P w) a e
 |.dT kvs=>kvs.length<=sizeLine/\(a==sysModules)=false/\∃c:List (List cA×Addr×Value),
  Paired (λ(p:List cA×V) (q:List cA×Addr×Value)=>p.1=q.1/\H q.2.1=some (.tup (p.1.map kV))/\RelV p.2 q.2.2) kvs c /\
  ∃o g k,h.get? a=some o/\o.ExactDict/\o.data=.dict g k/\g.toList=c.map (entryOfKey (tupleKind (aZ P w)))/\(c.map (·.1)).Nodup
 |.set S n=>h.SetOf (intKind P w) a S n
 |.ins C dx fs=>H dx=some (.own a)/\fs.length<=1000/\dx≠a/\h.get? a=some (W.instObj C dx) /\
  ∃d,h.Ns1 dx d/\(∀f,fq (fs.lookup f) (d f))/\PySem.Within d (fs.map (·.1))
 |.own _=>∃o,h.get? a=some o
 |.xd fs=>∃d,h.Ns1 a d/\∀f,fq (fs.lookup f) (d f)
 |.rng lo hi=>∃ t u v,h.get? a=some { cls:=.type "range",data:=.fields #[.int lo t,.int hi u,.int 1 v] }
 |.frz o u=>h.get? a=some o/\ba H h a u
 |.tbl ps=>h.get? a=some {cls:=.none,data:=.fields ps}
 |.met f x=>h.get? a=some (W.methodObj (.ref f) (.ref x))
 |.ext φ=>φ h/\(∃o,h.get? a=some o)/\∀j i:Heap,φ j->(∀o,j.get? a=some o->i.get? a=some o)->φ i
def fx(H:Hp) (h:Heap):Prop:=∀a o,H a=some o->ba P w H h a o
end
theorem ba.lt(x:ba P w H h a o):a<h.objs.size:=by
 cases o with
 |lst xs=>obtain⟨_,_,_,_,e⟩:=x;exact cZ e
 |tup xs=>obtain⟨_,_,_,p⟩:=x;exact p.lt
 |dK kvs=>obtain⟨_,_,_,_,o,_,_,e,_⟩:=x;exact cZ e
 |dT kvs=>obtain⟨_,_,_,_,o,_,_,e,_⟩:=x;exact cZ e
 |set S n=>obtain⟨o,_,_,_,e,_⟩:=x;exact cZ e
 |ins C dx fs=>obtain⟨_,_,_,e,_⟩:=x;exact cZ e
 |own y=>obtain⟨_,e⟩:=x;exact cZ e
 |xd fs=>obtain⟨_,⟨_,_,_,e,_⟩,_⟩:=x;exact cZ e
 |rng lo hi=>obtain⟨_,_,_,e⟩:=x;exact cZ e
 |frz ob u=>obtain⟨e,_⟩:=x;exact cZ e
 |tbl ps=>exact cZ (show h.get? a=some _ from x)
 |met f y=>exact cZ (show h.get? a=some _ from x)
 |ext φ=>obtain⟨_,⟨_,e⟩,_⟩:=x;exact cZ e
section
variable {a:Addr}
theorem Paired.mapP{e g:Type}{F G:e->g->Prop}:∀{c:List e}{d:List g},Paired F c d->(∀a b,F a b->G a b)->Paired G c d
 |_,_,.nil,_=>.nil
 |_,_,.cons r t,f=>.cons (f _ _ r) (Paired.mapP t f)
end
theorem ba.stay{h:Heap}{s:Heap}(x:ba P w H h a o)(k:∀b u,(b=a\/H b=some (.own a))->h.get? b=some u->s.get? b=some u)
  (X:∀b,H b=some (.own a)->H' b=some (.own a))(U:∀b m,H b=some (.tup m)->H' b=some (.tup m)):ba P w H' s a o:=by
 induction o with
 |lst m=>obtain⟨z,l,n,r,e⟩:=x;exact⟨z,l,n,r,k _ _ (.inl rfl) e⟩
 |tup m=>obtain⟨z,l,r,g,e,c⟩:=x;exact⟨z,l,r,g,k _ _ (.inl rfl) e,c⟩
 |dK kvs=>obtain⟨z,y,J,r,g,i,j,e,c⟩:=x;exact⟨z,y,J,r,g,i,j,k _ _ (.inl rfl) e,c⟩
 |dT kvs=>
  obtain⟨z,y,m,r,g,i,j,e,c⟩:=x;exact⟨z,y,m,Paired.mapP r λp q z=>⟨z.1,U _ _ z.2.1,z.2.2⟩,g,i,j,k _ _ (.inl rfl) e,c⟩
 |set S n=>obtain⟨g,i,j,t,e,c⟩:=x;exact⟨g,i,j,t,k _ _ (.inl rfl) e,c⟩
 |ins C dx fs=>
  obtain⟨d,z,I,e,E,⟨A,i,j,Q,c⟩,r⟩:=x;exact⟨X _ d,z,I,k _ _ (.inl rfl) e,E,⟨A,i,j,k _ _ (.inr d) Q,c⟩,r⟩
 |own y=>obtain⟨g,e⟩:=x;exact⟨g,k _ _ (.inl rfl) e⟩
 |xd fs=>obtain⟨E,⟨A,i,j,e,c⟩,r⟩:=x;exact⟨E,⟨A,i,j,k _ _ (.inl rfl) e,c⟩,r⟩
 |rng lo hi=>obtain⟨t,u,v,e⟩:=x;exact⟨t,u,v,k _ _ (.inl rfl) e⟩
 |frz g u ih=>obtain⟨e,q⟩:=x;exact⟨k _ _ (.inl rfl) e,ih q⟩
 |tbl ps=>
  have e:h.get? a=some {cls:=.none,data:=.fields ps}:=x;show s.get? a=some {cls:=.none,data:=.fields ps};exact k a _ (.inl rfl) e
 |met f y=>
  have e:h.get? a=some (W.methodObj (.ref f) (.ref y)):=x;show s.get? a=some (W.methodObj (.ref f) (.ref y));exact k a _ (.inl rfl) e
 |ext φ=>obtain⟨p,⟨o,e⟩,G⟩:=x;exact⟨G _ _ p λo q=>k _ _ (.inl rfl) q,⟨o,k _ _ (.inl rfl) e⟩,G⟩
theorem fx.lt(x:fx P w H h)(e:H a=some o):a<h.objs.size:=(x a o e).lt
theorem fx.fresh(x:fx P w H h)(e:h.objs.size<=a):H a=none:=by
 cases q:H a with
 |none=>rfl
 |some u=>exact absurd (da (x.lt q) e) (n6 _)
theorem fx.kept{h':Heap}(x:fx P w H h)(k:∀b u,h.get? b=some u->h'.get? b=some u):fx P w H h':=λa o e=>
 (x a o e).stay (λb u _ q=>k b u q) (λ_ q=>q) λ_ _ q=>q
section
variable {P:Program}{w:World}{H:Hp}{h:Heap}{h':Heap}{a:Addr}{o:HO}
theorem fx.laid(x:fx P w H h)(k:∀b u,h.get? b=some u->h'.get? b=some u)(g:h.objs.size<=a)(d:ba P w (bf H a o) h' a o):fx P w (bf H a o) h':=λb u e=>by
 have f:=x.fresh g;by_cases hb:b=a
 ·subst hb;rw[zy] at e;cases e;exact d
 ·rw[zx hb] at e;exact(x b u e).stay (λc v _ q=>k c v q) (λc q=>by rw[zx (zp q f)];exact q) λc i q=>by rw[zx (zp q f)];exact q
end
def Rd(H:Hp) (a:Addr) (u:HO):Prop:=H a=some u\/∃o,H a=some (.frz o u)
theorem Rd.ok(r:Rd H a u)(x:fx P w H h):ba P w H h a u:=by
 rcases r with r|⟨o,r⟩
 ·exact x a u r
 ·obtain⟨_,q⟩:=x a _ r;exact q
noncomputable def AH:Option HO->Prop
 |some (.lst _)=>True
 |some (.dK _)=>True
 |some (.dT _)=>True
 |some (.set _ _)=>True
 |some (.ins _ _ _)=>True
 |some (.ext _)=>True
 |_=>False
theorem fx.write{h':Heap}(n:fx P w H h)(f:AH (H x))(m:e=x\/H e=some (.own x))(k:∀b u,b≠e->h.get? b=some u->h'.get? b=some u)(i:∃u,h'.get? e=some u)
  (j:ba P w (bf H x o') h' x o'):fx P w (bf H x o') h':=λb u q=>by
 have a:∀c y,H c=some (.own y)->c≠x:=λc y r z=>by subst z;rw[r] at f;exact f
 have d:∀c g,H c=some (.tup g)->c≠x:=λc g r z=>by subst z;rw[r] at f;exact f
 by_cases hb:b=x
 ·subst hb;rw[zy] at q;cases q;exact j
 ·rw[zx hb] at q;by_cases hbe:b=e
  ·have l:H b=some (.own x):=by
    rcases m with z|z
    ·exact absurd (hbe.trans z) hb
    ·rw[hbe];exact z
   rw[q] at l;cases l
   obtain⟨v,o⟩:=i;exact⟨v,by rw[hbe];exact o⟩
  ·refine(n b u q).stay (λc v hc r=>k c v ?_ r) (λc r=>by rw[zx (a c b r)];exact r) λc g r=>by rw[zx (d c g r)];exact r
   rcases hc with rfl|hc
   ·exact hbe
   ·rintro rfl;rcases m with z|z
    ·exact a c b hc z
    ·rw[hc] at z;cases z;exact hb rfl
structure Un (fs ex:List Addr) (H H':Hp) (h h':Heap):Prop where
 keep:∀b o,h.get? b=some o->H b=none->b∉fs->b∉ex->h'.get? b=some o
 slot:∀b o,h.get? b=some o->H b=none->b∈fs->b∉ex->∃sl,h'.get? b=some {o with slots:=sl}
 free:∀b o,h.get? b=some o->H b=none->b∉ex->H' b=none
 there:∀b o,h.get? b=some o->b∉ex->∃o',h'.get? b=some o'
 tups:∀b xs,H b=some (.tup xs)->H' b=some (.tup xs)
 frzs:∀b o u,H b=some (.frz o u)->H' b=some (.frz o u)
 tbls:∀b ps,H b=some (.tbl ps)->∃more,H' b=some (.tbl (ps++more))
theorem Un.any(u:Un fs ex H H1 h h1) (q:h.get? b=some ob)(n:H b=none)(a:b∉ex):∃c,h1.get? b=some {ob with slots:=c}:=by
 by_cases hb:b∈fs
 ·exact u.slot b ob q n hb a
 ·exact⟨ob.slots,u.keep b ob q n hb a⟩
theorem Un.kept{h:Heap}{h':Heap}(k:∀b u,h.get? b=some u->h'.get? b=some u):Un fs ex H H h h':=
 ⟨λb a q _ _ _=>k b a q,λb a q _ _ _=>⟨a.slots,k b a q⟩,λ_ _ _ n _=>n,λb a q _=>⟨a,k b a q⟩,λ_ _ q=>q,λ_ _ _ q=>q,λ_ c q=>⟨#[],by rw[q];simp⟩⟩
theorem Un.refl:Un fs ex H H h h:=Un.kept λ_ _ q=>q
section
variable {fs:List Addr}{ex:List Addr}{H:Hp}{h:Heap}{h':Heap}{a:Addr}{o:HO}
theorem Un.laid(k:∀b u,h.get? b=some u->h'.get? b=some u)(e:h.objs.size<=a)(c:H a=none):Un fs ex H (bf H a o) h h' where
 keep:=λb u q _ _ _=>k b u q
 slot:=λb u q _ _ _=>⟨u.slots,k b u q⟩
 free:=λb u q n _=>by rw[zx (dJ (da (cZ q) e))];exact n
 there:=λb u q _=>⟨u,k b u q⟩
 tups:=λb d q=>by rw[zx (zp q c)];exact q
 frzs:=λb u d q=>by rw[zx (zp q c)];exact q
 tbls:=λb f q=>⟨#[],by rw[zx (zp q c),q];simp⟩
end
theorem Un.write{h:Heap}{h':Heap}(a:AH (H x))(l:e=x\/H e=some (.own x))(k:∀b u,b≠e->h.get? b=some u->h'.get? b=some u)(c:∃u,h'.get? e=some u):Un fs ex H (bf H x o) h h':=by
 have g:∀b,H b=none->b≠x:=λb n z=>by subst z;rw[n] at a;exact a
 have f:∀b,H b=none->b≠e:=λb n z=>by
  subst z;rcases l with r|r
  ·exact g b n r
  ·rw[n] at r;cases r
 have d:∀b u,H b=some u->¬ AH (some u)->b≠x:=λb u q i z=>by subst z;rw[q] at a;exact i a
 refine⟨λb u q n _ _=>k b u (f b n) q,λb u q n _ _=>⟨u.slots,k b u (f b n) q⟩,λb u q n _=>by rw[zx (g b n)];exact n,λb u q _=>?_,
  λb j q=>by rw[zx (d b _ q λz=>z)];exact q,λb u j q=>by rw[zx (d b _ q λz=>z)];exact q,λb m q=>⟨#[],by rw[zx (d b _ q λz=>z),q];simp⟩⟩
 by_cases hbe:b=e
 ·subst hbe;exact c
 ·exact⟨u,k b u hbe q⟩
def Di(h:Heap) (H:Hp):List Addr:=(List.range h.objs.size).filter λa=>(H a).isSome
def iF(h:Heap) (H:Hp):Heap:=W.hideAll h (Di h H)
theorem Nl(h:Heap)(H:Hp):(iF h H).objs.size=h.objs.size:=W.hideAll_size _ _
theorem Lq{h:Heap}(e:h.get? b=some o)(n:H b=none):(iF h H).get? b=some o:=
 W.hideAll_get _ e λa=>by
  have q:(H b).isSome=true:=(dH.mp a).2;rw[n] at q;simp at q
theorem JJ(e:(iF h H).get? b=some o):h.get? b=some o/\H b=none:=by
 have a:h.get? b=some o:=W.of_hideAll (Di h H) e;refine⟨a,?_⟩;cases q:H b with
 |none=>rfl
 |some x=>
  have c:b∈Di h H:=dH.mpr ⟨bR.mpr (cZ a),by simp[q]⟩;have z:(iF h H).get? b=none:=W.hideAll_none (Di h H) c;rw[z] at e;cases e
structure Mod (K:Fg) (mg:Str->Option Value) (base:Heap):Prop where
 kin:K.In base
 glob:base.Ns mainGlobals mg
 blt:∃ mb,base.Ns builtinsNs mb/\∀ x:Str,x≠"__name__"->mb x=bootBuiltins x
 nolimit:base.NoLimit
structure Cx where
 prog:Program
 w:World
 K:Fg
 mg:Str->Option Value
 base:Heap
 A:Around
 N:List Str
 s₀:Shared
 H₀:Hp
 env:Env
 outer:List Env
 stack:List Env
 ex:List Addr
 fn:Str->Bool
 calm:Bool
 pn:List (Addr×Obj)
 xe:Value->Shared->Prop
noncomputable def kn(l:List Env):List Addr:=l.filterMap (·.frame)
abbrev Cx.fs(X:Cx):List Addr:=kn X.outer
noncomputable def uj(a:Scope) (x:Str):Prop:=a.names.lookup x=some .local\/a.names.lookup x=some .cell\/a.names.lookup x=some .free
noncomputable def Loc(a:Scope) (x:Str):Prop:=a.names.lookup x=some .local\/a.names.lookup x=some .cell
noncomputable def Look(a:Env) (h:Heap) (m:Str->Option Value) (x:Str) (u:Value):Prop:=
 (a.kindOf x=some .local/\m x=some u)\/((a.kindOf x=some .cell\/a.kindOf x=some .free)/\∃c,a.cells.lookup x=some c/\h.IsCell c (some u))
structure Cx.Ok (X:Cx):Prop where
 mod:Mod X.K X.mg X.base
 kind:X.env.scope.kind=.function
 glob:X.env.globals=mainGlobals
 blt:X.env.builtins=builtinsNs
 above:X.s₀.heap.objs.size<=X.env.locals
 inj:∀x y c,X.env.cells.lookup x=some c->X.env.cells.lookup y=some c->x=y
 has:∀x,(X.env.kindOf x=some .cell\/X.env.kindOf x=some .free)->∃c,X.env.cells.lookup x=some c
 cab:∀x c,X.fn x=true->X.env.cells.lookup x=some c->X.s₀.heap.objs.size<=c
 hd:X.calm=true->X.A.handled=none
 frames:X.A.frames=some X.stack
 stk:X.stack=X.outer\/(X.stack=X.env::X.outer/\X.env.frame=some X.env.locals)
 exf:∀b∈X.ex,b≠X.env.locals/\∀x c,X.env.cells.lookup x=some c->c≠b
 bs:∀b o,X.base.get? b=some o->X.s₀.heap.get? b=some o/\X.H₀ b=none
 bsz:X.base.objs.size<=X.s₀.heap.objs.size
 noex:∀b o,X.base.get? b=some o->b∉X.ex
 exfs:∀b∈X.ex,b∉X.fs
 funs:X.s₀.heap.FunFrames X.base X.outer
 frf:∀b∈X.fs,X.H₀ b=none
def sE(A:Around) (H:Hp):Prop:=∀v,A.handled=some v->∃a o,v=.ref a/\H a=some (.frz o (.ext λ_=>True))/\∃b,o.data=.fields b/\b[2]?=some .none
theorem sE.map(h:sE A H)(f:∀b o u,H b=some (.frz o u)->H' b=some (.frz o u)):sE A H':=λv e=>let ⟨a,o,h1,h2,h3⟩:=h v e;⟨a,o,h1,f _ _ _ h2,h3⟩
theorem sE.none{A:Around}(h:A.handled=.none):sE A H:=λv e=>by rw[h] at e;cases e
structure Inv (X:Cx) (aU:List (Addr×Obj)) (σ:List (Option V)) (H:Hp) (s:Shared):Prop where
 ok:X.Ok
 os:s.os=X.s₀.os
 bare:AllBare s.gens
 base:Un X.fs X.ex X.H₀ H X.s₀.heap s.heap
 loc:∃m,s.heap.Ns X.env.locals m/\∀(i:Nat) (x:Str) (v:V),X.N[i]?=some x->σ[i]?=some (some v)->uj X.env.scope x->∃u,RelV v u/\Look X.env s.heap m x u
 cell:∀x c,X.env.cells.lookup x=some c->∃v,s.heap.IsCell c v
 free:H X.env.locals=none
 freeC:∀x c,X.env.cells.lookup x=some c->H c=none
 pin:∀p∈X.pn++aU,s.heap.get? p.1=some p.2/\H p.1=none/\p.1≠X.env.locals/\p.1∉X.fs/\∀v,p.2.data≠.cell v
 hok:fx X.prog X.w H s.heap
 len:σ.length=X.N.length
 hnd:sE X.A H
theorem Cx.Ok.nofr{X:Cx}(a:X.Ok) (e:X.base.get? b=some o):b∉X.fs:=λc=>by
 have:=(a.funs.mem c).1;rw[e] at this;cases this
theorem Inv.bs(I:Inv X aU σ H s):∀b o,X.base.get? b=some o->s.heap.get? b=some o/\H b=none:=λb o e=>
 ⟨I.base.keep b o (I.ok.bs b o e).1 (I.ok.bs b o e).2 (I.ok.nofr e) (I.ok.noex b o e),I.base.free b o (I.ok.bs b o e).1 (I.ok.bs b o e).2 (I.ok.noex b o e)⟩
theorem Inv.bk(I:Inv X aU σ H s):∀b o,X.base.get? b=some o->s.heap.get? b=some o:=λb o e=>(I.bs b o e).1
theorem Inv.mod(I:Inv X aU σ H s):Mod X.K X.mg X.base:=I.ok.mod
theorem Inv.kIn(I:Inv X aU σ H s):X.K.In s.heap:=I.ok.mod.kin.keeps I.bk
theorem Inv.lt(I:Inv X aU σ H s):X.env.locals<s.heap.objs.size:=let ⟨_,hn,_⟩:=I.loc;hn.lt
theorem Inv.sz(I:Inv X aU σ H s):X.s₀.heap.objs.size<=s.heap.objs.size:=ay I.ok.above (dj I.lt)
theorem Inv.nofs(I:Inv X aU σ H s) (h:s.heap.objs.size<=a):a∉X.fs:=λb=>by
 obtain⟨_,o,c,_⟩:=I.ok.funs.mem b;exact absurd (da (cZ c) (ay I.sz h)) (n6 _)
theorem Inv.cne(I:Inv X aU σ H s):∀x c,X.env.cells.lookup x=some c->c≠X.env.locals:=λx c e z=>by
 obtain⟨v,o,f,d⟩:=I.cell x c e;obtain⟨m,⟨g,h,i,b,a,_⟩,_⟩:=I.loc;rw[z,b] at f;cases f;rw[a] at d;cases d
theorem Inv.funs(I:Inv X aU σ H s):s.heap.FunFrames X.base X.outer:=by
 have f:∀(l:List Env),(∀b∈kn l,b∈X.fs)->X.s₀.heap.FunFrames X.base l->s.heap.FunFrames X.base l:=by
  intro l
  induction l with
  |nil=>intro _ _;trivial
  |cons env r ih=>
   intro g j;obtain⟨m,⟨L,o,a,h,n,i⟩,k⟩:=j;have d:L∈X.fs:=g L (by unfold kn;rw[Ov,a];exact dB);obtain⟨p,e⟩:=I.base.slot L o n (I.ok.frf L d) d λz=>I.ok.exfs L z d
   exact⟨m,⟨L,_,a,h,e,i⟩,ih (λb c=>g b (by unfold kn;rw[Ov,a];exact bU _ c)) k⟩
 exact f X.outer (λ_ c=>c) I.ok.funs
theorem Inv.stack(I:Inv X aU σ H s):s.heap.FunFrames X.base X.stack:=by
 rcases I.ok.stk with e|⟨e,b⟩
 ·rw[e];exact I.funs
 ·rw[e];obtain⟨m,a,_⟩:=I.loc;refine .cons (by rw[I.ok.kind];decide) b a ?_ I.funs;exact Heap.get?_none_of_le (ay I.ok.bsz I.ok.above)
theorem Inv.stkSub(I:Inv X aU σ H s):∀b∈kn X.stack,b∈X.env.locals::X.fs:=λb a=>by
 rcases I.ok.stk with e|⟨e,c⟩
 ·rw[e] at a;exact bU _ a
 ·rw[e] at a;unfold kn at a;rw[Ov,c] at a;exact a
theorem Inv.stkFree(I:Inv X aU σ H s):∀b∈kn X.stack,H b=none:=λb hb=>by
 rcases ca.mp (I.stkSub b hb) with e|hb
 ·rw[e];exact I.free
 ·obtain⟨_,o,a,_⟩:=I.ok.funs.mem hb;exact I.base.free b o a (I.ok.frf b hb) λz=>I.ok.exfs b z hb
section
variable {X:Cx}{aU:List (Addr×Obj)}{σ:List (Option V)}{H:Hp}{H':Hp}{s:Shared}{h':Heap}
theorem Inv.step{g':Array GenState}{t':Nat}{d':Drawn}{ch:List Addr}(I:Inv X aU σ H s)
  (g:∀b∈ch,(b∈X.ex\/X.s₀.heap.objs.size<=b)/\b≠X.env.locals/\(∀x c,X.env.cells.lookup x=some c->c≠b)/\∀p∈X.pn++aU,p.1≠b)
  (t:∀b o,b≠X.env.locals->b∉X.fs->b∉ch->s.heap.get? b=some o->H b=none->h'.get? b=some o)
  (A:∀b o,b≠X.env.locals->b∈X.fs->b∉ch->s.heap.get? b=some o->H b=none->∃sl,h'.get? b=some {o with slots:=sl})(f:∀b o,b∉ch->s.heap.get? b=some o->H b=none->H' b=none)
  (G:∀b o,b∉ch->s.heap.get? b=some o->∃Q,h'.get? b=some Q)
  (Y:∀b C,H b=some (.tup C)->H' b=some (.tup C))(E:∀b o u,H b=some (.frz o u)->H' b=some (.frz o u))(a0:∀b ps,H b=some (.tbl ps)->∃a1,H' b=some (.tbl (ps++a1)))
  (ns:∀m,s.heap.Ns X.env.locals m->h'.Ns X.env.locals m)(a3:fx X.prog X.w H' h')(hg:AllBare g'):
  Inv X aU σ H' {s with heap:=h',gens:=g',drawn:=d',toks:=t'}:=by
 have U:∀b o,X.s₀.heap.get? b=some o->b≠X.env.locals:=λb o e=>dJ (da (cZ e) I.ok.above)
 have y:∀b o,X.s₀.heap.get? b=some o->b∉X.ex->b∉ch:=λb o e a J=>by
  rcases(g b J).1 with z|z
  ·exact a z
  ·exact absurd (da (cZ e) z) (n6 _)
 have j:∀x c,X.env.cells.lookup x=some c->∀v,s.heap.IsCell c v->h'.IsCell c v:=λx c e v a4=>by
  obtain⟨o,P,hd⟩:=a4;have h:c∉ch:=λz=>(g c z).2.2.1 x c e rfl
  by_cases hc:c∈X.fs
  ·obtain⟨sl,q⟩:=A c o (I.cne x c e) hc h P (I.freeC x c e);exact⟨_,q,hd⟩
  ·exact⟨o,t c o (I.cne x c e) hc h P (I.freeC x c e),hd⟩
 refine⟨I.ok,I.os,hg,⟨λb o e n J a=>?_,λb o e n J a=>?_,λb o e n a=>?_,λb o e a=>?_,λb C e=>Y b C (I.base.tups b C e),λb o C e=>E b o C (I.base.frzs b o C e),λb ps e=>?_⟩,?_,λx c e=>?_,?_,λx c e=>?_,λp hp=>?_,a3,I.len,I.hnd.map E⟩
 ·exact t b o (U b o e) J (y b o e a) (I.base.keep b o e n J a) (I.base.free b o e n a)
 ·obtain⟨sl,w⟩:=I.base.slot b o e n J a;obtain⟨a2,S⟩:=A b _ (U b o e) J (y b o e a) w (I.base.free b o e n a);exact⟨a2,S⟩
 ·obtain⟨Q,w⟩:=I.base.there b o e a;exact f b Q (y b o e a) w (I.base.free b o e n a)
 ·obtain⟨Q,w⟩:=I.base.there b o e a;exact G b Q (y b o e a) w
 ·obtain⟨m1,w⟩:=I.base.tbls b ps e;obtain⟨m2,S⟩:=a0 b _ w;exact⟨m1++m2,by rw[S,Array.append_assoc]⟩
 ·obtain⟨m,hn,hl⟩:=I.loc;refine⟨m,ns m hn,λi x v w S e3=>?_⟩;obtain⟨u,r,l⟩:=hl i x v w S e3;refine⟨u,r,?_⟩;rcases l with l|⟨k,c,e,z⟩
  ·exact .inl l
  ·exact .inr ⟨k,c,e,j x c e _ z⟩
 ·obtain⟨v,z⟩:=I.cell x c e;exact⟨v,j x c e v z⟩
 ·obtain⟨m,⟨o,_,_,P,_⟩,_⟩:=I.loc;exact f _ o (λz=>(g _ z).2.1 rfl) P I.free
 ·obtain⟨v,o,P,hd⟩:=I.cell x c e;exact f c o (λz=>(g c z).2.2.1 x c e rfl) P (I.freeC x c e)
 ·obtain⟨e,n,ne,nf,d⟩:=I.pin p hp;have h:p.1∉ch:=λz=>(g p.1 z).2.2.2 p hp rfl
  exact⟨t p.1 p.2 ne nf h e n,f p.1 p.2 h e n,ne,nf,d⟩
theorem Inv.un{t':Nat}(I:Inv X aU σ H s)(u:Un X.fs [] H H' s.heap h')(f:fx X.prog X.w H' h'):Inv X aU σ H' {s with heap:=h',toks:=t'}:=by
 obtain⟨m,⟨o,q,t,h,r⟩,_⟩:=id I.loc;obtain⟨v,j⟩:=u.any h I.free (by simp)
 exact I.step (g':=s.gens) (d':=s.drawn) (ch:=[]) (λ_ z=>nomatch z) (λb o _ d _ e n=>u.keep b o e n d (by simp)) (λb o _ d _ e n=>u.slot b o e n d (by simp)) (λb o _ e n=>u.free b o e n (by simp)) (λb o _ e=>u.there b o e (by simp)) u.tups u.frzs u.tbls (λp k=>by
  obtain⟨l,c,g,a,i⟩:=k;rw[h] at a;cases a
  exact⟨_,c,g,j,i⟩) f I.bare
theorem Inv.call{g':Array GenState}{t':Nat}{d':Drawn}{ch:List Addr}(I:Inv X aU σ H s)(u:Un (kn X.stack) ch H H' s.heap h')(h:fx X.prog X.w H' h')(v:AllBare g')
  (d:∀b∈ch,(b∈X.ex\/X.s₀.heap.objs.size<=b)/\b≠X.env.locals/\(∀x c,X.env.cells.lookup x=some c->c≠b)/\∀p∈X.pn++aU,p.1≠b):
  Inv X aU σ H' {s with heap:=h',gens:=g',drawn:=d',toks:=t'}:=by
 obtain⟨m,⟨o,C,A,k,r⟩,_⟩:=id I.loc;obtain⟨E,i⟩:=u.any k I.free λz=>(d _ z).2.1 rfl
 exact I.step (ch:=ch) d (λb o i t a e n=>u.keep b o e n (λz=>(ca.mp (I.stkSub b z)).elim i t) a) (λb o _ _ a e n=>u.any e n a) (λb o a e n=>u.free b o e n a) (λb o a e=>u.there b o e a) u.tups u.frzs u.tbls (λy q=>by
  obtain⟨w,g,j,f,l⟩:=q;rw[k] at f;cases f
  exact⟨_,g,j,i,l⟩) h v
end
section
variable {X:Cx}{aU:List (Addr×Obj)}{σ:List (Option V)}{H:Hp}{s:Shared}{h':Heap}
theorem Inv.turned{t':Nat}{it:Addr}(I:Inv X aU σ H s)(k:∀b o,b≠it->s.heap.get? b=some o->h'.get? b=some o)(g:H it=none)(f:it≠X.env.locals)
  (A:it∈X.ex\/X.s₀.heap.objs.size<=it)(l:∀x c,X.env.cells.lookup x=some c->c≠it)(w:∀p∈X.pn++aU,p.1≠it):Inv X aU σ H {s with heap:=h',toks:=t'}:=by
 have d:∀b u,H b=some u->b≠it:=λb u e z=>by rw[z,g] at e;cases e
 refine I.step (g':=s.gens) (d':=s.drawn) (ch:=[it]) (λb j=>?_) (λb o _ _ a e _=>k b o (λz=>a (by simp[z])) e) (λb o _ _ a e _=>⟨o.slots,k b o (λz=>a (by simp[z])) e⟩) (λ_ _ _ _ n=>n)
  (λb o a e=>⟨o,k b o (λz=>a (by simp[z])) e⟩) (λ_ _ e=>e) (λ_ _ _ e=>e) (λb C e=>⟨#[],by rw[e];simp⟩) (λm y=>?_) (λb u e=>?_) I.bare
 ·have e:b=it:=by simpa using j
  subst e;exact⟨A,f,l,w⟩
 ·obtain⟨o,h,i,t,r⟩:=y;exact⟨o,h,i,k _ o (fX f) t,r⟩
 ·refine(I.hok b u e).stay (λc v a q=>k c v ?_ q) (λ_ q=>q) λ_ _ q=>q
  rcases a with z|z
  ·rw[z];exact d b u e
  ·exact d c _ z
end
theorem Inv.tok(I:Inv X aU σ H s)(t:Nat):Inv X aU σ H {s with toks:=t}:=I.un (h':=s.heap) (t':=t) Un.refl I.hok
theorem Inv.kept{h':Heap}(I:Inv X aU σ H s)(k:∀b u,s.heap.get? b=some u->h'.get? b=some u):Inv X aU σ H {s with heap:=h',toks:=t'}:=I.un (Un.kept k) (I.hok.kept k)
theorem Inv.laid{d:Heap}(I:Inv X aU σ H s)(k:∀b u,s.heap.get? b=some u->d.get? b=some u)(e:s.heap.objs.size<=a)(c:ba X.prog X.w (bf H a o) d a o):
 Inv X aU σ (bf H a o) {s with heap:=d,toks:=t'}:=I.un (Un.laid k e (I.hok.fresh e)) (I.hok.laid k e c)
theorem Inv.write{c:Heap}(I:Inv X aU σ H s)(f:AH (H x))(g:e=x\/H e=some (.own x))(k:∀b u,b≠e->s.heap.get? b=some u->c.get? b=some u)(a:∃u,c.get? e=some u)
 (d:ba X.prog X.w (bf H x o) c x o):Inv X aU σ (bf H x o) {s with heap:=c,toks:=t'}:=I.un (Un.write f g k a) (I.hok.write f g k a d)
theorem Inv.pins_of(I:Inv X aU σ H s)(h:∀p∈a,s.heap.get? p.1=some p.2/\H p.1=none/\p.1≠X.env.locals/\p.1∉X.fs/\∀v,p.2.data≠.cell v):Inv X a σ H s:=
 ⟨I.ok,I.os,I.bare,I.base,I.loc,I.cell,I.free,I.freeC,λp b=>(dk.mp b).elim (λz=>I.pin p (ub _ z)) (h p),I.hok,I.len,I.hnd⟩
theorem Qo{N:List Str}(e:N.Nodup){i j:Nat}{x:Str}(a:N[i]?=some x)(b:N[j]?=some x):i=j:=by
 obtain⟨g,d⟩:=db.mp a;obtain⟨f,c⟩:=db.mp b;exact(CO e).mp (d.trans c.symm)
theorem Ru{s:Shared}{M:Model}{i:Nat}{x:Str}(I:Inv X aU σ H s)(hN:X.N.Nodup)(Y:X.N[i]?=some x)(t:Loc X.env.scope x)(r:RelV v u)
  (h:∀s',Inv X aU (σ.set i (some v)) H s'->(∃a,Heap.SameBut a s.heap s'.heap/\(a=X.env.locals\/X.env.cells.lookup x=some a))->Q () s')(hf:X.fn x=true\/X.env.scope.names.lookup x=some .local:=by first|exact .inl rfl|exact .inr rfl|assumption):wpAny M A (storeName X.env x u) Q E s:=by
 obtain⟨m,hn,hl⟩:=id I.loc;have a2:(X.env.scope.kind==.class||(X.env.scope.kind==.module&&X.env.locals != X.env.globals))=false:=by rw[I.ok.kind];rfl
 have G:i < σ.length:=by rw[I.len];exact(db.mp Y).1
 have P:=I.cne;have l:∀{a:Addr}{h':Heap},(∃o,s.heap.get? a=some o/\H a=none)->Heap.SameBut a s.heap h'->fx X.prog X.w H h':=λ{a h'} ha f b ob e=>by
  obtain⟨_,_,w⟩:=ha;refine(I.hok b ob e).stay (λc w' hc q=>(f.2 c ?_).trans q) (λ_ q=>q) λ_ _ q=>q
  rintro rfl;rcases hc with rfl|hc
  ·rw[w] at e;cases e
  ·rw[w] at hc;cases hc
 rcases t with hk|hk
 ·refine wpAny_storeName_local hk hn (λh' a4 f=>?_) a2;obtain⟨oL,_,_,a3,_⟩:=id hn;refine h _ ⟨I.ok,I.os,I.bare,⟨λb o e n J t=>?_,λb o e n J t=>?_,I.base.free,λb o e t=>?_,I.base.tups,I.base.frzs,I.base.tbls⟩,⟨_,a4,λj y v' g C e3=>?_⟩,λy c e=>?_,I.free,I.freeC,λp hp=>?_,l ⟨oL,a3,I.free⟩ f,by simpa using I.len,I.hnd⟩ ⟨_,f,.inl rfl⟩
  ·exact(f.2 b (dJ (da (cZ e) I.ok.above))).trans (I.base.keep b o e n J t)
  ·obtain⟨sl,g⟩:=I.base.slot b o e n J t;exact⟨sl,(f.2 b (dJ (da (cZ e) I.ok.above))).trans g⟩
  ·obtain⟨o',g⟩:=I.base.there b o e t;exact⟨o',(f.2 b (dJ (da (cZ e) I.ok.above))).trans g⟩
  ·by_cases hj:j=i
   ·subst hj;rw[Y] at g;cases g
    rw[pR G] at C;cases C;exact⟨u,r,.inl ⟨hk,by simp⟩⟩
   ·rw[fu (fX hj)] at C;obtain⟨u',r',q⟩:=hl j y v' g C e3;refine⟨u',r',?_⟩;rcases q with⟨k,e⟩|⟨k,c,e,z⟩
    ·refine .inl ⟨k,?_⟩;have:y≠x:=λe=>hj (Qo hN g (e ▸ Y))
     simp[this,e]
    ·exact .inr ⟨k,c,e,z.sameBut f (P y c e)⟩
  ·obtain⟨w',z⟩:=I.cell y c e;exact⟨w',z.sameBut f (P y c e)⟩
  ·obtain⟨e,n,ne,nf,d⟩:=I.pin p hp;exact⟨(f.2 p.1 ne).trans e,n,ne,nf,d⟩
 ·have S:X.fn x=true:=by
   rcases hf with z|z
   ·exact z
   ·rw[z] at hk;cases hk
  obtain⟨c,hc⟩:=I.ok.has x (.inl hk);obtain⟨w',z⟩:=I.cell x c hc;refine wpAny_storeName_cell I.ok.kind hk hc z (λh' a0 f=>?_);obtain⟨oc,a1,U⟩:=id z;refine h {s with heap:=h'} ⟨I.ok,I.os,I.bare,⟨λb o e n J t=>?_,λb o e n J t=>?_,I.base.free,λb o e t=>?_,I.base.tups,I.base.frzs,I.base.tbls⟩,⟨m,hn.sameBut f (fX (P x c hc)),λj y v' g C e3=>?_⟩,λy c' e=>?_,I.free,I.freeC,λp hp=>?_,l ⟨oc,a1,I.freeC x c hc⟩ f,by simpa using I.len,I.hnd⟩ ⟨c,f,.inr hc⟩
  ·exact(f.2 b (dJ (da (cZ e) (I.ok.cab x c S hc)))).trans (I.base.keep b o e n J t)
  ·obtain⟨sl,g⟩:=I.base.slot b o e n J t;exact⟨sl,(f.2 b (dJ (da (cZ e) (I.ok.cab x c S hc)))).trans g⟩
  ·obtain⟨o',g⟩:=I.base.there b o e t;exact⟨o',(f.2 b (dJ (da (cZ e) (I.ok.cab x c S hc)))).trans g⟩
  ·by_cases hj:j=i
   ·subst hj;rw[Y] at g;cases g
    rw[pR G] at C;cases C;exact⟨u,r,.inr ⟨.inl hk,c,hc,a0⟩⟩
   ·rw[fu (fX hj)] at C;obtain⟨u',r',q⟩:=hl j y v' g C e3;refine⟨u',r',?_⟩;rcases q with q|⟨k,c',e,z'⟩
    ·exact .inl q
    ·refine .inr ⟨k,c',e,z'.sameBut f ?_⟩;rintro rfl;exact hj (Qo hN g (I.ok.inj _ _ _ e hc ▸ Y))
  ·by_cases hcc:c'=c
   ·subst hcc;exact⟨_,a0⟩
   ·obtain⟨w2,z2⟩:=I.cell y c' e;exact⟨w2,z2.sameBut f hcc⟩
  ·obtain⟨e,n,ne,nf,d⟩:=I.pin p hp;refine⟨(f.2 p.1 ?_).trans e,n,ne,nf,d⟩;intro q;rw[q,a1] at e;have q':oc=p.2:=g8 e;exact d w' (by rw[←q'];exact U)
theorem Ew{M:Model}(I:Inv X aU σ H s)(d:X.N.Nodup)(f:X.N[i]?=some x)(e:Loc X.env.scope x)(r:RelV v u)
  (h:∀a,Inv X aU (σ.set i (some v)) H a->Q () a)(c:X.fn x=true\/X.env.scope.names.lookup x=some .local:=by first|exact .inl rfl|exact .inr rfl|assumption):wpAny M A (storeName X.env x u) Q E s:=
 Ru I d f e r (λa b _=>h a b) c
theorem Inv.call'{s':Shared}{ch:List Addr}(I:Inv X h σ H s)(l:s'.os=s.os)(u:Un (kn X.stack) ch H H' s.heap s'.heap)(d:fx X.prog X.w H' s'.heap)(k:AllBare s'.gens)
  (a:∀b∈ch,(b∈X.ex\/X.s₀.heap.objs.size<=b)/\b≠X.env.locals/\(∀x c,X.env.cells.lookup x=some c->c≠b)/\∀p∈X.pn++h,p.1≠b):Inv X h σ H' s':=by
 obtain⟨m,g,i,f,j⟩:=s';have e:j=s.os:=l;subst e;exact I.call (g':=g) (t':=f) (d':=i) u d k a
abbrev XK:=Value->Option Addr->Hp->Prop
noncomputable abbrev St:=List (Option V)
abbrev VK:=V->Hp->Prop
abbrev TE:=St->Hp->VK->Prop
abbrev TT:=St->Hp->(Bool->Hp->Prop)->Prop
abbrev TA:=St->Hp->(List V->Hp->Prop)->Prop
structure lf where
 nx:St->Hp->Prop
 rt:VK
 bk:St->Hp->Prop:=λ_ _=>False
 ct:St->Hp->Prop:=λ_ _=>False
abbrev TS:=lf->St->Hp->Prop
def EP(X:Cx) (b:List (Addr×Obj)) (c:St) (Q:VK) (u:Value) (d:Shared):Prop:=∃v a,Inv X b c a d/\RelV v u/\Q v a
def TP(X:Cx) (c:List (Addr×Obj)) (d:St) (Q:Bool->Hp->Prop) (b:Bool) (e:Shared):Prop:=∃a,Inv X c d a e/\Q b a
def AP(X:Cx) (d:List (Addr×Obj)) (f:St) (Q:List V->Hp->Prop) (c:List Value) (e:Shared):Prop:=∃a b,Inv X d f b e/\am a c/\Q a b
def SP(X:Cx) (c:List (Addr×Obj)) (D:lf) (f:Flow) (d:Shared):Prop:=
 match f with
 |.next=>∃a b,Inv X c a b d/\D.nx a b
 |.brk=>∃a b,Inv X c a b d/\D.bk a b
 |.cont=>∃a b,Inv X c a b d/\D.ct a b
 |.ret u=>∃v a b,Inv X c a b d/\RelV v u/\D.rt v b
def PE(X:Cx) (e:Expr) (t:TE):Prop:=
 ∀(b:List (Addr×Obj)) (s:Shared) (a:St) (H:Hp) (Q:VK),Inv X b a H s->t a H Q->wpAny (model X.prog X.w) X.A (eval e X.env) (EP X b a Q) X.xe s
def PT(X:Cx) (e:Expr) (t:TT):Prop:=
 ∀(b:List (Addr×Obj)) (s:Shared) (a:St) (H:Hp) (Q:Bool->Hp->Prop),Inv X b a H s->t a H Q->wpAny (model X.prog X.w) X.A (isTrue e X.env (eval e X.env)) (TP X b a Q) X.xe s
def PW(X:Cx) (e:Expr) (t:TT):Prop:=
 ∀(a:Sem Value) (c:List (Addr×Obj)) (s:Shared) (b:St) (H:Hp) (Q:Bool->Hp->Prop),Inv X c b H s->t b H Q->wpAny (model X.prog X.w) X.A (isTrue e X.env a) (TP X c b Q) X.xe s
theorem PW.pt(h:PW X e t):PT X e t:=h _
def PA(X:Cx) (d:List Expr) (t:TA):Prop:=
 ∀(a:Pos) (c:List (Addr×Obj)) (s:Shared) (b:St) (H:Hp) (Q:List V->Hp->Prop),Inv X c b H s->t b H Q->wpAny (model X.prog X.w) X.A (spliced (backTo a (starEach d X.env))) (AP X c b Q) X.xe s
def PS(X:Cx) (c:Stmt) (t:TS):Prop:=
 ∀(a:List (Addr×Obj)) (s:Shared) (b:St) (H:Hp) (D:lf),Inv X a b H s->t D b H->wpAny (model X.prog X.w) X.A (exec c X.env) (SP X a D) X.xe s
def jf(X:Cx) (c:List Stmt) (t:TS):Prop:=
 ∀(a:List (Addr×Obj)) (s:Shared) (b:St) (H:Hp) (D:lf),Inv X a b H s->t D b H->wpAny (model X.prog X.w) X.A (execs c X.env) (SP X a D) X.xe s
theorem bw{b:Type}{t:Sem b}{Q c:b->Shared->Prop}{M:Model}(h:wpAny M A t Q E s)(d:∀a s,Q a s->c a s):wpAny M A t c E s:=ir h d λ_ _ x=>x
def oy(i:Nat):TE:=λa H Q=>∃v,a[i]?=some (some v)/\Q v H
def tC(v:V):TE:=λ_ H Q=>Q v H
theorem HI{X:Cx}(o:X.N[i]?=some x)(n:uj X.env.scope x)(d:(x==("__debug__" : Str))=false:=by decide)(f:(x==("__classdict__" : Str))=false:=by decide):PE X (.Name x pos) (oy i):=by
 intro k s q H Q I h;obtain⟨v,e,h⟩:=h;obtain⟨m,j,p⟩:=I.loc;obtain⟨u,r,l⟩:=p i x v o e n;have b:EP X k q Q u s:=⟨v,H,I,r,h⟩
 rcases l with⟨hk,t⟩|⟨hk,c,g,a⟩
 ·exact wpAny_Name (wpAny_loadName_local I.ok.kind hk j t b) d
 ·rcases hk with hk|hk
  ·exact wpAny_Name (wpAny_loadName_cell I.ok.kind hk g a b) d
  ·exact wpAny_Name (wpAny_loadName_free I.ok.kind hk g a b f) d
theorem HC{i j pos}:PE X (.Constant (.int i) j pos) (tC (.int i)):=λ_ _ _ H _ I h=>wpAny_Constant_int ⟨.int i,H,I.tok _,⟨_,rfl⟩,h⟩
theorem FV{b j pos}:PE X (.Constant (.bool b) j pos) (tC (.bl b)):=λ_ _ _ H _ I h=>Constant_bool ⟨.bl b,H,I,rfl,h⟩
theorem HD{j pos}:PE X (.Constant .none j pos) (tC .non):=λ_ _ _ H _ I h=>Constant_none ⟨.non,H,I,rfl,h⟩
theorem HG{x j pos}:PE X (.Constant (.str x) j pos) (tC (.str x)):=λ_ _ _ H _ I h=>Calls.Constant_str ⟨.str x,H,I.tok _,⟨_,rfl⟩,h⟩
noncomputable def Gl(X:Cx) (x:Str):Prop:=X.env.kindOf x=some .globalImplicit
theorem xj(I:Inv X aU σ H s)(a:Gl X x)(c:X.mg x=some u)(h:Q u s)
  (b:(x==("__debug__" : Str))=false:=by decide):wpAny (model X.prog X.w) X.A (eval (.Name x pos) X.env) Q E s:=
 Calls.Name_function_global I.ok.kind a (Calls.loadGlobal_global (by rw[I.ok.glob];exact I.mod.glob.keeps I.bk) c h) b
theorem ut(I:Inv X aU σ H s)(e:Gl X x)(f:X.mg x=none)(c:bootBuiltins x=some u)(h:Q u s)
  (a:x≠"__name__":=by decide)(b:(x==("__debug__" : Str))=false:=by decide):wpAny (model X.prog X.w) X.A (eval (.Name x pos) X.env) Q E s:=by
 obtain⟨i,g,d⟩:=I.mod.blt;exact Calls.Name_function_global I.ok.kind e (Calls.loadGlobal_builtin (by rw[I.ok.glob];exact I.mod.glob.keeps I.bk) f (by rw[I.ok.blt];exact g.keeps I.bk) ((d x a).trans c) h) b
theorem DX(a:Gl X x)(c:X.mg x=some u)(r:RelV v u)(b:(x==("__debug__" : Str))=false:=by decide):PE X (.Name x pos) (tC v):=
 λ_ _ _ H _ I h=>xj I a c ⟨v,H,I,r,h⟩ b
theorem DV(d:Gl X x)(e:X.mg x=none)(c:bootBuiltins x=some u)(r:RelV v u)(a:x≠"__name__":=by decide)(b:(x==("__debug__" : Str))=false:=by decide):PE X (.Name x pos) (tC v):=
 λ_ _ _ H _ I h=>ut I d e c ⟨v,H,I,r,h⟩ a b
def PC(X:Cx) (g:CmpOp) (a b:Expr) (t:TE):Prop:=
 ∀(f:List (Addr×Obj)) (s:Shared) (e:St) (H:Hp) (Q:VK),Inv X f e H s->t e H Q ->
  wpAny (model X.prog X.w) X.A (eval a X.env) (λv c=>wpAny (model X.prog X.w) X.A (eval b X.env) (λu d=>wpAny (model X.prog X.w) X.A (compareOp g v u) (EP X f e Q) X.xe d) X.xe c) X.xe s
def tB(t:TE):TT:=λa H Q=>t a H λx H1=>∃c,x=.bl c/\Q c H1
theorem HB(h:PC X op a b t)(f:behindInMarks op b=false:=by first|exact nobehind _ (by decide) (by decide)|rfl):PE X (.Compare a [op] [b] pos) t:=λc s e H Q I d=>wpAny_Compare1 (h c s e H Q I d) f
section
variable {X:Cx}{a:Expr}{b:Expr}{pos:Pos}
theorem HR{f:CmpOp}{t:TE}(h:PC X f a b t)(g:behindInMarks f b=false:=by first|exact nobehind _ (by decide) (by decide)|rfl):PT X (.Compare a [f] [b] pos) (tB t):=by
 intro j s o H Q I n;refine wpAny_isTrue_Compare1 (bw (h j s o H _ I n) λv w g=>bw g λu r k=>bw k λc p e=>?_) g;obtain⟨x,H1,i,m,l⟩:=e;obtain⟨d,rfl,q⟩:=l;cases m;exact og ⟨H1,i,q⟩
end
def O9(t u:TT):TT:=λa H Q=>t a H λc H1=>if c=true then u a H1 Q else Q false H1
def V3(t u:TT):TT:=λa H Q=>t a H λc H1=>if c=true then Q true H1 else u a H1 Q
def O0(t:TT):TT:=λa H Q=>t a H λc H1=>Q (!c) H1
section
variable {X:Cx}{a:Expr}{pos:Pos}{tA:TT}
theorem oF(b:PT X a tA):PW X (.BoolOp .And [a] pos) tA:=by
 intro i d s f H Q I h;refine isTrue_and (bw (b d s f H Q I h) λc g e=>?_);cases c with
 |true=>exact isTrue_and_nil e
 |false=>exact e
theorem rT(b:PT X a tA):PW X (.BoolOp .Or [a] pos) tA:=by
 intro i d s f H Q I h;refine isTrue_or (bw (b d s f H Q I h) λc g e=>?_);cases c with
 |false=>exact isTrue_or_nil e
 |true=>exact e
end
section
variable {X:Cx}{a:Expr}{b:Expr}{pos:Pos}{tA:TT}{tB':TT}{rest:List Expr}
theorem rV(j:PT X a tA)(k:PW X (.BoolOp .And (b::rest) pos) tB'):PW X (.BoolOp .And (a::b::rest) pos) (O9 tA tB'):=by
 intro l f s i H Q I h;refine isTrue_and (bw (j f s i H _ I h) λc m d=>?_);obtain⟨H1,e,g⟩:=d;cases c with
 |true=>exact k l f m i H1 Q e g
 |false=>exact⟨H1,e,g⟩
theorem zC(j:PT X a tA)(k:PW X (.BoolOp .Or (b::rest) pos) tB'):PW X (.BoolOp .Or (a::b::rest) pos) (V3 tA tB'):=by
 intro l f s i H Q I h;refine isTrue_or (bw (j f s i H _ I h) λc m d=>?_);obtain⟨H1,e,g⟩:=d;cases c with
 |true=>exact⟨H1,e,g⟩
 |false=>exact k l f m i H1 Q e g
end
theorem HS(b:PT X a tA):PT X (.UnaryOp .Not a pos) (O0 tA):=by
 intro d s e H Q I h;exact isTrue_not (b d s e H (λc H1=>Q (!c) H1) I h)
def yN(b tb:TE):TE:=λa H Q=>b a H λx H1=>∃c,x=.bl c/\if c=true then tb a H1 Q else Q (.bl false) H1
def yI(a:TE):TE:=λb H Q=>a b H λx H1=>∃c,x=.bl c/\Q (.bl (!c)) H1
theorem HF{op} (h:PE X a t):PE X (.BoolOp op [a] pos) t:=λb s d H Q I c=>BoolOp_one (h b s d H Q I c)
section
variable {X:Cx}{a:Expr}{b:Expr}{ta:TE}{tb:TE}{pos:Pos}{rest:List Expr}
theorem HA(j:PE X a ta)(l:PE X (.BoolOp .And (b::rest) pos) tb):PE X (.BoolOp .And (a::b::rest) pos) (yN ta tb):=by
 intro g s i H Q I h;refine BoolOp_and (bw (j g s i H _ I h) λv k e=>?_);obtain⟨x,H1,f,m,d⟩:=e;obtain⟨c,rfl,d⟩:=d;cases m;refine og ?_;cases c with
 |true=>exact l g k i H1 Q f d
 |false=>exact⟨.bl false,H1,f,rfl,d⟩
end
section
variable {X:Cx}{a:Expr}{ta:TE}{pos:Pos}
theorem HE(f:PE X a ta):PE X (.UnaryOp .Not a pos) (yI ta):=by
 intro g s j H Q I h;refine UnaryOp_ (bw (f g s j H _ I h) λv k b=>?_);obtain⟨x,H1,e,i,d⟩:=b;obtain⟨c,rfl,d⟩:=d;cases i;exact not_of (og ⟨.bl (!c),H1,e,rfl,d⟩)
end
def V4(t:TT) (b tb:TE):TE:=λa H Q=>t a H λc H1=>if c=true then b a H1 Q else tb a H1 Q
section
variable {X:Cx}{a:Expr}{b:Expr}{ta:TE}{tb:TE}{pos:Pos}{tA:TT}
theorem Mi{c:Expr}(n:PT X c tA)(l:PE X a ta)(m:PE X b tb):PE X (.IfExp c a b pos) (V4 tA ta tb):=by
 intro f s g H Q I h;refine wpAny_IfExp (bw (n f s g H _ I h) λd j e=>?_);obtain⟨H1,i,k⟩:=e;cases d with
 |true=>exact l f j g H1 Q i k
 |false=>exact m f j g H1 Q i k
end
def dr(K:Fg) (H:Hp) (a:Addr) (c:List V):Prop:=
 Rd H a (.lst c) \/
  ∃(o:Obj) (b:Array Value) (n:Nat),K.lookup a=some o/\o.cls=.type "list"/\o.dict=none/\o.data=.seq b n/\b.size<=sizeLine/\am c b.toList
def cH(K:Fg) (H:Hp) (a:Addr) (c:List V):Prop:=
 Rd H a (.tup c) \/
  ∃(o:Obj) (b:Array Value) (n:Nat),K.lookup a=some o/\o.cls=.type "tuple"/\o.data=.seq b n/\b.size<=sizeLine/\am c b.toList
noncomputable def PJ:Value->Option V
 |.none=>some .non
 |.bool b=>some (.bl b)
 |.int i _=>some (.int i)
 |.str x _=>some (.str x)
 |.bytes b _=>some (.byt b)
 |.float b _=>some (.flt b)
 |.ref a=>some (.ref a)
 |.type n=>some (.ty n)
 |_=>none
theorem RelV.abs(r:RelV x u):PJ u=some x:=by
 cases x with
 |non=>cases r;rfl
 |bl _=>cases r;rfl
 |int _=>obtain⟨t,rfl⟩:=r;rfl
 |str _=>obtain⟨t,rfl⟩:=r;rfl
 |byt _=>obtain⟨t,rfl⟩:=r;rfl
 |flt _=>obtain⟨t,rfl⟩:=r;rfl
 |ref _=>cases r;rfl
 |ty _=>cases r;rfl
theorem RelV.inj(r:RelV x u)(q:RelV y u):x=y:=g8 (r.abs.symm.trans q.abs)
theorem am.inj:∀{c a:List V}{b:List Value},am c b->am a b->c=a
 |_,_,_,.nil,.nil=>rfl
 |_,_,_,.cons r t,.cons r' t'=>by rw[r.inj r',am.inj t t']
section
variable {H:Hp}{a:Addr}{xs:List V}
theorem dr.of{K:Fg}(h:H a=some (.lst xs)):dr K H a xs:=.inl (.inl h)
theorem cH.of{K:Fg}(h:H a=some (.tup xs)):cH K H a xs:=.inl (.inl h)
end
theorem Inv.list(I:Inv X aU σ H s)(h:dr X.K H a xs):∃b:List Value,am xs b/\PlainL s.heap a b.toArray/\xs.length<=sizeLine:=by
 rcases h with h|⟨o,b,n,f,g,c,d,i,r⟩
 ·obtain⟨z,b,n,r,e⟩:=h.ok I.hok;exact⟨b,r,⟨_,n,e,rfl,rfl,rfl⟩,z⟩
 ·refine⟨b.toList,r,⟨o,n,I.kIn a o f,g,c,by simpa using d⟩,?_⟩;have e:=r.length;simp only[fZ] at e;lia
theorem Inv.tuple(I:Inv X aU σ H s)(h:cH X.K H a xs):∃b:List Value,am xs b/\IsTup s.heap a b.toArray/\xs.length<=sizeLine:=by
 rcases h with h|⟨o,b,n,d,f,c,g,r⟩
 ·obtain⟨z,b,r,p⟩:=h.ok I.hok;exact⟨b,r,p,z⟩
 ·refine⟨b.toList,r,⟨o,I.kIn a o d,f,n,by simpa using c⟩,?_⟩;have e:=r.length;simp only[fZ] at e;lia
theorem Inv.list_inj(I:Inv X aU σ H s)(h:dr X.K H a xs)(j:dr X.K H a ys):xs=ys:=by
 obtain⟨b,r,⟨o,n,e,_,_,d⟩,_⟩:=I.list h;obtain⟨its',g,⟨l,k,c,_,_,f⟩,_⟩:=I.list j;rw[e] at c;cases c
 rw[d] at f;injection f with i _
 have:b=its':=by simpa using congrArg Array.toList i
 subst this;exact r.inj g
theorem Inv.tuple_inj(I:Inv X aU σ H s)(h:cH X.K H a xs)(j:cH X.K H a ys):xs=ys:=by
 obtain⟨b,r,⟨o,e,_,n,d⟩,_⟩:=I.tuple h;obtain⟨its',g,⟨l,c,_,k,f⟩,_⟩:=I.tuple j;rw[e] at c;cases c
 rw[d] at f;injection f with i _
 have:b=its':=by simpa using congrArg Array.toList i
 subst this;exact r.inj g
noncomputable abbrev Cx.wish(X:Cx) (E:Value->Shared->Prop):Cx:={X with xe:=E}
abbrev Cx.nox(X:Cx):Cx:=X.wish λ_ _=>False
theorem Cx.Ok.wish{X:Cx}(a:X.Ok)(E:Value->Shared->Prop):(X.wish E).Ok:=
 ⟨a.mod,a.kind,a.glob,a.blt,a.above,a.inj,a.has,a.cab,a.hd,a.frames,a.stk,a.exf,a.bs,a.bsz,a.noex,a.exfs,a.funs,a.frf⟩
theorem Cx.Ok.unwish{X:Cx}(a:(X.wish E).Ok):X.Ok:=
 ⟨a.mod,a.kind,a.glob,a.blt,a.above,a.inj,a.has,a.cab,a.hd,a.frames,a.stk,a.exf,a.bs,a.bsz,a.noex,a.exfs,a.funs,a.frf⟩
theorem Inv.wish(I:Inv X aU σ H s)(E:Value->Shared->Prop):Inv (X.wish E) aU σ H s:=⟨I.ok.wish E,I.os,I.bare,I.base,I.loc,I.cell,I.free,I.freeC,I.pin,I.hok,I.len,I.hnd⟩
theorem Inv.unwish{X:Cx}(I:Inv (X.wish E) aU σ H s):Inv X aU σ H s:=⟨I.ok.unwish,I.os,I.bare,I.base,I.loc,I.cell,I.free,I.freeC,I.pin,I.hok,I.len,I.hnd⟩
theorem SP.unwish{X:Cx}{D:lf}(h:SP (X.wish E) aU D f s'):SP X aU D f s':=by
 cases f with
 |next=>obtain⟨a,b,I,q⟩:=h;exact⟨a,b,I.unwish,q⟩
 |brk=>obtain⟨a,b,I,q⟩:=h;exact⟨a,b,I.unwish,q⟩
 |cont=>obtain⟨a,b,I,q⟩:=h;exact⟨a,b,I.unwish,q⟩
 |ret u=>obtain⟨v,a,b,I,r,q⟩:=h;exact⟨v,a,b,I.unwish,r,q⟩
section
variable {X:Cx}{aU:List (Addr×Obj)}{σ:St}{H:Hp}{s:Shared}
theorem jf.nox{a:List Stmt}{t:TS}(h:jf X.nox a t):jf X a t:=λaU s σ H D I b=>
 ir (h aU s σ H D (I.wish _) b) (λ_ _ q=>q.unwish) λ_ _ z=>False.elim z
end
def yJ:TS:=λD a H=>D.nx a H
def OY(t u:TS):TS:=λD a H=>t {D with nx:=u D} a H
theorem Kf:jf X [] yJ:=λ_ _ a H _ I h=>CF ⟨a,H,I,h⟩
section
variable {X:Cx}{au:Stmt}{rest:List Stmt}{t:TS}{u:TS}
theorem Mq(j:PS X au t)(e:jf X rest u):jf X (au::rest) (OY t u):=by
 intro b s i H D I h;refine wpAny_execs_cons (bw (j b s i H {D with nx:=u D} I h) λf d q=>?_);cases f with
 |next=>
  obtain⟨a,g,c,q⟩:=q;exact e b d a g D c q
 |ret v=>exact q
 |brk=>exact q
 |cont=>exact q
end
section
variable {X:Cx}{au:Stmt}{t:TS}
theorem Kg(c:PS X au t):jf X [au] t:=by
 intro a s b H D I h;refine wpAny_execs_cons (bw (c a s b H D I h) λf d q=>?_);cases f with
 |next=>exact CF q
 |ret v=>exact q
 |brk=>exact q
 |cont=>exact q
end
def rQ:TS:=λD a H=>D.bk a H
theorem Mo:PS X (.Break pos) rQ:=λ_ _ a H _ I h=>wpAny_Break ⟨a,H,I,h⟩
theorem Inv.quiet(I:Inv X aU σ H s):interactive X.env=false:=by simp[interactive,I.ok.kind]
def yK(b:TE):TS:=λD a H=>b a H λ_ H1=>D.nx a H1
section
variable {X:Cx}{e:Expr}{te:TE}{pos:Pos}
theorem Kd(g:PE X e te)(d:swapsWith e none pos.line X.env=pure false:=by rfl):PS X (.Expr e pos) (yK te):=by
 intro c s a H D I h;exact wpAny_Expr_any (bw (g c s a H _ I h) λv i ⟨x,H1,b,j,f⟩=>⟨a,H1,b,f⟩) I.quiet d
end
def OZ(a:TE):TS:=λD b H=>a b H D.rt
section
variable {X:Cx}{e:Expr}{te:TE}{pos:Pos}
theorem HP(f:PE X e te):PS X (.Return (some e) pos) (OZ te):=by
 intro c s a H D I h;exact wpAny_Return_some (bw (f c s a H _ I h) λv i ⟨x,H1,b,g,d⟩=>⟨x,a,H1,b,g,d⟩)
end
def O3(c:TT) (t u:TS):TS:=λD a H=>c a H λb H1=>if b=true then t D a H1 else u D a H1
section
variable {X:Cx}{t:TS}{u:TS}{pos:Pos}
theorem F0{c:Expr}{a b:List Stmt}{l:TT}(o:PT X c l)(m:jf X a t)(n:jf X b u):PS X (.If c a b pos) (O3 l t u):=by
 intro f s g H D I h;refine wpAny_If (bw (o f s g H _ I h) λd j e=>?_);obtain⟨H1,i,k⟩:=e;cases d with
 |true=>exact m f j g H1 D i k
 |false=>exact n f j g H1 D i k
end
abbrev TG:=V->St->Hp->(St->Hp->Prop)->Prop
abbrev su:=List V->St->Hp->(St->Hp->Prop)->Prop
def PG(X:Cx) (a:Expr) (t:TG):Prop:=
 ∀(c:List (Addr×Obj)) (s:Shared) (e:St) (H:Hp) (v:V) (u:Value) (Q:St->Hp->Prop),Inv X c e H s->RelV v u->t v e H Q ->
  wpAny (model X.prog X.w) X.A (assign a X.env u) (λ_ f=>∃b d,Inv X c b d f/\Q b d) X.xe s
def sw(X:Cx) (g:List Expr) (t:su):Prop:=
 ∀(d:List (Addr×Obj)) (s:Shared) (f:St) (H:Hp) (c:List V) (b:List Value) (Q:St->Hp->Prop),Inv X d f H s->am c b->t c f H Q ->
  wpAny (model X.prog X.w) X.A (assignInOrder ((assignEach g X.env).map (·.2)) b) (λ_ h=>∃a e,Inv X d a e h/\Q a e) X.xe s
abbrev sr:=V->V->V->Hp->(Hp->Prop)->Prop
def AE(X:Cx) (t:sr):Prop:=
 ∀(a:List (Addr×Obj)) (s:Shared) (e:St) (H:Hp) (o i v:V) (d c u:Value) (Q:Hp->Prop),Inv X a e H s->RelV o d->RelV i c->RelV v u->t o i v H Q ->
  wpAny (model X.prog X.w) X.A (setItem d c u) (λ_ f=>∃b,Inv X a e b f/\Q b) X.xe s
abbrev AB:=V->V->Hp->VK->Prop
def AF(X:Cx) (c:Operator) (t:AB):Prop:=
 ∀(a:List (Addr×Obj)) (s:Shared) (b:St) (H:Hp) (x y:V) (v u:Value) (Q:VK),Inv X a b H s->RelV x v->RelV y u->t x y H Q ->
  wpAny (model X.prog X.w) X.A (inplaceOp c v u) (EP X a b Q) X.xe s
def i9(i:Nat):TG:=λv a H Q=>Q (a.set i (some v)) H
theorem J2{X:Cx}(c:X.N.Nodup)(e:X.N[i]?=some x)(d:Loc X.env.scope x)(b:X.fn x=true\/X.env.scope.names.lookup x=some .local:=by first|exact .inl rfl|exact .inr rfl|assumption):PG X (.Name x pos) (i9 i):=by
 intro f s j H v u Q I r h;exact wpAny_assign_Name (Ew I c e d r (λg a=>⟨_,H,a,h⟩) b)
def Pr:su:=λa b H Q=>a=[]/\Q b H
def zV(t:TG) (u:su):su:=λc b H Q=>∃v r,c=v::r/\t v b H λa d=>u r a d Q
theorem J3:sw X [] Pr:=by
 intro b s a H d c Q I r h;obtain⟨e,h⟩:=h;subst e;cases r;exact assignInOrder_nil ⟨a,H,I,h⟩
section
variable {X:Cx}
theorem Mk{e:Expr}{a:List Expr}{t:TG}{u:su}(n:PG X e t)(k:sw X a u)
  (j:(assignEach (e::a) X.env).map (·.2)=assign e X.env::(assignEach a X.env).map (·.2):=by rfl):sw X (e::a) (zV t u):=by
 intro d s m H p o Q I r h;obtain⟨v,q,g,h⟩:=h;subst g;cases r with
 |cons r rr=>
  rw[j];refine assignInOrder_cons (bw (n d s m H _ _ _ I r h) λ_ i b=>?_);obtain⟨c,H1,f,l⟩:=b;exact k d i c H1 _ _ Q f rr l
end
def Pp(K:Fg) (n:Nat) (t:su):TG:=λv c H Q=>∃a b,v=.ref a/\cH K H a b/\b.length=n/\t b c H Q
theorem HK{X:Cx}(y:X.calm=true)(h:sw X es t)
  (l:(assignEach es X.env).length=n:=by rfl)(c:(assignEach es X.env).findIdx? (·.1)=none:=by rfl):PG X (.Tuple es k pos) (Pp X.K n t):=by
 intro g s i H v u Q I r d;obtain⟨a,x,p,C,w,d⟩:=d;subst p;cases r;obtain⟨q,f,z,E⟩:=I.tuple C;refine assign_Tuple_tuple (I.ok.hd y) z (by simp[l,←w,f.length]) c λA m=>?_
 have j:Inv X g i H {s with heap:=A}:=I.kept (t':=s.toks) λb o e=>m b o (dJ (cZ e)) e
 exact h g _ i H x _ Q j (by simpa using f) d
def Pq(to b:TE) (t:sr):TG:=λv a H Q=>to a H λo H1=>b a H1 λi H2=>t o i v H2 λH3=>Q a H3
section
variable {X:Cx}{pos:Pos}
theorem HJ{o i:Expr}{to f:TE}{t:sr}(k:PE X o to)(j:PE X i f)(m:AE X t)
  (E:∀v,assign (.Subscript o i pos) X.env v=(do
   let b ←holding [v] (eval o X.env)
   let c ←holding [v,b] (eval i X.env)
   standAt pos
   holding [v,b,c] (setItem b c v)
   release [v,b,c] []):=by intro _;rfl):PG X (.Subscript o i pos) (Pq to f t):=by
 intro e s d H v u Q I r h;rw[E];refine ag (jz (bw (k e s d H _ I h) λb g a=>?_));obtain⟨x,H1,z,p,G⟩:=a;refine ag (jz (bw (j e g d H1 _ z G) λc l a=>?_));obtain⟨y,H2,q,A,n⟩:=a;refine ag (Cw (ag (jz (bw (m e l d H2 x y v b c u _ q p A r n) λ_ J a=>?_))));obtain⟨H3,w,C⟩:=a;exact wpAny_release ⟨d,H3,w,C⟩
end
def oA(b:TE) (g:TG):TS:=λD a H=>b a H λx H1=>g x a H1 D.nx
section
variable {X:Cx}{pos:Pos}
theorem wu{a e:Expr}{d:TE}{g:TG}(n:PE X e d)(m:PG X a g)(k:swapsWithSole [a] e pos.line X.env=pure false:=by rfl)(p:swappedStores [a] e X.env=pure none:=by rfl)
  (r:(assignEach [a] X.env).map (·.2)=[assign a X.env]:=by rfl):PS X (.Assign [a] e pos) (oA d g):=by
 intro c s f H D I h;refine wpAny_Assign_stores (bw (n c s f H _ I h) λv j b=>?_) k p;obtain⟨x,H1,i,o,l⟩:=b;rw[r];exact bw (m c j f H1 x v _ i o l) λ_ t q=>q
theorem HQ{i:Nat}{x:Str}{e:Expr}{c:TE}{a:Pos}(l:X.N.Nodup)(q:X.N[i]?=some x)(p:Loc X.env.scope x)(m:PE X e c)(j:swapsWith e (some (.Name x a)) pos.line X.env=pure false:=by rfl)(f:X.fn x=true\/X.env.scope.names.lookup x=some .local:=by first|exact .inl rfl|exact .inr rfl|assumption):
  PS X (.Assign [.Name x a] e pos) (oA c (i9 i)):=by
 intro g s r H D I h;refine wpAny_Assign_Name (bw (m g s r H _ I h) λv t b=>?_) j;obtain⟨y,H1,d,n,k⟩:=b;exact Ew d l q p n (λu o=>⟨_,H1,o,k⟩) f
end
def O8(i:Nat) (b:TE) (c:AB):TS:=λD a H=>∃x,a[i]?=some (some x)/\b a H λy H1=>c x y H1 λz H2=>D.nx (a.set i (some z)) H2
section
variable {X:Cx}{pos:Pos}
theorem HM{i:Nat}{x:Str}{e:Expr}{q:TE}{o:Operator}{t:AB}{f:Pos}(P:X.N.Nodup)(A:X.N[i]?=some x)(n:Loc X.env.scope x)(he:PE X e q)(S:AF X o t)(U:X.fn x=true\/X.env.scope.names.lookup x=some .local:=by first|exact .inl rfl|exact .inr rfl|assumption):
  PS X (.AugAssign (.Name x f) o e pos) (O8 i q t):=by
 intro j s E H D I h;obtain⟨v,Y,h⟩:=h;obtain⟨m,G,hl⟩:=I.loc;have p:uj X.env.scope x:=by rcases n with k|k;exact .inl k;exact .inr (.inl k)
 obtain⟨u,r,l⟩:=hl i x v A Y p;refine wpAny_AugAssign_Name ?_;have C:wpAny (model X.prog X.w) X.A (eval e X.env) (λw g=>wpAny (model X.prog X.w) X.A (inplaceOp o u w) (λr d=>wpAny (model X.prog X.w) X.A (storeName X.env x r) (λ_=>SP X j D .next) X.xe d) X.xe g) X.xe s:=by
  refine bw (he j s E H _ I h) λw J b=>?_
  obtain⟨y,H1,I1,r1,q1⟩:=b;refine bw (S j J E H1 v y u w _ I1 r r1 q1) λz s2 b=>?_
  obtain⟨zv,H2,I2,r2,q2⟩:=b;exact Ew I2 P A n r2 (λs3 I3=>⟨_,H2,I3,q2⟩) U
 rcases l with⟨hk,Q⟩|⟨hk,c,hc,a⟩
 ·exact wpAny_loadName_local I.ok.kind hk G Q C
 ·rcases hk with hk|hk
  ·exact wpAny_loadName_cell I.ok.kind hk hc a C
  ·rcases n with k|k
   ·have:X.env.scope.names.lookup x=some .free:=hk;rw[k] at this;cases this
   ·have:X.env.scope.names.lookup x=some .free:=hk;rw[k] at this;cases this
end
def Pk(f:Int->Int->Int):AB:=λx y H Q=>∃i j,x=.int i/\y=.int j/\Q (.int (f i j)) H
theorem GY:AF X .Add (Pk λi j=>i+j):=by
 intro f s g H x y v u Q I d a h;obtain⟨i,j,c,b,q⟩:=h;subst c;subst b
 obtain⟨t,rfl⟩:=d;obtain⟨e,rfl⟩:=a;exact iadd_int ⟨.int _,H,I.tok _,⟨_,rfl⟩,q⟩
theorem GZ:AF X .Sub (Pk λi j=>i-j):=by
 intro f s g H x y v u Q I d a h;obtain⟨i,j,c,b,q⟩:=h;subst c;subst b
 obtain⟨t,rfl⟩:=d;obtain⟨e,rfl⟩:=a;exact isub_int ⟨.int _,H,I.tok _,⟨_,rfl⟩,q⟩
def rL(c:TT) (tb:TS):TS:=λD a H=>∃W:Nat->St->Hp->Prop,(∃m,W m a H)/\∀m a H,W m a H ->
 c a H λb H1=>if b=true then ∃N:St->Hp->Prop,(∀d f,N d f->∃e,e<m/\W e d f)/\tb {D with nx:=N,ct:=N,bk:=D.nx} a H1 else D.nx a H1
section
variable {X:Cx}{pos:Pos}
theorem Mp{c:Expr}{e:List Stmt}{x:TT}{tb:TS}(y:PassesOwn (model X.prog X.w) X.A X.env X.xe)(S:PT X c x)(A:jf X e tb):PS X (.While c e [] pos) (rL x tb):=by
 intro l s P H D I h;obtain⟨W,⟨Y,J⟩,g⟩:=h;refine wpAny_While (codeAny_whileLoop (λn E=>∃i u,Inv X l i u E/\W n i u) ?_ Y ⟨P,H,I,J⟩);rintro n C ⟨d,H1,U,Q⟩;refine rm y (bw (S l C d H1 _ U (g n d H1 Q)) λb G t=>?_);obtain⟨H2,z,j⟩:=t;cases b with
 |true=>
  obtain⟨N,w,j⟩:=j;rw[if_pos rfl];refine rm y (bw (A l G d H2 _ z j) λf s3 k=>?_);cases f with
  |next=>
   obtain⟨a,H3,o,q⟩:=k;obtain⟨p,m,r⟩:=w a H3 q;exact⟨p,m,a,H3,o,r⟩
  |cont=>
   obtain⟨a,H3,o,q⟩:=k;obtain⟨p,m,r⟩:=w a H3 q;exact⟨p,m,a,H3,o,r⟩
  |brk=>exact k
  |ret v=>exact k
 |false=>
  rw[if_neg pJ];exact CF ⟨d,H2,z,j⟩
end
structure It where
 go:Nat->Hp->Prop
 yld:Nat->Hp->V->Hp->Prop
 stop:Nat->Hp->Prop
def gL(X:Cx) (a:List (Addr×Obj)) (H:Hp) (b:Addr):Prop:=
 H b=none/\b≠X.env.locals/\b∉X.fs/\(b∈X.ex\/X.s₀.heap.objs.size<=b)/\(∀x c,X.env.cells.lookup x=some c->c≠b)/\∀p∈X.pn++a,p.1≠b
theorem Inv.fpOk(I:Inv X aU σ H s)(a:s.heap.objs.size<=b)(d:H' b=none):gL X aU H' b:=by
 refine⟨d,tN (da I.lt a),I.nofs a,.inr (ay I.sz a),λx c e z=>?_,λp f z=>?_⟩
 ·obtain⟨v,q⟩:=I.cell x c e;exact absurd (da q.lt (by rw[z];exact a)) (n6 _)
 ·exact absurd (da (cZ (I.pin p f).1) (by rw[z];exact a)) (n6 _)
structure jR (P:Program) (w:World) (K:Fg) (tg:Expr) (J:It) (fp:List Addr) (it:Addr) (tn:Nat->Heap->Prop):Prop where
 mem:it∈fp
 obj:∀i h,tn i h->∀b∈fp,∃o,h.get? b=some o/\∀v,o.data≠.cell v
 keep:∀i h h',tn i h->(∀b∈fp,∀o,h.get? b=some o->h'.get? b=some o)->tn i h'
 item:∀(X:Cx),X.prog=P->X.w=w->X.K=K->X.calm=true->∀(i:Nat) (aU:List (Addr×Obj)) (s:Shared) (σ:St) (H:Hp) (E:Value->Shared->Prop),Inv X aU σ H s->(∀b∈fp,gL X aU H b)->tn i s.heap->J.go i H ->
  wpAny (model P w) X.A (pyNext (.ref it)) (λr s1=>∃u,r=some u /\
   wpAny (model P w) X.A (letOwnedTupleGo tg (.ref it) u) (λ_ s2=>∃x H',Inv X aU σ H' s2/\RelV x u/\J.yld i H x H'/\tn (i+1) s2.heap/\∀b∈fp,H' b=none) E s1) E s
 done:∀(X:Cx),X.prog=P->X.w=w->X.K=K->X.calm=true->∀(i:Nat) (aU:List (Addr×Obj)) (s:Shared) (σ:St) (H:Hp) (E:Value->Shared->Prop),Inv X aU σ H s->(∀b∈fp,gL X aU H b)->tn i s.heap->J.stop i H ->
  wpAny (model P w) X.A (pyNext (.ref it)) (λr s1=>r=none/\Inv X aU σ H s1) E s
 self:∀(A:Around) (i:Nat) (s:Shared) (Q:Value->Shared->Prop) (E:Value->Shared->Prop),tn i s.heap->Q (.ref it) s->wpAny (model P w) A (pyIter (.ref it)) Q E s
abbrev TI:=St->Hp->(It->Hp->Prop)->Prop
def SZ(X:Cx) (e:List (Addr×Obj)) (j:St) (i:Expr) (R:It->Hp->Prop) (a:Value) (f:Shared):Prop:=
 ∃(d:Addr) (h:List Addr) (g:Nat->Heap->Prop) (J:It) (c:Hp),a=.ref d/\Inv X e j c f/\jR X.prog X.w X.K i J h d g/\g 0 f.heap/\(∀b∈h,gL X e c b)/\R J c
def PI(X:Cx) (d a:Expr) (f:TI):Prop:=
 ∀(c:List (Addr×Obj)) (s:Shared) (b:St) (H:Hp) (R:It->Hp->Prop),Inv X c b H s->f b H R ->
  wpAny (model X.prog X.w) X.A (eval a X.env) (λv e=>wpAny (model X.prog X.w) X.A (pyIter v) (SZ X c b d R) X.xe e) X.xe s
theorem nM{M:Model}{s:Shared}(e:s.heap.get? it=some o)(d:o.cls=.type n)(c:o.data=.fields vs)
    (b:["enumerate","zip","dict_itemiterator","dict_reverseitemiterator","odict_iterator","itertools.zip_longest","itertools.pairwise"].contains n=false)(a:Q () s):wpAny M A (letOwnedTupleGo tg (.ref it) u) Q E s:=by
  unfold letOwnedTupleGo;cases tg <;> first
    |exact aW a
    | (cases u <;> first
        |exact aW a
        | (refine ag (wpAny_load e ?_)
           rw[d,c];show wpAny M A (if(["enumerate","zip","dict_itemiterator","dict_reverseitemiterator","odict_iterator","itertools.zip_longest","itertools.pairwise"].contains n&&vs[0]?==some (rawInt _))=true then _ else _) Q E s
           rw[if_neg (by intro h; rw[b,Bool.false_and] at h; cases h)]
           exact aW a))
def PQ(K:Fg) (a:Addr):It:=
 ⟨λi H=>∃b x,dr K H a b/\b[i]?=some x,λi H x c=>c=H/\∀b,dr K H a b->b[i]?=some x,λi H=>∃b,dr K H a b/\b.length<=i⟩
def PP(K:Fg) (a:Addr):It:=
 ⟨λi H=>∃b x,cH K H a b/\b[i]?=some x,λi H x c=>c=H/\∀b,cH K H a b->b[i]?=some x,λi H=>∃b,cH K H a b/\b.length<=i⟩
noncomputable def Ds(lo:Int) (n:Nat):It:=⟨λi _=>i<n,λi H x a=>a=H/\x=.int (lo+i),λi _=>n<=i⟩
theorem Tj{P:Program}{w:World}{K:Fg}{tg:Expr}(a it:Addr):jR P w K tg (PQ K a) [it] it (λi h=>h.IsListIter it a i) where
 mem:=by simp
 obj:=λi h f b g=>by
  have e:b=it:=by simpa using g
  subst e;obtain⟨o,e,c,d⟩:=f;exact⟨o,e,λv z=>by rw[d] at z;cases z⟩
 keep:=λi h n f k=>f.at λo e=>k it (by simp) o e
 item:=by
  intro X A S J hc i aU s σ H E I m f Q;subst A S J;obtain⟨xs,x,l,C⟩:=Q;obtain⟨y,q,p,hz⟩:=I.list l;obtain⟨u,hu,ru⟩:=q.get C;obtain⟨r,Y,f2,G,t,U⟩:=m it (by simp);refine wpAny_pyNext_list_item f p.isList (x:=u) (by simpa using hu) λn j sb=>?_
  have I1:Inv X aU σ H {s with heap:=n}:=I.turned (t':=s.toks) (λb o g e=>(sb.2 b g).trans e) r Y G t U;obtain⟨o,e,c,d⟩:=id j;exact⟨u,rfl,nM (s:={s with heap:=n}) e c d (by decide) ⟨x,H,I1,ru,⟨rfl,λys hy=>by rw[I.list_inj hy l];exact C⟩,j,λb g=>(m b g).1⟩⟩
 done:=by
  intro X A S J hc i aU s σ H E I m f Q;subst A S J;obtain⟨xs,l,C⟩:=Q;obtain⟨y,q,p,hz⟩:=I.list l;obtain⟨r,Y,f2,G,t,U⟩:=m it (by simp);have hl:=q.length;exact wpAny_pyNext_list_end (I.ok.hd hc) f p.isList (by simp;lia) λn eb=>⟨rfl,I.turned (t':=s.toks) (λb o g e=>eb b o g e) r Y G t U⟩
 self:=λ_ _ _ _ _ f h=>wpAny_pyIter_listiter f h
theorem Ui{P:Program}{w:World}{K:Fg}{tg:Expr}(a it:Addr):jR P w K tg (PP K a) [it] it (λi h=>h.IsTupleIter it a i) where
 mem:=by simp
 obj:=λi h f b g=>by
  have e:b=it:=by simpa using g
  subst e;obtain⟨o,e,c,d⟩:=f;exact⟨o,e,λv z=>by rw[d] at z;cases z⟩
 keep:=λi h q f k=>f.at λo e=>k it (by simp) o e
 item:=by
  intro X A S J hc i aU s σ H E I n f Q;subst A S J;obtain⟨xs,x,m,C⟩:=Q;obtain⟨j,r,p,hz⟩:=I.tuple m;obtain⟨u,hu,ru⟩:=r.get C;obtain⟨t,Y,f2,G,y,U⟩:=n it (by simp);refine wpAny_pyNext_tuple_item f (show s.heap.IsTuple a j.toArray from p) (x:=u) (by simpa using hu) λq l sb=>?_
  have I1:Inv X aU σ H {s with heap:=q}:=I.turned (t':=s.toks) (λb o g e=>(sb.2 b g).trans e) t Y G y U;obtain⟨o,e,c,d⟩:=id l;exact⟨u,rfl,nM (s:={s with heap:=q}) e c d (by decide) ⟨x,H,I1,ru,⟨rfl,λys hy=>by rw[I.tuple_inj hy m];exact C⟩,l,λb g=>(n b g).1⟩⟩
 done:=by
  intro X A S J hc i aU s σ H E I n f Q;subst A S J;obtain⟨xs,m,C⟩:=Q;obtain⟨j,r,p,hz⟩:=I.tuple m;obtain⟨t,Y,f2,G,y,U⟩:=n it (by simp);have hl:=r.length;exact wpAny_pyNext_tuple_end (I.ok.hd hc) f (show s.heap.IsTuple a j.toArray from p) (by simp;lia) λq eb=>⟨rfl,I.turned (t':=s.toks) (λb o g e=>eb b o g e) t Y G y U⟩
 self:=λ_ _ _ _ _ f h=>wpAny_pyIter_tupleiter f h
theorem Uh{P:Program}{w:World}{K:Fg}{U:Expr}(it:Addr)(lo:Int)(n:Nat):jR P w K U (Ds lo n) [it] it (λi h=>IsRangeIter h it (lo+(i:Nat)*1) ((n:Int)-(i:Nat)) 1) where
 mem:=by simp
 obj:=λi h a b c=>by
  have e:b=it:=by simpa using c
  subst e
  exact⟨_,a,λv z=>by
   have Y:Data.fields _=Data.cell v:=z
   cases Y⟩
 keep:=λi h g a k=>k it (by simp) _ a
 item:=by
  intro X m u q x i G s J H E I f a r;subst m u q;obtain⟨j,A,Q,p,l,y⟩:=f it (by simp);have W:=Walks.range (prog:=X.prog) (w:=X.w) (I.ok.hd x) it lo 1 n;refine W.item i s _ _ r a λv g C hv d S=>?_
  obtain⟨t,rfl⟩:=hv;have I1:Inv X G J H {s with heap:=g,toks:=C}:=I.turned (λb o c e=>S b o (by simpa using c) e) j A p l y;refine⟨_,rfl,nM (s:={ s with heap:=g,toks:=C }) (n:="range_iterator") d rfl rfl (by decide) ⟨.int (lo + i),H,I1,⟨t,?_⟩,⟨rfl,rfl⟩,d,λb c=>(f b c).1⟩⟩
  rw[Int.mul_one]
 done:=by
  intro X m u q x i G s J H E I f a r;subst m u q;obtain⟨j,A,Q,p,l,y⟩:=f it (by simp);exact wpAny_pyNext_range_end (I.ok.hd x) a (by have:n<=i:=r;lia) λg eb=>⟨rfl,I.turned (t':=s.toks) (λb o c e=>eb b o c e) j A p l y⟩
 self:=λ_ _ _ _ _ a h=>wpAny_pyIter_rangeiter a h
def zT(K:Fg) (b:TE):TI:=λd H R=>b d H λx H1=>∃a,x=.ref a/\(∃c,dr K H1 a c)/\R (PQ K a) H1
def Pl(K:Fg) (b:TE):TI:=λd H R=>b d H λx H1=>∃a,x=.ref a/\(∃c,cH K H1 a c)/\R (PP K a) H1
section
variable {X:Cx}{tg:Expr}
theorem J6{l:Expr}{g:TE}(n:PE X l g):PI X tg l (zT X.K g):=by
 intro i s u H R I h;refine bw (n i s u H _ I h) λv d f=>?_
 obtain⟨x,H1,c,r,m⟩:=f;obtain⟨a,e,⟨z,t⟩,q⟩:=m;subst e;cases r;obtain⟨k,w,p,y⟩:=c.list t;refine CQ p.isList ?_;refine⟨d.heap.objs.size,[d.heap.objs.size],_,_,H1,rfl,c.kept (t':=d.toks) λb o e=>dY _ e,Tj a _,⟨_,fY _ rfl,rfl,rfl⟩,λb j=>?_,q⟩;have e:b=d.heap.objs.size:=by simpa using j
 subst e;exact c.fpOk (br _) (c.hok.fresh (br _))
theorem HL{l:Expr}{i:TE}(n:PE X l i):PI X tg l (Pl X.K i):=by
 intro j s u H R I h;refine bw (n j s u H _ I h) λv c f=>?_
 obtain⟨x,H1,d,r,m⟩:=f;obtain⟨a,e,⟨z,t⟩,q⟩:=m;subst e;cases r;obtain⟨g,w,p,y⟩:=d.tuple t;refine C0 (show c.heap.IsTuple a g.toArray from p) ?_;refine⟨c.heap.objs.size,[c.heap.objs.size],_,_,H1,rfl,d.kept (t':=c.toks) λb o e=>dY _ e,Ui a _,⟨_,fY _ rfl,rfl,rfl⟩,λb k=>?_,q⟩;have e:b=c.heap.objs.size:=by simpa using k
 subst e;exact d.fpOk (br _) (d.hok.fresh (br _))
end
theorem Mu{s:Shared}{lo a:Int}{c:Nat}(I:Inv X aU σ H s)(l:-(2^62)<=lo)(j:lo<2^62)(k:-(2^62)<=a)(i:a<2^62)
  (q:R (Ds lo (a-lo).toNat) H):wpAny (model X.prog X.w) X.A (pyIter (.ref s.heap.objs.size)) (SZ X aU σ tg R) E { s with heap:=s.heap.push { cls:=.type "range",data:=.fields #[.int lo t,.int a u,.int 1 v] },toks:=c }:=by
 refine wpAny_pyIter_range (IsRange.new ..) (small_one l j k i) ?_;have d:Inv X aU σ H { s with heap:=s.heap.push { cls:=.type "range",data:=.fields #[.int lo t,.int a u,.int 1 v] },toks:=c }:=I.kept λb o e=>dY _ e
 refine⟨(s.heap.push { cls:=.type "range",data:=.fields #[.int lo t,.int a u,.int 1 v] }).objs.size,[(s.heap.push { cls:=.type "range",data:=.fields #[.int lo t,.int a u,.int 1 v] }).objs.size],_,_,H,rfl,
  d.kept (t':=c) λb o e=>dY _ e,Uh _ lo (a-lo).toNat,?_,λb h=>?_,q⟩
 ·have g:lo+((0:Nat):Int)*1=lo:=by simp
  have f:(((a-lo).toNat:Nat):Int)-((0:Nat):Int)=Builtin.Range.rangeSize lo a 1:=by rw[rangeSize_one];split<;>lia
  show IsRangeIter _ _ (lo+((0:Nat):Int)*1) ((((a-lo).toNat:Nat):Int)-((0:Nat):Int)) 1;rw[g,f];exact fY _ rfl
 ·have e:b=(s.heap.push { cls:=.type "range",data:=.fields #[.int lo t,.int a u,.int 1 v] }).objs.size:=by simpa using h
  subst e;exact d.fpOk (br _) (d.hok.fresh (br _))
def zS(a:TA):TI:=λc H R=>a c H λb H1=>∃j:Int,b=[.int j]/\-(2^62)<=j/\j<2^62/\R (Ds 0 j.toNat) H1
section
variable {X:Cx}{tg:Expr}
theorem NO{a:Expr}{f:TA}{p b:Pos}(n:Gl X "range")(v:X.mg "range"=none)(i:PA X [a] f)(l:starEach [a] X.env=[(false,eval a X.env)]:=by rfl):PI X tg (.Call (.Name "range" p) [a] [] b) (zS f):=by
 intro k s o H R I h;refine Call_ (ut I n v boot_range (SK (bw (i b k s o H _ I h) λw y c=>?_) l rfl));obtain⟨x,H1,g,u,d⟩:=c;obtain⟨j,e,d,m,q⟩:=d;subst e;cases u with
 |cons r rr=>
  cases rr;obtain⟨t,rfl⟩:=r;exact call_range_1 (Mu g (by lia) (by lia) d m (by simpa using q))
end
def O4(f:TI) (g:TG) (tb:TS):TS:=λD a H=>f a H λJ H1=>∃W:Nat->Nat->St->Hp->Prop,(∃m,W 0 m a H1)/\∀i m a H,W i m a H ->
 (J.stop i H/\D.nx a H)\/(J.go i H/\∃N:St->Hp->Prop,(∀c b,N c b->∃e,e<m/\W (i+1) e c b)/\∀x b,J.yld i H x b->g x a b λd H2=>tb {D with nx:=N,ct:=N,bk:=D.nx} d H2)
noncomputable def gz(a:List Addr) (h:Heap):List (Addr×Obj):=a.filterMap λb=>(h.get? b).map λo=>(b,o)
theorem B6{h:Heap}(a:b∈fp)(e:h.get? b=some o):(b,o)∈gz fp h:=List.mem_filterMap.mpr ⟨b,a,by rw[e];rfl⟩
theorem NH(d:p∈gz fp h):p.1∈fp/\h.get? p.1=some p.2:=by
 obtain⟨b,a,e⟩:=List.mem_filterMap.mp d;cases q:h.get? b with
 |none=>rw[q] at e;cases e
 |some o=>
  rw[q] at e;have c:(b,o)=p:=g8 e;subst c;exact⟨a,q⟩
theorem Inv.pinned(I:Inv X aU σ H s)(g:∀b∈f,gL X aU H b)(j:∀b∈f,∃o,s.heap.get? b=some o/\∀v,o.data≠.cell v):Inv X (aU++gz f s.heap) σ H s:=
 I.pins_of λp l=>(dk.mp l).elim (λz=>I.pin p (lK _ z)) λz=>by
  obtain⟨a,e⟩:=NH z;obtain⟨h,k,i,_⟩:=g p.1 a;obtain⟨o,c,d⟩:=j p.1 a;rw[e] at c;cases c
  exact⟨e,h,k,i,d⟩
theorem Inv.unpinned(I:Inv X (aU++pl) σ H s):Inv X aU σ H s:=I.pins_of λp a=>I.pin p (lK _ (ub _ a))
section
variable {X:Cx}{tg:Expr}
theorem HN{l:Expr}{y:List Stmt}{wi:TI}{g:TG}{tb:TS}{a4:Pos}(G:PassesOwn (model X.prog X.w) X.A X.env X.xe)(hc:X.calm=true)(hi:PI X tg l wi)(hg:PG X tg g)(j:jf X y tb)
  (hs:∀x,foldedSetIterable l X.env x=pure x:=by intro _;rfl):PS X (.For tg l y [] a4) (O4 wi g tb):=by
 intro A s σ H D I h;refine wpAny_For (bw (hi A s σ H _ I h) λv s1 h1=>bw h1 λa5 s2 h2=>?_) hs;obtain⟨it,P,tn,J,H2,e,I2,T,a2,f2,W,⟨m0,w0⟩,E⟩:=h2;subst e;have t:∀{H':Hp},(∀b∈P,H' b=none)->∀b∈P,gL X A H' b:=λhn b j=>⟨hn b j,(f2 b j).2⟩
 refine codeAny_forLoop_any (λn s'=>∃i p H',Inv X A p H' s'/\tn i s'.heap/\(∀b∈P,H' b=none)/\W i n p H') ?_ m0 ⟨0,σ,H2,I2,a2,λb j=>(f2 b j).1,w0⟩;rintro n s3 ⟨i,k,H3,I3,S,Q,w3⟩;rcases E i n k H3 w3 with⟨U,qn⟩|⟨go,N,hN,step⟩
 ·refine rm G (bw (T.done X rfl rfl rfl hc i A s3 k H3 X.xe I3 (t Q) S U) λr s4 c=>?_);obtain⟨hr,I4⟩:=c;subst hr;exact CF ⟨k,H3,I4,qn⟩
 ·refine rm G (bw (T.item X rfl rfl rfl hc i A s3 k H3 X.xe I3 (t Q) S go) λr s4 c=>?_);obtain⟨u,hr,h4⟩:=c;subst hr;refine rm G (bw h4 λ_ s5 c=>?_);obtain⟨x,H5,I5,r5,y5,C,a3⟩:=c;have a1:=I5.pinned (t a3) (T.obj _ _ C);refine rm G (bw (hg _ s5 k H5 x u _ a1 r5 (step x H5 y5)) λ_ s6 c=>?_);obtain⟨a0,H6,I6,q6⟩:=c;refine rm G (bw (j _ s6 a0 H6 _ I6 q6) λf s7 z=>?_);have again:∀{a:St}{q:Hp},Inv X (A++gz P s5.heap) a q s7->N a q->∃m,m<n/\∃i p H',Inv X A p H' s7/\tn i s7.heap/\(∀b∈P,H' b=none)/\W i m p H':=λ{a q} w Y=>by
   obtain⟨m',hm,w7⟩:=hN a q Y;refine⟨m',hm,i+1,a,q,w.unpinned,T.keep _ _ _ C λb j o e=>(w.pin (b,o) (lK _ (lK _ (B6 j e)))).1,λb j=>?_,w7⟩;obtain⟨o,e,d⟩:=T.obj _ _ C b j;exact(w.pin (b,o) (lK _ (lK _ (B6 j e)))).2.1
  cases f with
  |next=>obtain⟨a,q,w,Y⟩:=z;exact again w Y
  |cont=>obtain⟨a,q,w,Y⟩:=z;exact again w Y
  |brk=>obtain⟨a,q,w,z⟩:=z;exact⟨a,q,w.unpinned,z⟩
  |ret v=>obtain⟨x7,a,q,w,r7,z⟩:=z;exact⟨x7,a,q,w.unpinned,r7,z⟩
end
abbrev R2:=V->V->Hp->VK->Prop
def dv(X:Cx) (f:Value->Value->Sem Value) (r:R2):Prop:=
 ∀(a:List (Addr×Obj)) (s:Shared) (b:St) (H:Hp) (x y:V) (v u:Value) (Q:VK),Inv X a b H s->RelV x v->RelV y u->r x y H Q ->
  wpAny (model X.prog X.w) X.A (f v u) (EP X a b Q) X.xe s
def PK(X:Cx) (f:Value->Sem Value) (r:V->Hp->VK->Prop):Prop:=
 ∀(a:List (Addr×Obj)) (s:Shared) (b:St) (H:Hp) (x:V) (v:Value) (Q:VK),Inv X a b H s->RelV x v->r x H Q ->
  wpAny (model X.prog X.w) X.A (f v) (EP X a b Q) X.xe s
def bN(X:Cx) (f:Value) (r:List V->Hp->VK->Prop):Prop:=
 ∀(a:List (Addr×Obj)) (s:Shared) (d:St) (H:Hp) (c:List V) (b:List Value) (Q:VK),Inv X a d H s->am c b->r c H Q ->
  wpAny (model X.prog X.w) X.A (call f b) (EP X a d Q) X.xe s
def PL(X:Cx) (r:V->Hp->(Bool->Hp->Prop)->Prop):Prop:=
 ∀(a:List (Addr×Obj)) (s:Shared) (b:St) (H:Hp) (x:V) (v:Value) (Q:Bool->Hp->Prop),Inv X a b H s->RelV x v->r x H Q ->
  wpAny (model X.prog X.w) X.A (truthy v) (TP X a b Q) X.xe s
def yH(r:R2) (b tb:TE):TE:=λa H Q=>b a H λx H1=>tb a H1 λy H2=>r x y H2 Q
def V1(r:V->Hp->VK->Prop) (a:TE):TE:=λb H Q=>a b H λx H1=>r x H1 Q
def rI(C:Int->Int->Prop) (g:Int->Int->V):R2:=λx y H Q=>∃i j,x=.int i/\y=.int j/\C i j/\Q (g i j) H
def lP(g:Int->Int->V):R2:=λx y H Q=>∃i j,x=.int i/\y=.int j/\Q (g i j) H
def rU(g:Int->V):V->Hp->VK->Prop:=λx H Q=>∃i,x=.int i/\Q (g i) H
section
variable {X:Cx}{a:Expr}{b:Expr}{ta:TE}{tb:TE}
theorem sf(n:PE X a ta)(p:PE X b tb){j:List (Addr×Obj)}{s:Shared}{d:St}{H:Hp}{R:V->V->Hp->Prop}(I:Inv X j d H s)
  (h:ta d H λx H1=>tb d H1 λy H2=>R x y H2){Q:Value->Shared->Prop}{f:Value->Value->Sem Value}
  (m:∀v u i x y H2,Inv X j d H2 i->RelV x v->RelV y u->R x y H2->wpAny (model X.prog X.w) X.A (f v u) Q X.xe i):
  wpAny (model X.prog X.w) X.A (eval a X.env) (λv e=>wpAny (model X.prog X.w) X.A (eval b X.env) (λu g=>wpAny (model X.prog X.w) X.A (f v u) Q X.xe g) X.xe e) X.xe s:=by
 refine bw (n j s d H _ I h) λv o c=>?_
 obtain⟨x,H1,k,t,q⟩:=c;refine bw (p j o d H1 _ k q) λu i c=>?_
 obtain⟨y,H2,w,l,r⟩:=c;exact m v u i x y H2 w t l r
end
section
variable {X:Cx}{a:Expr}{b:Expr}{ta:TE}{tb:TE}{pos:Pos}
theorem FX{c:Operator}{r:R2}(m:dv X (binaryOp c) r)(d:PE X a ta)(e:PE X b tb):PE X (.BinOp a c b pos) (yH r ta tb):=by
 intro f s j H Q I h;exact wpAny_BinOp (sf d e I h λv u g x y H2 k i l q=>m f g j H2 x y v u Q k i l q)
end
section
variable {X:Cx}{a:Expr}{ta:TE}{pos:Pos}
theorem FY{c:UnaryOp}{r:V->Hp->VK->Prop}(j:PK X (unaryOp c) r)(f:PE X a ta):PE X (.UnaryOp c a pos) (V1 r ta):=by
 intro b s d H Q I h;exact UnaryOp_ (bw (f b s d H _ I h) λv g ⟨x,H1,e,k,i⟩=>j b g d H1 x v Q e k i)
end
section
variable {X:Cx}
theorem Dl{f:Value->Value->Sem Value}{C:Int->Int->Prop}{g:Int->Int->Int}
  (rule:∀(i j:Int) (t u:Tok) (s:Shared) (Q:Value->Shared->Prop) (E:Value->Shared->Prop),C i j->Q (.int (g i j) s.toks) {s with toks:=s.toks+1}->wpAny (model X.prog X.w) X.A (f (.int i t) (.int j u)) Q E s):
  dv X f (rI C λi j=>.int (g i j)):=by
 intro e s k H x y v u Q I b d h;obtain⟨i,j,rfl,rfl,c,q⟩:=h;obtain⟨t,rfl⟩:=b;obtain⟨a,rfl⟩:=d;exact rule i j t a s _ _ c ⟨.int (g i j),H,I.tok _,⟨_,rfl⟩,q⟩
theorem rW{f:Value->Value->Sem Value}{g:Int->Int->Int}
  (rule:∀(i j:Int) (t u:Tok) (s:Shared) (Q:Value->Shared->Prop) (E:Value->Shared->Prop),Q (.int (g i j) s.toks) {s with toks:=s.toks+1}->wpAny (model X.prog X.w) X.A (f (.int i t) (.int j u)) Q E s):
  dv X f (lP λi j=>.int (g i j)):=by
 intro d s e H x y v u Q I b c h;obtain⟨i,j,rfl,rfl,q⟩:=h;obtain⟨t,rfl⟩:=b;obtain⟨a,rfl⟩:=c;exact rule i j t a s _ _ ⟨.int (g i j),H,I.tok _,⟨_,rfl⟩,q⟩
theorem oH{f:Value->Value->Sem Value}{g:Int->Int->Bool}
  (rule:∀(i j:Int) (t u:Tok) (s:Shared) (Q:Value->Shared->Prop) (E:Value->Shared->Prop),Q (.bool (g i j)) s->wpAny (model X.prog X.w) X.A (f (.int i t) (.int j u)) Q E s):
  dv X f (lP λi j=>.bl (g i j)):=by
 intro d s e H x y v u Q I b c h;obtain⟨i,j,rfl,rfl,q⟩:=h;obtain⟨t,rfl⟩:=b;obtain⟨a,rfl⟩:=c;exact rule i j t a s _ _ ⟨.bl (g i j),H,I,rfl,q⟩
end
noncomputable def mQ(i j:Int):Prop:=0<=j/\j<=1000000/\i.natAbs<2^64
noncomputable def dS(i j:Int):Prop:=(-(2^64)<i/\i<2^64)\/(-(2^64)<j/\j<2^64)
theorem dS.ok(h:dS i j):IntMulOk i j:=by
 rcases h with⟨a,b⟩|⟨a,b⟩
 ·exact .of_left (intBits_le_64 a b)
 ·exact .of_right (intBits_le_64 a b)
theorem Hq:dv X (binaryOp .Add) (lP λi j=>.int (i+j)):=rW λ_ _ _ _ _ _ _ q=>add_int q
theorem Hw:dv X (binaryOp .Sub) (lP λi j=>.int (i-j)):=rW λ_ _ _ _ _ _ _ q=>sub_int q
section
variable {X:Cx}
theorem lm:dv X (binaryOp .Mult) (rI dS λi j=>.int (i*j)):=Dl λ_ _ _ _ _ _ _ a q=>mul_int q a.ok
end
theorem qf:dv X (binaryOp .Mod) (rI (λ_ j=>0<j) λi j=>.int (i%j)):=Dl λi j _ _ _ _ _ a q=>by
 have b:(0:Int)<j:=a;exact mod_int' (by lia) (by rw[Int.fmod_eq_emod_of_nonneg i (by lia)];exact q)
section
variable {X:Cx}
theorem Hv:dv X (binaryOp .Pow) (rI mQ λi j=>.int (i^j.toNat)):=Dl λ_ _ _ _ _ _ _ a q=>pow_int_small a.1 a.2.1 a.2.2 q
end
theorem wm:dv X (binaryOp .BitAnd) (lP λi j=>.int (Builtin.bitAnd i j)):=rW λ_ _ _ _ _ _ _ q=>and_int q
section
variable {X:Cx}
theorem V0{f:Value->Sem Value}{g:Int->Int}
  (rule:∀(i:Int) (t:Tok) (s:Shared) (Q:Value->Shared->Prop) (E:Value->Shared->Prop),Q (.int (g i) s.toks) {s with toks:=s.toks+1}->wpAny (model X.prog X.w) X.A (f (.int i t)) Q E s):
  PK X f (rU λi=>.int (g i)):=by
 intro b s c H x v Q I a h;obtain⟨i,rfl,q⟩:=h;obtain⟨t,rfl⟩:=a;exact rule i t s _ _ ⟨.int (g i),H,I.tok _,⟨_,rfl⟩,q⟩
end
theorem Ik:PK X (unaryOp .USub) (rU λi=>.int (-i)):=V0 λ_ _ _ _ _ q=>neg_int q
theorem vZ(I:Inv X aU σ H s)(q:Q (.bl k) H)(e:k=k'):EP X aU σ Q (.bool k') s:=by
 subst e;exact⟨.bl k,H,I,rfl,q⟩
theorem FT:dv X (compareOp .Lt) (lP λi j=>.bl (decide (i<j))):=oH λ_ _ _ _ _ _ _ q=>lt_int q
theorem l5:dv X (compareOp .LtE) (lP λi j=>.bl (decide (i<=j))):=oH λ_ _ _ _ _ _ _ q=>le_int q
theorem jw:dv X (compareOp .Gt) (lP λi j=>.bl (decide (j<i))):=oH λ_ _ _ _ _ _ _ q=>gt_int q
theorem FS:dv X (compareOp .GtE) (lP λi j=>.bl (decide (j<=i))):=oH λ_ _ _ _ _ _ _ q=>ge_int q
theorem Ht:dv X (compareOp .Is) (λx y H Q=>y=.non/\Q (.bl (decide (x=.non))) H):=by
 intro c s d H x y v u Q I a b h;obtain⟨rfl,q⟩:=h;cases b;refine is_none_gen (vZ I q ?_);cases x<;>first
  | (cases a;rfl)
  | (obtain⟨t,rfl⟩:=a;rfl)
theorem JU:dv X (compareOp .IsNot) (λx y H Q=>y=.non/\Q (.bl (!decide (x=.non))) H):=by
 intro c s d H x y v u Q I a b h;obtain⟨rfl,q⟩:=h;cases b;refine isnot_none_gen (vZ I q ?_);cases x<;>first
  | (cases a;rfl)
  | (obtain⟨t,rfl⟩:=a;rfl)
theorem dv.or(h:dv X f r)(e:dv X f r'):dv X f (λx y H Q=>r x y H Q\/r' x y H Q):=by
 intro a s d H x y v u Q I b c q;rcases q with q|q
 ·exact h a s d H x y v u Q I b c q
 ·exact e a s d H x y v u Q I b c q
theorem aq(b:Expr) (h:op≠.In:=by decide)(d:op≠.NotIn:=by decide):behindInMarks op b=false:=by
 have c:(op==CmpOp.In)=false:=by cases op<;>first|rfl|exact absurd rfl h
 have a:(op==CmpOp.NotIn)=false:=by cases op<;>first|rfl|exact absurd rfl d
 cases b<;>simp[behindInMarks,c,a]
theorem JZ(i:dv X (compareOp op) r)(c:PE X a ta)(d:PE X b tb)(m:behindInMarks op b=false):PE X (.Compare a [op] [b] pos) (yH r ta tb):=by
 intro e s j H Q I h;exact wpAny_Compare1 (sf c d I h λv u f x y H2 k g l q=>i e f j H2 x y v u Q k g l q) m
def pU(t:TE):TT:=λa H Q=>t a H λx b=>∃k,x=.bl k/\Q k b
section
variable {X:Cx}{a:Expr}{b:Expr}{c:Expr}{ta:TE}{tb:TE}{pos:Pos}
theorem Kh{f:CmpOp}{r:R2}(m:dv X (compareOp f) r)(G:PE X a ta)(j:PE X b tb)(l:behindInMarks f b=false):PT X (.Compare a [f] [b] pos) (pU (yH r ta tb)):=by
 intro d s g H Q I h
 refine wpAny_isTrue_Compare1 (bw (G d s g H _ I h) λv i ⟨x,H1,A,q,J⟩=>bw (j d i g H1 _ A J) λu o ⟨y,H2,t,C,p⟩=>
  bw (m d o g H2 x y v u _ t q C p) λc P ⟨z,H3,w,n,k,e,E⟩=>?_) l
 subst e;cases n;exact og ⟨H3,w,E⟩
end
def mw(r b:R2) (d tb e:TE):TE:=λa H Q=>d a H λx H1=>tb a H1 λy H2=>r x y H2 λz H3=>∃k,z=.bl k /\
 (if k=true then e a H3 λc f=>b y c f Q else Q (.bl false) H3)
section
variable {X:Cx}{a:Expr}{b:Expr}{c:Expr}{ta:TE}{tb:TE}{tc:TE}{pos:Pos}
theorem Mr{j f:CmpOp}{r o:R2}(G:dv X (compareOp j) r)(m:dv X (compareOp f) o)(ha:PE X a ta)(w:PE X b tb)(hc:PE X c tc)
  (J:lastMarks [j,f] [b,c]=false:=by with_unfolding_all rfl):PT X (.Compare a [j,f] [b,c] pos) (pU (mw r o ta tb tc)):=by
 intro g s i H Q I h
 refine isTrue_chain (bw (ha g s i H _ I h) λv C ⟨x,H1,I1,r1,q1⟩=>test_link (bw (w g C i H1 _ I1 q1) λu U ⟨y,H2,I2,p,q2⟩=>
  bw (G g U i H2 x y v u _ I2 r1 p q2) λd s3 ⟨z,H3,n,P,k,e,q⟩=>?_)) J
 subst e;cases P;refine og ?_;cases k with
 |false=>
  obtain⟨k',A,q'⟩:=q;cases A;exact ite_ff ⟨H3,n,q'⟩
 |true=>
  refine ite_tt (test_last (bw (hc g s3 i H3 _ n q) λw' s4 ⟨z',H4,I4,r4,q4⟩=>bw (m g s4 i H4 y z' u w' _ I4 p r4 q4) λd' s5 l=>?_));obtain⟨z2,Y,E,S,k2,t,q5⟩:=l;subst t;cases S;exact og ⟨Y,E,q5⟩
end
def sn(K:Fg) (x:V) (H:Hp) (k:Bool):Prop:=
 match x with
 |.non=>k=false
 |.bl b=>k=b
 |.int i=>k=(i != 0)
 |.str y=>y.length<=sizeLine/\k=((y.length:Int) != 0)
 |.byt y=>y.size<=sizeLine/\k=((y.size:Int) != 0)
 |.ref p=>(∃c,dr K H p c/\k=!c.isEmpty)\/(∃c,cH K H p c/\k=!c.isEmpty)\/∃a,H p=some (.dK a)/\k=!a.isEmpty
 |_=>False
theorem TV{b:Type}{a:List (b×V)}{c:List (b×Value)}(r:KV a c):(!c.isEmpty)=!a.isEmpty:=by
 cases r<;>rfl
theorem RM(r:am xs its):(!its.toArray.isEmpty)=!xs.isEmpty:=by
 cases r<;>simp
theorem fR:(sizeLine:Nat)<2^63:=by rw[me];decide
section
variable {X:Cx}{b:Expr}
theorem Ii:PL X (λx H Q=>∃k,sn X.K x H k/\Q k H):=by
 intro z s E H x v Q I g h;obtain⟨k,e,q⟩:=h;have C:=fR;have A:sizeLine=16777216:=me;cases x with
 |non=>
  cases g;have a:k=false:=e;subst a;exact truthy_none ⟨H,I,q⟩
 |bl b=>
  cases g;have a:k=b:=e;subst a;exact og ⟨H,I,q⟩
 |int i=>
  obtain⟨t,rfl⟩:=g;have a:k=(i != 0):=e;subst a;exact PySem.P.truthy_int ⟨H,I,q⟩
 |str y=>
  obtain⟨t,rfl⟩:=g;obtain⟨u,a⟩:y.length<=sizeLine/\k=((y.length:Int) != 0):=e;subst a;exact PySem.P.truthy_str (by lia) ⟨H,I.tok _,q⟩
 |byt y=>
  obtain⟨t,rfl⟩:=g;obtain⟨u,a⟩:y.size<=sizeLine/\k=((y.size:Int) != 0):=e;subst a;exact W.truthy_bytes (by lia) ⟨H,I.tok _,q⟩
 |ref p=>
  cases g;have a:(∃f,dr X.K H p f/\k=!f.isEmpty)\/(∃f,cH X.K H p f/\k=!f.isEmpty)\/∃c,H p=some (.dK c)/\k=!c.isEmpty:=e
  rcases a with⟨f,j,a⟩|⟨f,j,a⟩|⟨c,j,a⟩
  ·subst a;obtain⟨l,r,n,o⟩:=I.list j;have d:=r.length;exact wpAny_truthy_list n.isList (by simp only[eE];lia) ⟨H,I.tok _,by rw[RM r];exact q⟩
  ·subst a;obtain⟨l,r,n,o⟩:=I.tuple j;have d:=r.length;exact truthy_tuple n (by simp only[eE];lia) ⟨H,I.tok _,by rw[RM r];exact q⟩
  ·subst a;obtain⟨o,w,vs,r,m⟩:c.length<=sizeLine/\(p==sysModules)=false/\∃vs,KV c vs/\s.heap.DictOf (aZ X.prog X.w) p vs:=I.hok p _ j
   have d:c.length=vs.length:=rj r;exact wpAny_truthy_dict w m (by lia) ⟨H,I.tok _,by rw[TV r];exact q⟩
 |_=>exact(show False from e).elim
end
section
variable {X:Cx}{a:Expr}{ta:TE}
theorem Qy(g:PE X a ta)(l:∀b,isTrue a X.env b=(do let v ←b;standAt a.pos;holding [v] (truthy v))):
  PT X a (λc H Q=>ta c H λx e=>∃k,sn X.K x e k/\Q k e):=by
 intro d s c H Q I h;exact isTrue_plain (bw (g d s c H _ I h) λv i ⟨x,H1,f,m,j⟩=>Ii d i c H1 x v Q f m j) (l _)
end
theorem T1:dv X (binaryOp .Add) (λx y H Q=>∃i j,x=.str i/\y=.str j/\i.length+j.length<=sizeLine/\Q (.str (i++j)) H):=by
 intro f s g H x y v u Q I b d h;obtain⟨i,j,rfl,rfl,c,q⟩:=h;obtain⟨t,rfl⟩:=b;obtain⟨a,rfl⟩:=d;exact add_str (λa e=>⟨.str (i++j),H,I.tok _,⟨_,rfl⟩,q⟩) c
theorem vals1(r:am [x] us):∃u,us=[u]/\RelV x u:=by
 cases r with
 |cons r1 r2=>cases r2;exact⟨_,rfl,r1⟩
theorem vals2(r:am [x,y] us):∃u w',us=[u,w']/\RelV x u/\RelV y w':=by
 cases r with
 |cons r1 r2=>
  cases r2 with
  |cons r3 r4=>cases r4;exact⟨_,_,rfl,r1,r3⟩
theorem KQ:bN X (.builtin "abs") (λa H Q=>∃ i,a=[.int i]/\Q (.int (if i<0 then -i else i)) H):=by
 intro d s e H a c Q I r h;obtain⟨i,rfl,q⟩:=h;obtain⟨u,rfl,t,rfl⟩:=vals1 r;exact call_abs_int λu b=>⟨.int (if i<0 then -i else i),H,I.tok _,⟨_,rfl⟩,q⟩
theorem M0{X:Cx}(b:X.calm=true):bN X (.builtin "max") (λa H Q=>∃ i j,a=[.int i,.int j]/\Q (.int (if j > i then j else i)) H):=by
 intro g s m H a e Q I r h;obtain⟨i,j,rfl,q⟩:=h;obtain⟨u,f,rfl,⟨t,rfl⟩,⟨d,rfl⟩⟩:=vals2 r;refine max_two_ints (I.ok.hd b) λl c k=>⟨_,H,I.kept k,?_,q⟩
 by_cases hj:j > i
 ·rw[if_pos hj,if_pos hj];exact⟨_,rfl⟩
 ·rw[if_neg hj,if_neg hj];exact⟨_,rfl⟩
theorem u4{X:Cx}(b:X.calm=true):bN X (.builtin "min") (λa H Q=>∃ i j,a=[.int i,.int j]/\Q (.int (if j<i then j else i)) H):=by
 intro g s m H a e Q I r h;obtain⟨i,j,rfl,q⟩:=h;obtain⟨u,f,rfl,⟨t,rfl⟩,⟨d,rfl⟩⟩:=vals2 r;refine min_two_ints (I.ok.hd b) λl c k=>⟨_,H,I.kept k,?_,q⟩
 by_cases hj:j<i
 ·rw[if_pos hj,if_pos hj];exact⟨_,rfl⟩
 ·rw[if_neg hj,if_neg hj];exact⟨_,rfl⟩
structure sC (h:Heap) (x dx C:Addr) (mA:Str->Option Value):Prop where
 obj:h.get? x=some (W.instObj C dx)
 ns:h.Ns1 dx mA
 ne:dx≠x
theorem Ny{h:Heap}(n:h.Ns1 dx mA):∃c,h.get? dx=some c/\∀name,W.lookIn name c=some (mA name):=by
 obtain⟨o,d,m,l,g,k,_,j⟩:=n;refine⟨o,l,λname=>?_⟩;have e:=j name;unfold nsFind findBy at e;rw[←Array.find?_toList] at e;unfold W.lookIn;rw[g];dsimp only;split
 ·rename_i y q;rw[q] at e;exact congrArg some e
 ·rename_i q;rw[q] at e;have a:d.toList.any (·.refKey)=false:=by
   rw[List.any_eq_false];intro y f;obtain⟨z,t,b⟩:=k y (OE.mp f);simp[DictEntry.refKey,b]
  have i:¬ d.toList.any (·.refKey)=true:=by rw[a];exact pJ
  rw[if_neg i];exact congrArg some e
theorem sC.look(I:sC h x dx C mA):∃a,W.InstAt h x (W.instObj C dx) C (some a)/\∀name,W.lookIn name a=some (mA name):=
 let ⟨a,ho,hl⟩:=Ny I.ns
 ⟨a,⟨I.obj,rfl,rfl,ho⟩,hl⟩
theorem fq.some_of(r:fq (some v) o):∃u,o=some u/\RelV v u:=by
 cases o with
 |none=>exact(show False from r).elim
 |some u=>exact⟨u,rfl,r⟩
theorem Jh(c:fx P w H h)(e:H a=some (.ins C dx fs)):∃b,sC h a dx C b/\(∀f,fq (fs.lookup f) (b f))/\PySem.Within b (fs.map (·.1))/\fs.length<=1000/\H dx=some (.own a):=by
 obtain⟨d,z,i,g,b,n,r,q⟩:=(show ba P w H h a (.ins C dx fs) from c a _ e)
 exact⟨b,⟨g,n,i⟩,r,q,z,d⟩
structure PU (K:Fg) (C:Addr):Prop where
 pg:W.plainGet K C Str.empty=true
 hd:W.hasDictIn K C=true
 po:W.plainOver K C=true
 sa:W.findIn K (.ref C) "__setattr__"=some (some (.builtin "object.__setattr__"))
theorem PU.get{K:Fg}{C:Addr}(c:PU K C)(f:Str):W.plainGet K C f=true:=c.pg
inductive fo (K:Fg) (H:Hp):V->Value->Prop where
 |non:fo K H .non (.type "NoneType")
 |bl (x:Bool):fo K H (.bl x) (.type "bool")
 |int (i:Int):fo K H (.int i) (.type "int")
 |str (x:Str):fo K H (.str x) (.type "str")
 |flt (x:UInt64):fo K H (.flt x) (.type "float")
 |lst {a:Addr}{xs:List V}(e:H a=some (.lst xs)):fo K H (.ref a) (.type "list")
 |frz {a:Addr}{o:Obj}{xs:List V}(e:H a=some (.frz o (.lst xs))):fo K H (.ref a) (.type "list")
 |tup {a:Addr}{xs:List V}(e:H a=some (.tup xs)):fo K H (.ref a) (.type "tuple")
 |dK {a:Addr}{kvs:List (cA×V)}(e:H a=some (.dK kvs)):fo K H (.ref a) (.type "dict")
 |dT {a:Addr}{kvs:List (List cA×V)}(e:H a=some (.dT kvs)):fo K H (.ref a) (.type "dict")
 |ins {a C dx:Addr}{fs:List (Str×V)}(e:H a=some (.ins C dx fs)) (cl:PU K C) (ha:W.findIn K (.ref C) "__class__"=some (some (.builtin "object.__class__")))
  (hn:W.specialIn K (.builtin "object.__class__") "__get__"=some (some (.builtin "getset_descriptor.__get__")))(htk:W.takesIn K (.builtin "object.__class__")=some true)
  (hm:W.mroIn K C (.type "object")=some true):fo K H (.ref a) (.ref C)
theorem No(I:Inv X aU σ H s)(d:RelV x u)(l:fo X.K H x t)(e:W.kitOne X.K t c=some b)(h:∀k,Q (.bool b) {s with toks:=k}):
  wpAny (model X.prog X.w) A (call (.builtin "isinstance") [u,c]) Q E s:=by
 cases l with
 |non=>cases(show u=Value.none from d);exact mf W.kitx_none I.kIn True.intro e (λz=>nomatch z) h
 |bl y=>cases(show u=Value.bool y from d);exact mf W.kitx_bool I.kIn True.intro e (λz=>nomatch z) h
 |int i=>obtain⟨t,q⟩:=(show ∃t,u=Value.int i t from d);cases q;exact mf W.kitx_int I.kIn True.intro e (λz=>nomatch z) h
 |str y=>obtain⟨t,q⟩:=(show ∃t,u=Value.str y t from d);cases q;exact mf W.kitx_str I.kIn True.intro e (λz=>nomatch z) h
 |flt y=>obtain⟨t,q⟩:=(show ∃t,u=Value.float y t from d);cases q;exact mf W.kitx_float I.kIn True.intro e (λz=>nomatch z) h
 |@lst a g ea=>
  cases(show u=Value.ref a from d);obtain⟨_,_,n,_,f⟩:=(show ba X.prog X.w H s.heap a (.lst g) from I.hok a _ ea)
  exact mf W.kitx_list I.kIn ⟨_,f,rfl⟩ e (λz=>nomatch z) h
 |@frz a ob g ea=>
  cases(show u=Value.ref a from d);obtain⟨_,_,_,n,_,f⟩:=(show ba X.prog X.w H s.heap a (.frz ob (.lst g)) from I.hok a _ ea)
  exact mf W.kitx_list I.kIn ⟨_,f,rfl⟩ e (λz=>nomatch z) h
 |@tup a g ea=>
  cases(show u=Value.ref a from d);obtain⟨_,_,_,p⟩:=(show ba X.prog X.w H s.heap a (.tup g) from I.hok a _ ea)
  obtain⟨o,f,j,_⟩:=p;exact mf W.kitx_tuple I.kIn ⟨o,f,j⟩ e (λz=>nomatch z) h
 |@dK a kvs ea=>
  cases(show u=Value.ref a from d);obtain⟨_,_,w,_,p⟩:=(show ba X.prog X.w H s.heap a (.dK kvs) from I.hok a _ ea)
  obtain⟨o,m,r,f,j,_⟩:=p;exact mf W.kitx_dict I.kIn ⟨o,f,j.1⟩ e (λz=>nomatch z) h
 |@dT a kvs ea=>
  cases(show u=Value.ref a from d);obtain⟨_,_,g,_,o,m,r,f,j,_⟩:=(show ba X.prog X.w H s.heap a (.dT kvs) from I.hok a _ ea)
  exact mf W.kitx_dict I.kIn ⟨o,f,j.1⟩ e (λz=>nomatch z) h
 |@ins a C dx fs ea cl ha hn htk hm=>
  cases(show u=Value.ref a from d);obtain⟨G,O,_⟩:=Jh I.hok ea;obtain⟨v,J,_⟩:=O.look;exact mf (W.kitx_own (cl.get _) cl.hd ha hn htk hm) I.kIn J e (λz=>nomatch z) h
structure cq (k:Nat) (A:Around):Prop where
 hd:A.handled=none
 dp:A.depth+3*k+5<recursionLimit
 un:A.units+16*k+200<cLine
theorem cq.mono(r:cq k A)(h:j<=k):cq j A:=⟨r.hd,by have:=r.dp;lia,by have:=r.un;lia⟩
theorem cq.deeper(r:cq (k+1) A)(a:Env):cq k (A.deeper a):=
 ⟨r.hd,by have:=r.dp;show A.depth+1+3*k+5<_;lia,by have:=r.un;show A.units+3+16*k+200<_;lia⟩
theorem cq.depth(r:cq k A):A.depth<recursionLimit:=by have:=r.dp;lia
theorem cq.units(r:cq k A):A.units+64<cLine:=by have:=r.un;lia
theorem cq.units0(r:cq k A):A.units<cLine:=by have:=r.un;lia
def O1:TA:=λ_ H Q=>Q [] H
def yM(b:TE) (d:TA):TA:=λa H Q=>b a H λx H1=>d a H1 λc H2=>Q (x::c) H2
theorem wo:PA X [] O1:=λ_ _ _ _ H Q I h=>CW ⟨[],H,I,.nil,h⟩
theorem xF(i:PE X e te)(n:PA X es t)(k:starEach (e::es) X.env=(false,eval e X.env)::starEach es X.env:=by rfl):PA X (e::es) (yM te t):=by
 intro a c s d H Q I h;rw[k];show wpAny _ _ (spliced ((false,eval e X.env)::backTo a (starEach es X.env))) _ _ s;refine yv (bw (i c s d H _ I h) λu j b=>?_);obtain⟨x,H1,f,p,l⟩:=b;exact bw (n a c j d H1 _ f l) λr v ⟨o,H2,q,g,m⟩=>⟨x::o,H2,q,.cons p g,m⟩
def OX(t:TA):TE:=λb H Q=>t b H λa H1=>a.length<=sizeLine/\∀p,H1 p=none->Q (.ref p) (bf H1 p (.tup a))
def O2(t:TA):TE:=λb H Q=>t b H λa H1=>a.length<=sizeLine/\∀p,H1 p=none->Q (.ref p) (bf H1 p (.lst a))
theorem HH{x1}(h:PA X es t):PE X (.Tuple es x1 pos) (OX t):=by
 intro g s k H Q I j;refine wpAny_Tuple_spliced (bw (h pos g s k H _ I j) λd a ⟨i,H1,c,r,z,q⟩=>⟨by rw[←r.length];exact z,?_⟩);have f:H1 a.heap.objs.size=none:=c.hok.fresh (br _);refine⟨.ref a.heap.objs.size,bf H1 a.heap.objs.size (.tup i),c.laid (t':=a.toks) (λb u e=>dY _ e) (br _) ?_,rfl,q _ f⟩;exact⟨z,d,r,⟨_,fY _ rfl,rfl,_,rfl⟩⟩
theorem wq(h:PA X es t):PE X (.List es pos) (O2 t):=by
 intro g s k H Q I j;refine wpAny_List_spliced (bw (h pos g s k H _ I j) λd a ⟨i,H1,c,r,z,q⟩=>⟨by rw[←r.length];exact z,?_⟩);have f:H1 a.heap.objs.size=none:=c.hok.fresh (br _);refine⟨.ref a.heap.objs.size,bf H1 a.heap.objs.size (.lst i),c.laid (t':=a.toks) (λb u e=>dY _ e) (br _) ?_,rfl,q _ f⟩;exact⟨z,d,0,r,fY _ rfl⟩
abbrev Sp:=List V->Hp->VK->XK->Prop
abbrev uk:=List Env->Hp->Shared->XK->Value->Shared->Prop
structure o0 (P:Program) (w:World) (K:Fg) (mg:Str->Option Value) (base:Heap) (A:Around) (outer:List Env) (s:Shared) (H:Hp):Prop where
 frames:A.frames=some outer
 mod:Mod K mg base
 bs:∀b o,base.get? b=some o->s.heap.get? b=some o/\H b=none
 bsz:base.objs.size<=s.heap.objs.size
 funs:s.heap.FunFrames base outer
 frf:∀b∈kn outer,H b=none
 hok:fx P w H s.heap
 bare:AllBare s.gens
def CE(a:List Env) (P:Program) (w:World) (H:Hp) (s:Shared) (Q:VK) (u:Value) (b:Shared):Prop:=
 ∃v c,b.os=s.os/\AllBare b.gens/\Un (kn a) [] H c s.heap b.heap/\fx P w c b.heap/\RelV v u/\Q v c
def CR(c:uk) (a:List Env) (P:Program) (w:World) (H:Hp) (s:Shared) (Q:VK) (E:XK) (r:Result) (b:Shared):Prop:=
 match r with
 |.ok (.ret u)=>CE a P w H s Q u b
 |.ok _=>False
 |.error e=>c a H s E e b
structure gM (P:Program) (w:World) (K:Fg) (mg:Str->Option Value) (base:Heap) (CX:uk) (k:Nat) (f:Addr) (fd:FuncData) (ps:List Str) (sp:Sp):Prop where
 len:∀vs H Q E,sp vs H Q E->vs.length=ps.length
 run:∀(A:Around) (outer:List Env) (s:Shared) (H:Hp) (args:Args) (us:List Value) (vs:List V) (Q:VK) (E:XK),cq k A->o0 P w K mg base A outer s H->BindsTo s fd args (ps.zip us)->am vs us->sp vs H Q E ->
  codeAny (model P w) A (.call (.ref f) args) (CR CX outer P w H s Q E) s
theorem Inv.env0(I:Inv X aU σ H s):o0 X.prog X.w X.K X.mg X.base X.A X.stack s H:=
 ⟨I.ok.frames,I.ok.mod,I.bs,ay I.ok.bsz I.sz,I.stack,I.stkFree,I.hok,I.bare⟩
theorem Inv.after(I:Inv X aU σ H s)(h:CE X.stack X.prog X.w H s Q u s'):EP X aU σ Q u s':=by
 obtain⟨v,j,os,a,f,e,r,q⟩:=h;obtain⟨i,g,d,t,c⟩:=s';obtain rfl:c=s.os:=os;exact⟨v,j,I.call (h':=i) (g':=g) (d':=d) (t':=t) (ch:=[]) f e a (λb z=>absurd z (by simp)),r,q⟩
def mx(b:Sp) (a:List V) (E:XK) (t:TA):TE:=λd H Q=>t d H λc H1=>b (c++a) H1 Q E
noncomputable def Binds(K:Fg) (d:FuncData) (c:List Str) (b:List Value):Prop:=
 ∀(s:Shared) (a:List Value),K.In s.heap->(a++b).length=c.length->BindsTo s d ⟨a,[]⟩ (c.zip (a++b))
theorem Binds.all{K:Fg}{b:List Str}(h:∀a:List Value,a.length=b.length->bindArgs fd ⟨a,[]⟩=pure (b.zip a)):Binds K fd b []:=λs a _ c=>by
 rw[jA] at c ⊢;exact .of_eq (h a c)
def jT(b:uk) (X:Cx) (E:XK):Prop:=∀(c:List (Addr×Obj)) (d:St) (H:Hp) (s:Shared) (e:Value) (a:Shared),Inv X c d H s->b X.stack H s E e a->X.xe e a
theorem HV{X:Cx}(F:gM X.prog X.w X.K X.mg X.base CX k f fd ps sp)(j:cq k X.A)(d:Binds X.K fd ps ds)(c:am dvs ds)(l:jT CX X E)
  (I:Inv X aU σ H s)(r:am vs us)(h:sp (vs++dvs) H Q E):wpAny (model X.prog X.w) X.A (call (.ref f) us) (EP X aU σ Q) X.xe s:=by
 have b:am (vs++dvs) (us++ds):=r.append c;have i:(us++ds).length=ps.length:=by rw[←b.length];exact F.len _ _ _ _ h
 refine wpAny_call (rf (F.run X.A X.stack s H ⟨us,[]⟩ (us++ds) (vs++dvs) Q E j I.env0 (d s us I.kIn i) b h) λr g a=>?_);cases r with
 |error e=>exact l aU σ H s e g I a
 |ok fl=>
  cases fl with
  |ret u=>exact I.after a
  |next=>exact False.elim a
  |brk=>exact False.elim a
  |cont=>exact False.elim a
theorem JY{X:Cx}(F:gM X.prog X.w X.K X.mg X.base CX k f fd ps sp)(m:cq k X.A)(l:Gl X x)(w:X.mg x=some (.ref f))(o:W.keepIn X.K (.ref f)=true)(i:Binds X.K fd ps ds)(d:am dvs ds)(v:jT CX X E)
  (g:PA X (e::es) t)(a:(x==("__debug__" : Str))=false:=by decide)(u:starEach (e::es) X.env=(false,eval e X.env)::starEach es X.env:=by rfl)(b:(backTo pos (starEach es X.env)).any (·.1)=false:=by rfl):
  PE X (.Call (.Name x p) (e::es) [] pos) (mx sp dvs E t):=by
 intro j s n H Q I h;refine CZ (xj I l w ?_ a);refine W.callWith_K (h₀:=X.base) I.ok.mod.kin o (bw (g pos j s n H _ I h) λz A ⟨y,H1,c,r,q⟩=>⟨c.kIn,?_⟩) u b;exact HV F m i d v c r q
structure cm (N P:List Str) (sc:Scope):Prop where
 kind:sc.kind=.function
 co:sc.isCoroutine=false
 gen:sc.isGenerator=false
 nd:N.Nodup
 pre:N.take P.length=P
 par:∀x∈P,sc.names.lookup x=some .local\/sc.names.lookup x=some .cell
 nofree:∀y∈sc.names,y.2≠.free
theorem QV{kindOf:Str->Option NameKind}:∀{a:List (Str×Value)}{m:Str->Option Value},(∀v,(x,v)∉a)->bindL kindOf a m x=m x
 |[],_,_=>rfl
 | (n,v)::r,m,h=>by
  unfold bindL;rw[QV λw b=>h w (bU _ b)];split
  ·have:x≠n:=by rintro rfl;exact h v dB
   simp[this]
  ·rfl
theorem QT{kindOf:Str->Option NameKind}:∀{a:List (Str×Value)}{m:Str->Option Value},(∀v,(x,v)∉a)->bindC kindOf a m x=m x
 |[],_,_=>rfl
 | (n,v)::r,m,h=>by
  unfold bindC;rw[QT λw b=>h w (bU _ b)];split
  ·rfl
  ·have:x≠n:=by rintro rfl;exact h v dB
   simp[this]
theorem QU{kindOf:Str->Option NameKind}:∀{P:List Str}{a:List Value}{i:Nat}{m:Str->Option Value},P.Nodup->P[i]?=some x->a[i]?=some v->kindOf x=some .local ->
  bindL kindOf (P.zip a) m x=some v
 |[],_,_,_,_,h,_,_=>by simp at h
 |_::_,[],_,_,_,_,h,_=>by simp at h
 |p::P,w::a,0,m,nd,h1,h2,hk=>by
  simp at h1 h2;subst h1;subst h2
  show bindL kindOf ((p,w)::P.zip a) m p=_;unfold bindL;rw[QV λv b=>(g7.mp nd).1 (N5 b).1,if_pos hk];simp
 |p::P,w::a,i+1,m,nd,h1,h2,hk=>by
  show bindL kindOf ((p,w)::P.zip a) m x=_;unfold bindL;exact QU (i:=i) (g7.mp nd).2 (by simpa using h1) (by simpa using h2) hk
theorem QS{kindOf:Str->Option NameKind}:∀{P:List Str}{a:List Value}{i:Nat}{m:Str->Option Value},P.Nodup->P[i]?=some x->a[i]?=some v->kindOf x≠some .local ->
  bindC kindOf (P.zip a) m x=some v
 |[],_,_,_,_,h,_,_=>by simp at h
 |_::_,[],_,_,_,_,h,_=>by simp at h
 |p::P,w::a,0,m,nd,h1,h2,hk=>by
  simp at h1 h2;subst h1;subst h2
  show bindC kindOf ((p,w)::P.zip a) m p=_;unfold bindC;rw[QT λv b=>(g7.mp nd).1 (N5 b).1,if_neg hk];simp
 |p::P,w::a,i+1,m,nd,h1,h2,hk=>by
  show bindC kindOf ((p,w)::P.zip a) m x=_;unfold bindC;exact QS (i:=i) (g7.mp nd).2 (by simpa using h1) (by simpa using h2) hk
def start(N:List Str) (a:List V):St:=a.map some++List.replicate (N.length-a.length) none
def gm(g:uk) (P:Program) (w:World) (K:Fg) (mg:Str->Option Value) (base:Heap) (N:List Str) (b:Str) (a:Scope) (f:Addr) (d:Value) (A:Around) (outer:List Env) (s:Shared) (H:Hp) (E:XK):Cx where
 prog:=P
 w:=w
 K:=K
 mg:=mg
 base:=base
 A:=A.deeper (envOfC b a s.heap.objs.size f d)
 N:=N
 s₀:=s
 H₀:=H
 env:=envOfC b a s.heap.objs.size f d
 outer:=outer
 stack:=envOfC b a s.heap.objs.size f d::outer
 ex:=[]
 calm:=true
 fn:=λ_=>true
 pn:=[]
 xe:=λe i=>wpAny (model P w) (A.deeper (envOfC b a s.heap.objs.size f d)) (leaving (envOfC b a s.heap.objs.size f d) e) (λ_ c=>g outer H s E e c) (λh c=>g outer H s E h c) i
theorem P4{a:Scope}(h:a.names.lookup x=some .cell):∃c,(cellsFrom n a.names []).lookup x=some c:=by
 have q:=W.cellsFrom_some a.names n [] (.inl h);exact Option.isSome_iff_exists.mp q
theorem Nm{K:Fg}{N:List Str}{A:Around}{j:List V}
  (S:cm N ps scope)(G:A.handled=none)(g:o0 P w K mg base A outer s H)(hl:j.length=ps.length)(r:am j us)
  (x:InCallC s s.heap.objs.size (bindL (envOfC qual scope s.heap.objs.size f cd).kindOf (ps.zip us) λ_=>none) (cellsFrom (s.heap.objs.size+1) scope.names []) (bindC (envOfC qual scope s.heap.objs.size f cd).kindOf (ps.zip us) λ_=>none) s1):
  Inv (gm CX P w K mg base N qual scope f cd A outer s H E) [] (start N j) H s1:=by
 have X:ps.length<=N.length:=by have:=congrArg List.length S.pre;rw[g9] at this;lia
 obtain⟨C,Y,rfl,J⟩:=x.done;have l:∀b:Addr,b∉(gm CX P w K mg base N qual scope f cd A outer s H E).ex:=λb z=>absurd (show b∈([]:List Addr) from z) (by simp)
 refine⟨⟨g.mod,S.kind,rfl,rfl,br _,λy z c C d=>?_,λy hy=>?_,λy c _ h=>?_,λ_=>G,Around.frames_deeper g.frames,.inr ⟨rfl,rfl⟩,λb z=>absurd z (l b),g.bs,g.bsz,λb _ _=>l b,λb z=>absurd z (l b),g.funs,g.frf⟩,
  rfl,g.bare,Un.kept J,⟨_,x.toInCall.ns,λi y v C d h3=>?_⟩,λy c h=>⟨_,x.cell y c h⟩,g.hok.fresh (br _),λy c h=>?_,λp o=>absurd (show p∈([]:List (Addr×Obj)) from o) (by simp),g.hok.kept J,?_,sE.none G⟩
 ·exact name_of_addr x.apart (tY C) (tY d)
 ·have hy:scope.names.lookup y=some .cell\/scope.names.lookup y=some .free:=hy;rcases hy with hy|hy
  ·exact P4 hy
  ·exact absurd rfl (S.nofree _ (tY hy))
 ·exact dj (x.above y c (tY h))
 ·have t:i<j.length:=by
   unfold start at d;by_cases t:i<j.length
   ·exact t
   ·rw[kQ (by simpa using t)] at d;rw[List.getElem?_replicate] at d;split at d<;>cases d
  have U:j[i]?=some v:=by
   unfold start at d;rw[gv (by simpa using t),fM] at d;cases e:j[i]? with
   |none=>rw[e] at d;cases d
   |some a=>rw[e] at d;cases d;rfl
  obtain⟨u,I,Q⟩:=r.get U;have o:ps[i]?=some y:=by
   rw[←S.pre,List.getElem?_take_of_lt (by lia)];exact C
  have m:ps.Nodup:=by rw[←S.pre];exact S.nd.sublist (CV _ _)
  refine⟨u,Q,?_⟩;rcases S.par y (ew o) with k|k
  ·exact .inl ⟨k,QU m o I k⟩
  ·obtain⟨c,e⟩:=P4 (n:=s.heap.objs.size+1) k;refine .inr ⟨.inl k,c,e,?_⟩;have q:=x.cell y c e;rw[QS m o I (by show scope.names.lookup y≠_;rw[k];decide)] at q;exact q
 ·exact g.hok.fresh (dj (x.above y c (tY h)))
 ·unfold start;show _=N.length;rw[cQ,bj,rH];lia
theorem FL{K:Fg}{kV:Value}
     {N:List Str}(lk:K.lookup f=some ⟨oc,od,.func (W.fnOf name qual params body scope dV kV doc pm an cdv ct),osl⟩)(X:W.codeIn K cdv qual=true)(S:cm N ps scope)
    (m:∀ c H Q E,sp c H Q E->c.length=ps.length)
    (i:∀(A:Around) (a:List Env) (s:Shared) (H:Hp) (c:List V) (Q:VK) (E:XK),cq k (A.deeper (envOfC qual scope s.heap.objs.size f cdv))->sp c H Q E ->
      ∃ t,jf (gm CX P w K mg base N qual scope f cdv A a s H E) body t/\t { nx:=λ_ g=>Q .non g,rt:=Q } (start N c) H):
    gM P w K mg base CX (k + 1) f (W.fnOf name qual params body scope dV kV doc pm an cdv ct) ps sp:=by
  refine⟨m,λA a s H a0 us c Q E G p hb r z=>?_⟩;have hl:=m _ _ _ _ z;have KX:K.In s.heap:=p.mod.kin.keeps λb o e=>(p.bs b o e).1
  have U:s.heap.NoLimit:=p.mod.nolimit.keeps λb o e=>(p.bs b o e).1
  have h:∀ y∈ps.zip us,scope.names.lookup y.1=some .local\/(scope.names.lookup y.1=some .cell/\((cellsFrom (s.heap.objs.size + 1) scope.names []).lookup y.1).isSome=true):=λY hy=>by
    obtain⟨n,v⟩:=Y;rcases S.par n (N5 hy).1 with q|q
    · exact .inl q
    · exact .inr ⟨q,W.cellsFrom_some _ _ _ (.inl q)⟩
  refine codeAny_call_function G.depth (KX _ _ lk) rfl S.co S.gen rfl (W.codeRec_of KX X) (hb _ _ _ _ ?_);refine wpAny_newFunctionEnv_cells S.kind h λa1 he s1 x=>?_
  subst he;refine⟨U.keeps x.toInCall.keep,codeAny_func ?_⟩;obtain⟨t,ht,hq⟩:=i A a s H c Q E (G.deeper _) z;have I:Inv (gm CX P w K mg base N qual scope f cdv A a s H E) [] (start N c) H s1:=Nm S G.hd p hl r x;refine ir (ht [] s1 (start N c) H _ I hq) (λfl s' j=>?_) λe s' j=>j
  have l:∀{d:St}{g:Hp}{v:V}{u:Value},Inv (gm CX P w K mg base N qual scope f cdv A a s H E) [] d g s'->RelV v u->Q v g->CE a P w H s Q u s':=
    λ{d g v u} J C q=>⟨v,g,J.os,J.bare,J.base,J.hok,C,q⟩
  cases fl with
  |ret u=>
    obtain⟨v,d,g,J,C,q⟩:=j;exact l J C q
  |next=>
    obtain⟨d,g,J,q⟩:=j;exact l (v:=V.non) (u:=Value.none) J rfl q
  |brk=>
    obtain⟨_,_,_,q⟩:=j;exact False.elim q
  |cont=>
    obtain⟨_,_,_,q⟩:=j;exact False.elim q
def O7(r:List V->Hp->VK->Prop) (t:TA):TE:=λb H Q=>t b H λa H1=>r a H1 Q
theorem Qx{id:String}(v:bN X (.builtin id) r)(o:Gl X x)(w:X.mg x=none)(m:bootBuiltins x=some (.builtin id))(k:PA X (e::es) t)(g:x≠"__name__":=by decide)(a:(x==("__debug__" : Str))=false:=by decide)
  (u:starEach (e::es) X.env=(false,eval e X.env)::starEach es X.env:=by rfl)(b:(backTo pos (starEach es X.env)).any (·.1)=false:=by rfl):PE X (.Call (.Name x p) (e::es) [] pos) (O7 r t):=by
 intro c s d H Q I h;refine CZ (ut I o w m ?_ g a);exact PyProof.Rows.callWith_builtin1 (bw (k pos c s d H _ I h) λj l ⟨i,H1,f,q,n⟩=>v c l d H1 i j Q f q n) u b
theorem Ri{T:String}(v:bN X (.type T) r)(o:Gl X x)(w:X.mg x=none)(m:bootBuiltins x=some (.type T))(k:PA X (e::es) t)(g:x≠"__name__":=by decide)(a:(x==("__debug__" : Str))=false:=by decide)
  (u:starEach (e::es) X.env=(false,eval e X.env)::starEach es X.env:=by rfl)(b:(backTo pos (starEach es X.env)).any (·.1)=false:=by rfl):PE X (.Call (.Name x p) (e::es) [] pos) (O7 r t):=by
 intro c s d H Q I h;refine CZ (ut I o w m ?_ g a);exact SK (bw (k pos c s d H _ I h) λj l ⟨i,H1,f,q,n⟩=>v c l d H1 i j Q f q n) u b
end L2
namespace HT
open PyProof.Rows
noncomputable def lexLt:List Int->List Int->Bool
 |[],[]=>false
 |[],_::_=>true
 |_::_,[]=>false
 |x::xs,y::ys=>if x=y then lexLt xs ys else decide (x<y)
theorem tu(x y:Int)(b a:List Int):lexLt (x::b) (y::a)=if x=y then lexLt b a else decide (x<y):=rfl
theorem Fd:lexLt [] []=false:=rfl
theorem Ck(y:Int)(a:List Int):lexLt [] (y::a)=true:=rfl
theorem Ff(x:Int)(a:List Int):lexLt (x::a) []=false:=rfl
theorem Lk(A:Around)(s:Shared)(a:Int)(t:Tok)(c:Int)(u:Tok):∃e,SeqAt.EqAt A s (.int a t) (.int c u) e/\(e=true↔a=c):=
 ⟨(a==c),SeqAt.EqAt.int_int a t c u,by simp⟩
theorem Mw(A:Around)(s:Shared)(a:Int)(t:Tok)(c:Int)(u:Tok)(b:Program)(w:World)(E:Value->Shared->Prop)(Q:Value->Shared->Prop)(h:Q (.bool (decide (a<c))) s):
  wpAny (model b w) A (richCompare .Lt (.int a t) (.int c u)) Q E s:=
 (PyProof.Rows.lt_int h:wpAny (model b w) A (compareOp .Lt (.int a t) (.int c u)) Q E s)
section
open SeqAt
open PySem.AutoSeq1 (wpAny_loadPart')
open MeetsSeq MeetsSeq2 MeetsSeq3
theorem Sy(l b:Addr)(i f:Array Value)(n n2:Nat)(dd a2:Option Addr)(sl a1:Array (Option Value))(P U:List Int)(hi:IntsAre i.toList P)(hj:IntsAre f.toList U):
  Meets (Builtin.«tuple.__lt__» ⟨[.ref l,.ref b],[]⟩)
   (λ_ R s=>s.heap.get? l=some { cls:=.type "tuple",dict:=dd,data:=.seq i n,slots:=sl }/\s.heap.get? b=some { cls:=.type "tuple",dict:=a2,data:=.seq f n2,slots:=a1 } /\
    R (.ok (.ret (.bool (lexLt P U)))) s):=
 .of_wp λC w A R s h=>by
  obtain⟨S,g,d,I,os⟩:=s;obtain⟨hl,hb,h⟩:=h
  have f2:=AutoSeq1.sub_tuple_tuple;have z1:i.size=P.length:=by rw[←hi.length];simp
  have z2:f.size=U.length:=by rw[←hj.length];simp
  wp_walk using wpAny_loadPart' hl,wpAny_loadPart' hb,wpAny_forIn_list _ (λv b X=>b.1=none/\X=⟨S,g,d,I,os⟩/\∃(J Q:List Value) (k m:List Int),v=J.zip Q /\
   IntsAre J k/\IntsAre Q m/\k.length+f.size=m.length+i.size/\R (.ok (.ret (.bool (lexLt k m)))) ⟨S,g,d,I,os⟩) _
  case turn=>
   rintro⟨y,x⟩ v b X ⟨H,rfl,J,Q,k,m,p,G,o,j,z⟩;cases G with
   |nil=>rw[List.zip_nil_left] at p;cases p
   |cons a t hvi'=>
    cases o with
    |nil=>rw[List.zip_nil_right] at p;cases p
    |cons c u hwi'=>
     rw[List.zip_cons_cons] at p;injection p with Y E
     injection Y with hy hx
     subst hy hx;rw[tu] at z;simp only[dw] at j;obtain⟨e,he,r⟩:=Lk A.in1 ⟨S,g,d,I,os⟩ a t c u;refine ag (he C w _ _ ?_);cases e with
     |true=>
      rw[if_pos (r.mp rfl)] at z
      wp_walk
      exact⟨rfl,rfl,_,_,_,_,E,hvi',hwi',by lia,z⟩
     |false=>
      rw[if_neg (λq=>absurd (r.mpr q) pJ)] at z;have a0:=Mw A.in1 ⟨S,g,d,I,os⟩ a t c u C w
      wp_walk using a0
      exact⟨_,rfl,by simpa using z⟩
  case fin=>
   rintro⟨b1,b2⟩ X ⟨H,rfl,J,Q,k,m,p,G,o,j,z⟩;simp only at H;subst H;have hv:lexLt k m=decide (i.size<f.size):=by
    cases G with
    |nil=>
     cases o with
     |nil=>
      simp only[tP] at j;rw[Fd];exact(cO (by lia)).symm
     |cons c u hw=>
      simp only[tP,dw] at j;rw[Ck];exact(cI (by lia)).symm
    |cons a t hv=>
     cases o with
     |nil=>
      simp only[tP,dw] at j;rw[Ff];exact(cO (by lia)).symm
     |cons c u hw=>
      rw[List.zip_cons_cons] at p;cases p
   rw[hv] at z
   wp_walk
   exact⟨_,rfl,by simpa [Builtin.Tuple.tupleCompareSizes] using z⟩
  case h=>
   exact⟨rfl,rfl,i.toList,f.toList,P,U,rfl,hi,hj,by lia,h⟩
end
theorem RP{A:Around}{s:Shared}(y:IsTup s.heap l items)(p:IsTup s.heap b items2)(r:IntsAre items.toList ns)(v:IntsAre items2.toList ms)
  (t:A.units<cLine)(h:Q (.bool (lexLt ns ms)) s):wpAny (model prog w) A (compareOp .Lt (.ref l) (.ref b)) Q E s:=by
 obtain⟨⟨q,u,j,z⟩,g,m,n,k⟩:=id y;obtain⟨⟨i,f,data2,e⟩,d,a,o,c⟩:=id p;simp only at m k a c;subst m k a c;exact richCompare_meets_room (op:=.Lt) ⟨_,g,rfl⟩ ⟨_,d,rfl⟩ OG F.entry_tuple_lt (F.args_tuple_lt_2 _ _) (Sy l b items items2 n o u f z e ns ms r v)
  ⟨g,d,show Value.bool (lexLt ns ms)≠Value.notImplemented/\Q (.bool (lexLt ns ms)) s from⟨(λx=>nomatch x),h⟩⟩ t
theorem Iy{s:Shared}{d a:List Value}(y:IsTup s.heap t d.toArray)(v:IsTup s.heap b a.toArray)(r:d≠[])
  (x:a=[]->Q (.ref t) s)(z:a≠[]->Q (.ref s.heap.objs.size) { s with heap:=s.heap.push { cls:=.type "tuple",data:=.seq (d++a).toArray } })
  (k:d.length+a.length<=sizeLine):wpAny (model prog w) A (binaryOp .Add (.ref t) (.ref b)) Q E s:=by
 obtain⟨⟨cls,q,data,u⟩,j,p,n,o⟩:=id y;obtain⟨⟨m,i,data2,h⟩,c,f,l,g⟩:=id v;simp only at p o f g;subst p o f g;have e:d.toArray++a.toArray=(d++a).toArray:=by simp
 by_cases hw:a=[]
 ·exact concat_meets ⟨_,j,rfl⟩ ⟨_,c,rfl⟩ noFill_tuple_add seq_tuple_add OJ OP (OR _ _)
   (tuple_addW1 t b d.toArray a.toArray n l q i u h (by simpa using r) (by simp[hw])) ⟨j,c,x hw⟩
 ·refine concat_meets ⟨_,j,rfl⟩ ⟨_,c,rfl⟩ noFill_tuple_add seq_tuple_add OJ OP (OR _ _)
   (tuple_addW2 t b d.toArray a.toArray n l q i u h (by simpa using r) (by simpa using hw) (by rw[eE,eE];exact k)) ⟨j,c,?_⟩
  rw[e];exact z hw
noncomputable def bW(n d:Nat):Option Int->Nat
 |none=>d
 |some v=>if v<0 then(v+(n:Int)).toNat else min v.toNat n
theorem QD(n d:Nat):bW n d none=d:=rfl
theorem xL(n d k:Nat):bW n d (some (k:Int))=min k n:=by
 show(if(k:Int)<0 then((k:Int)+(n:Int)).toNat else min (k:Int).toNat n)=min k n;rw[if_neg (by lia),kL]
theorem HX(n d:Nat)(a:d<=n)(o:Option Int):bW n d o<=n:=by
 cases o with
 |none=>exact a
 |some v=>
  show(if v<0 then(v+(n:Int)).toNat else min v.toNat n)<=n;by_cases hv:v<0
  ·rw[if_pos hv];lia
  ·rw[if_neg hv];exact rA _ _
theorem wU(v:Int)(n d:Nat):(if v<0 then max (v+(n:Int)) 0 else min v (n:Int))=((bW n d (some v):Nat):Int):=by
 show(if v<0 then max (v+(n:Int)) 0 else min v (n:Int))=(((if v<0 then(v+(n:Int)).toNat else min v.toNat n):Nat):Int)
 by_cases hv:v<0
 ·simp only[if_pos hv];lia
 ·simp only[if_neg hv];lia
theorem Tu(lo a:Option Int)(n:Nat):Builtin.Slice.sliceAdjust lo a 1 (n:Int)=(((bW n 0 lo:Nat):Int),((bW n n a:Nat):Int)):=by
 have b:¬ ((1:Int)<0):=by lia
 unfold Builtin.Slice.sliceAdjust;simp only[b,gP];refine Prod.ext ?_ ?_
 ·cases lo with
  |none=>rfl
  |some v=>exact wU v n 0
 ·cases a with
  |none=>rfl
  |some v=>exact wU v n n
theorem T3(i j:Nat):Builtin.Slice.slicePlaces (i:Int) (j:Int) 1=j-i:=by
 unfold Builtin.Slice.slicePlaces;have a:(1:Int) > 0:=by lia
 simp only[a,gr,Int.ediv_one];split<;>lia
theorem RU(p:IsPart v o)(h:Q o s):wpAny (model prog w) A (Builtin.Slice.slicePartIndex v) Q E s:=by
 cases p with
 |none=>exact slicePart_none h
 |int i t=>exact slicePart_int h
theorem SB{s:Shared}{lo c:Option Int}{n:Nat}(f:s.heap.IsSliceOf sl vl vu .none)(g:IsPart vl lo)(e:IsPart vu c)
  (h:Q (((bW n 0 lo:Nat):Int),1,bW n n c-bW n 0 lo) s):wpAny (model prog w) A (Builtin.Slice.sliceApplied (.ref sl) (pure (n:Int))) Q E s:=by
 obtain⟨os,b,d,a⟩:=id f;unfold Builtin.Slice.sliceApplied Builtin.Slice.sliceFields;refine ag (ag (x3 b a (x:=vl) rfl (ag (x3 b a (x:=vu) rfl (ag (x3 b a (x:=.none) rfl (aW ?_)))))));refine ag (slicePart_none ?_);show wpAny _ _ (if((1:Int)==0)=true then _ else _) _ _ s;rw[if_neg (by decide)];refine ag (RU g (ag (RU e (ag (aW ?_)))));show wpAny _ _ (match Builtin.Slice.sliceAdjust lo c 1 (n:Int) with|(lo,c)=>pure (lo,(1:Int),Builtin.Slice.slicePlaces lo c 1)) _ _ s;rw[Tu lo c n];show wpAny _ _ (pure (((bW n 0 lo:Nat):Int),(1:Int),Builtin.Slice.slicePlaces ((bW n 0 lo:Nat):Int) ((bW n n c:Nat):Int) 1)) _ _ s;rw[T3];exact aW h
theorem Mm(a:Array Value)(i k:Nat):((List.range k).filterMap λ(m:Nat)=>a[((i:Int)+(m:Int)*1).toNat]?).toArray=((a.toList.drop i).take k).toArray:=by
 have e:(λ(m:Nat)=>a[((i:Int)+(m:Int)*1).toNat]?)=λm=>a[i+m]?:=by
  funext m
  have:((i:Int)+(m:Int)*1).toNat=i+m:=by lia
  rw[this]
 rw[e];have:=pick_run a i k;rw[List.filterMap_map] at this;have b:((λx=>a[x]?) ∘ λx=>i+x)=λm=>a[i+m]?:=rfl
 rw[b] at this;rw[this]
theorem Vo{s:Shared}{lo:Option Int}(b:IsTup s.heap t items)(g:s.heap.IsSliceOf sl vl vu .none)(l:IsPart vl lo)(j:IsPart vu hi)
  (k:¬ (bW items.size 0 lo=0/\bW items.size items.size hi=items.size))
  (h:Q (.ref s.heap.objs.size) { s with heap:=s.heap.push { cls:=.type "tuple",data:=.seq ((items.toList.drop (bW items.size 0 lo)).take (bW items.size items.size hi-bW items.size 0 lo)).toArray } })
  (n:items.size<=sizeLine):wpAny (model prog w) A (getItem (.ref t) (.ref sl)) Q E s:=by
 have a:sizeOk (.seq ((items.toList.drop (bW items.size 0 lo)).take (bW items.size items.size hi-bW items.size 0 lo)).toArray):=by
  show((items.toList.drop (bW items.size 0 lo)).take (bW items.size items.size hi-bW items.size 0 lo)).toArray.size<=sizeLine;rw[eE,g9,mY,fZ];lia
 have o:bW items.size items.size hi<=items.size:=HX _ _ (br _) hi;obtain⟨os,f,d,i⟩:=id g;have c:s.TypeIs (.ref sl) "slice":=⟨os,f,d⟩
 unfold getItem
 try with_reducible refine jz ?_
 first|refine ag (aW ?_)|skip
 refine ag (wpAny_sequenceKey b.typeIs (by decide) ?_)
 refine ag (wpAny_callSpecial?_slot (name:=Str.ofString "__getitem__") b.typeIs OU
  (lE OU b.typeIs entry_tuple_getitem ?_ (args_tuple_getitem _ _)))
 show wpAny _ _ (Builtin.Tuple.tupleItemsOf (.ref t) >>= _) _ _ s;refine ag (tupleItemsOf_ b ?_);refine ag (wpAny_typeOf c ?_);rw[if_pos (by decide)];refine ag (SB g l j ?_);have e:¬ ((((bW items.size 0 lo:Nat):Int)==0&&(1:Int)==1&&(bW items.size items.size hi-bW items.size 0 lo)==items.size)=true):=by
  intro q;rw[j8,j8] at q;have p:((bW items.size 0 lo:Nat):Int)=0:=eq_of_beq q.1.1;have r:bW items.size items.size hi-bW items.size 0 lo=items.size:=eq_of_beq q.2;exact k ⟨by lia,by lia⟩
 show wpAny _ _ (if(((bW items.size 0 lo:Nat):Int)==0&&(1:Int)==1&&(bW items.size items.size hi-bW items.size 0 lo)==items.size)=true then _ else _) _ _ s;rw[if_neg e,Mm]
 first
  |exact ag (m:=Builtin.Tuple.tupleExact _) (mi (aW ⟨_,rfl,aW h⟩) a)
  |exact ag (m:=Builtin.Tuple.tupleExact _) (mi (ag (aW (aW ⟨_,rfl,aW h⟩))) a)
  |exact ag (ag (m:=Builtin.Tuple.tupleExact _) (mi (aW (aW ⟨_,rfl,aW h⟩)) a))
  |exact ag (ag (m:=Builtin.Tuple.tupleExact _) (mi (aW ⟨_,rfl,aW h⟩) a))
end HT
namespace L2
open Spec PyProof.Rows
abbrev TO:=St->Hp->(Option Int->Hp->Prop)->Prop
def PO(X:Cx) (e:Option Expr) (t:TO):Prop:=
 ∀(b:List (Addr×Obj)) (s:Shared) (a:St) (H:Hp) (Q:Option Int->Hp->Prop),Inv X b a H s->t a H Q ->
  wpAny (model X.prog X.w) X.A (evalPart e X.env) (λu d=>∃o c,Inv X b a c d/\IsPart u o/\Q o c) X.xe s
def oz:TO:=λ_ H Q=>Q none H
def yG(t:TE):TO:=λa H Q=>t a H λx H1=>∃i,x=.int i/\Q (some i) H1
theorem vb{ns:List Int}:∀{a:List Value},am (ns.map V.int) a->IntsAre a ns:=by
 induction ns with
 |nil=>intro a r;rw[Cv] at r;cases r;exact .nil
 |cons n ns ih=>
  intro a r;rw[cr] at r;cases r with
  |cons r1 r2=>
   obtain⟨t,e⟩:=r1;subst e;exact .cons n t (ih r2)
theorem J9:PO X none oz:=by
 intro a s b H Q I h;rw[evalPart_none];exact aW ⟨none,H,I,.none,h⟩
theorem Ka(h:PE X e te):PO X (some e) (yG te):=by
 intro c s j H Q I f;rw[evalPart_some];refine bw (h c s j H _ I f) λu k a=>?_
 obtain⟨x,H1,b,g,d⟩:=a;obtain⟨i,rfl,q⟩:=d;obtain⟨t,rfl⟩:=g;exact⟨some i,H1,b,.int i t,q⟩
def qc(X:Cx) (r:V->Option Int->Option Int->Hp->VK->Prop):Prop:=
 ∀(b:List (Addr×Obj)) (s:Shared) (f:St) (H:Hp) (x:V) (v a c:Value) (lo e:Option Int) (d:Addr) (Q:VK),Inv X b f H s->RelV x v->s.heap.IsSliceOf d a c .none->IsPart a lo->IsPart c e->r x lo e H Q ->
  ∃ T id,typeLookup (.type T) "__getitem__"=pure (some (.builtin id))/\s.TypeIs v T/\wpAny (model X.prog X.w) X.A (getItem v (.ref d)) (EP X b f Q) X.xe s
section
variable {lo:Option Expr}
theorem qc.or(h:qc X r)(l:qc X r'):qc X (λx lo a H Q=>r x lo a H Q\/r' x lo a H Q):=by
 intro d s k H x v b g lo a j Q I f e i c q;rcases q with q|q
 ·exact h d s k H x v b g lo a j Q I f e i c q
 ·exact l d s k H x v b g lo a j Q I f e i c q
end
def V2(r:V->Option Int->Option Int->Hp->VK->Prop) (c:TE) (b d:TO):TE:=λa H Q=>c a H λx H1=>b a H1 λl H2=>d a H2 λu H3=>r x l u H3 Q
theorem Mj{lo:Option Expr}(k:qc X r)(S:PE X e te)(P:PO X lo tl)(y:PO X hi th):PE X (.Subscript e (.Slice lo hi none p2) pos) (V2 r te tl th):=by
 intro d s f H Q I h;refine Subscript_ (bw (S d s f H _ I h) λv j c=>?_);obtain⟨x,H1,C,o,J⟩:=c;refine wpAny_Slice (bw (P d j f H1 _ C J) λi m ⟨l,H2,p,Y,n⟩=>bw (y d m f H2 _ p n) λg a c=>?_);obtain⟨u,H3,t,E,G⟩:=c;rw[evalPart_none];refine aW ?_;have A:Inv X d f H3 { a with heap:=a.heap.push { cls:=.type "slice",data:=.fields #[i,g,.none] } }:=t.kept (t':=a.toks) λb ob q=>dY _ q
 obtain⟨T,id,U,w,z⟩:=k d { a with heap:=a.heap.push { cls:=.type "slice",data:=.fields #[i,g,.none] } } f H3 x v i g l u a.heap.objs.size Q A o (Heap.IsSliceOf.new ..) Y E G
 show wpAny (model X.prog X.w) X.A (subscriptTail e (.Slice lo hi none p2) v (.ref a.heap.objs.size)) (EP X d f Q) X.xe { a with heap:=a.heap.push { cls:=.type "slice",data:=.fields #[i,g,.none] } }
 exact tail_any (ops:=[.ref a.heap.objs.size,v]) w U z (by with_unfolding_all rfl)
def gG(a:List V) (lo b:Option Int):List V:=(a.drop (HT.bW a.length 0 lo)).take (HT.bW a.length a.length b-HT.bW a.length 0 lo)
theorem R5(a:List V)(lo b:Option Int):(gG a lo b).length<=a.length:=by
 unfold gG;rw[g9,mY];lia
def Pa(K:Fg):V->Option Int->Option Int->Hp->VK->Prop:=λx lo c H Q=>∃a b,x=.ref a/\cH K H a b /\
 ¬ (HT.bW b.length 0 lo=0/\HT.bW b.length b.length c=b.length)/\∀p,H p=none->Q (.ref p) (bf H p (.tup (gG b lo c)))
theorem Ia:qc X (Pa X.K):=by
 intro w s A H x v u z lo f t Q I l k n j h;obtain⟨a,d,rfl,p,m,q⟩:=h;cases l;obtain⟨e,r,g,i⟩:=I.tuple p;have c:e.toArray.size=d.length:=by rw[eE];exact r.length.symm
 refine⟨"tuple",_,OU.lookup,g.typeIs,?_⟩
 refine HT.Vo g k n j (by rw[c];exact m) ?_ (by rw[c];exact i);rw[c];refine⟨.ref s.heap.objs.size,_,I.laid (t':=s.toks) (o:=.tup (gG d lo f)) (λb y q=>dY _ q) (br _) ?_,rfl,q _ (I.hok.fresh (br _))⟩;exact⟨ay (R5 d lo f) i,_,(r.drop (HT.bW d.length 0 lo)).take (HT.bW d.length d.length f-HT.bW d.length 0 lo),IsTup.new _ _⟩
def yW(K:Fg):R2:=λx y H Q=>∃a b d c,x=.ref a/\y=.ref b/\cH K H a (d.map V.int)/\cH K H b (c.map V.int)/\Q (.bl (HT.lexLt d c)) H
theorem Hu{X:Cx}(l:X.A.units<cLine):dv X (compareOp .Lt) (yW X.K):=by
 intro r s t H x y v u Q I j o h;obtain⟨a,b,ns,ms,rfl,rfl,f,g,q⟩:=h;cases j;cases o;obtain⟨d,m,p,_⟩:=I.tuple f;obtain⟨c,e,n,_⟩:=I.tuple g;have k:IntsAre d.toArray.toList ns:=vb m;have i:IntsAre c.toArray.toList ms:=vb e;exact HT.RP p n k i l ⟨.bl (HT.lexLt ns ms),H,I,rfl,q⟩
def y9(K:Fg):R2:=λx y H Q=>∃a b d c,x=.ref a/\y=.ref b/\cH K H a d/\cH K H b c/\d≠[]/\d.length+c.length<=sizeLine /\
 (c=[]->Q (.ref a) H)/\(c≠[]->∀p,H p=none->Q (.ref p) (bf H p (.tup (d++c))))
theorem am.nil_iff(r:am xs us):us=[]↔xs=[]:=by
 cases r with
 |nil=>simp
 |cons _ _=>simp
theorem JR:dv X (binaryOp .Add) (y9 X.K):=by
 intro E s J H x y v u Q I i k h;obtain⟨a,b,p,j,rfl,rfl,t,g,r,f,A,n⟩:=h;cases i;cases k;obtain⟨m,d,l,_⟩:=I.tuple t;obtain⟨e,c,C,_⟩:=I.tuple g;refine HT.Iy l C (λz=>r (d.nil_iff.mp z)) (λz=>⟨.ref a,H,I,rfl,A (c.nil_iff.mp z)⟩) (λz=>?_) (by rw[←d.length,←c.length];exact f);refine⟨.ref s.heap.objs.size,_,I.laid (t':=s.toks) (o:=.tup (p++j)) (λb G q=>dY _ q) (br _) ?_,rfl,n (λw=>z (c.nil_iff.mpr w)) _ (I.hok.fresh (br _))⟩;exact⟨by rw[cQ];exact f,_,d.append c,IsTup.new _ _⟩
noncomputable def km(n:Nat) (i:Int):Option Nat:=if 0<=i then(if i<n then some i.toNat else none) else if -(n:Int)<=i then some (i+n).toNat else none
def atI{α:Type}(a:List α) (i:Int):Option α:=(km a.length i).bind λj=>a[j]?
theorem xh(h:km n i=some j):seqIndex? i n=some j/\j<n/\-(n:Int)<=i/\i<n:=by
 unfold km at h;by_cases h0:0<=i
 ·rw[if_pos h0] at h;by_cases h1:i<n
  ·rw[if_pos h1] at h;have e:i.toNat=j:=g8 h;exact⟨by rw[seqIndex_of h0 h1,e],by lia,by lia,h1⟩
  ·rw[if_neg h1] at h;cases h
 ·rw[if_neg h0] at h;by_cases h1:-(n:Int)<=i
  ·rw[if_pos h1] at h;have e:(i+n).toNat=j:=g8 h;exact⟨by rw[seqIndex_neg (by lia) h1,e],by lia,h1,by lia⟩
  ·rw[if_neg h1] at h;cases h
theorem Dx{b:Type}{a:List b}{v:b}(h:atI a i=some v):∃j,seqIndex? i a.length=some j/\a[j]?=some v/\j<a.length/\-(a.length:Int)<=i/\i<a.length:=by
 unfold atI at h;cases e:km a.length i with
 |none=>rw[e] at h;cases h
 |some j=>
  rw[e] at h;obtain⟨g,d,f,c⟩:=xh e;exact⟨j,g,h,d,f,c⟩
theorem Dy{b:Type}{a:List b}{j:Nat}{v:b}(h:a[j]?=some v):atI a (j:Int)=some v:=by
 have c:j<a.length:=(db.mp h).1;have e:km a.length (j:Int)=some j:=by
  unfold km;rw[if_pos (by lia),if_pos (by lia)];simp
 unfold atI;rw[e];exact h
noncomputable def iL(b:Expr):Prop:=∀o i,subscripted b false o i=operate [o,i] (getItem o i)
def oW(X:Cx) (r:R2):Prop:=
 ∀(b a:Expr) (c:List (Addr×Obj)) (s:Shared) (d:St) (H:Hp) (x y:V) (v u:Value) (Q:VK),Inv X c d H s->RelV x v->RelV y u->r x y H Q ->
  subscripted a false v u=operate [v,u] (getItem v u)->wpAny (model X.prog X.w) X.A (subscriptTail b a v u) (EP X c d Q) X.xe s
def Dp(X:Cx) (id:String) (r:V->List V->Hp->VK->Prop):Prop:=
 ∀(a:List (Addr×Obj)) (s:Shared) (d:St) (H:Hp) (x:V) (c:List V) (v:Value) (b:List Value) (Q:VK),Inv X a d H s->RelV x v->am c b->r x c H Q ->
  wpAny (model X.prog X.w) X.A (call (.builtin id) (v::b)) (EP X a d Q) X.xe s
theorem oW.or(h:oW X r)(i:oW X r'):oW X (λx y H Q=>r x y H Q\/r' x y H Q):=by
 intro b a c s g H x y v u Q I e f q d;rcases q with q|q
 ·exact h b a c s g H x y v u Q I e f q d
 ·exact i b a c s g H x y v u Q I e f q d
theorem FW(j:oW X r)(c:PE X a ta)(d:PE X b tb)(g:iL b):PE X (.Subscript a b pos) (yH r ta tb):=by
 intro e s m H Q I h;exact Subscript_ (sf c d I h λv u f x y H2 k i l q=>j a b e f m H2 x y v u Q k i l q (g _ _))
def y6(K:Fg):R2:=λx y H Q=>∃p a i v,x=.ref p/\y=.int i/\dr K H p a/\atI a i=some v/\Q v H
def yY(K:Fg):R2:=λx y H Q=>∃p a i v,x=.ref p/\y=.int i/\cH K H p a/\atI a i=some v/\Q v H
def yZ:R2:=λx y H Q=>∃z i c,x=.str z/\y=.int i/\z.length<=sizeLine/\atI z.cps.toList i=some c/\Q (.str ⟨#[c]⟩) H
theorem Jk:oW X (y6 X.K):=by
 intro k c l s n H x y v u Q I C E h m;obtain⟨p,xs,i,z,rfl,rfl,G,Y,q⟩:=h;cases C;obtain⟨t,rfl⟩:=E;obtain⟨d,r,g,hz⟩:=I.list G;obtain⟨j,b,S,h3,P,J⟩:=Dx Y;obtain⟨w,o,e⟩:=r.get S;have U:=r.length;have hn:=fR;have a:EP X l n Q w s:=⟨z,H,I,e,q⟩
 by_cases h0:0<=i
 ·have f:i.toNat=j:=by
   rw[seqIndex_of h0 J] at b;exact g8 b
  exact item_listR g.isList h0 (by lia) (by rw[f];simpa using o) a m
 ·have f:(i+(d.toArray.size:Int)).toNat=j:=by
   rw[seqIndex_neg (by lia) P] at b;rw[eE,←U];exact g8 b
  exact subscriptTail_builtinR (x:=w) g.isList.typeIs slot_list_getitem.lookup
   (wpAny_getItem_list_neg (Q:=λr A=>r=w/\EP X l n Q r A) g.isList (by lia) (by rw[eE]<;>lia) (by lia) (by rw[f];simpa using o) ⟨rfl,a⟩) m
theorem G3:oW X (yY X.K):=by
 intro d b e s f H x y v u Q I l m h A;obtain⟨p,Y,i,z,rfl,rfl,n,P,q⟩:=h;cases l;obtain⟨t,rfl⟩:=m;obtain⟨C,r,g,hz⟩:=I.tuple n;obtain⟨j,o,G,h3,h4,U⟩:=Dx P;obtain⟨w,E,c⟩:=r.get G;have J:=r.length;have S:=fR;have a:EP X e f Q w s:=⟨z,H,I,c,q⟩
 exact subscriptTail_builtinR (x:=w) g.typeIs CY.lookup
  (getItem_tuple (j:=j) (Q:=λr k=>r=w/\EP X e f Q r k) g (by lia) (by lia) (by rw[eE,←J];exact o) (by simpa using E) ⟨rfl,a⟩) A
theorem G2:oW X yZ:=by
 intro b a A s G H x y v u Q I f g h l;obtain⟨z,i,c,rfl,rfl,J,r,q⟩:=h;obtain⟨t,rfl⟩:=f;obtain⟨C,rfl⟩:=g;obtain⟨j,d,o,E,n,m⟩:=Dx r;have p:z.cps.toList.length=z.length:=by simp[Str.length]
 rw[p] at d n m;have w:=fR
 exact tail_any (typeIs_str s z t) slot_str_getitem.lookup (getItem_str (c:=c) (by
  have k:decide (i < -(2^63:Int))=false:=cO (by lia);have e:decide (i ≥ 2^63)=false:=cO (by lia)
  rw[k,e,Bool.or_false]) (by rw[d];simpa using o) ⟨.str ⟨#[c]⟩,H,I.tok _,⟨_,rfl⟩,q⟩) l
def SR(K:Fg):R2:=λx y H Q=>y6 K x y H Q\/yY K x y H Q\/yZ x y H Q
theorem G1:oW X (SR X.K):=Jk.or (G3.or G2)
theorem TX(a:List Value)(n j:Nat)(u:Value):Obj.mapSeq (·.setIfInBounds j u) { cls:=.type "list",data:=.seq a.toArray n }={ cls:=.type "list",data:=.seq (a.set j u).toArray n }:=by
 simp[Obj.mapSeq]
theorem Inv.lst(I:Inv X aU σ H s)(h:H p=some (.lst xs)):
  ∃(a:List Value) (n:Nat),am xs a/\s.heap.get? p=some { cls:=.type "list",data:=.seq a.toArray n }/\xs.length<=sizeLine:=by
 obtain⟨z,a,n,r,e⟩:=I.hok p _ h;exact⟨a,n,r,e,z⟩
theorem Inv.lstUpd{c a:List Value}(I:Inv X aU σ H s)(h:H p=some (.lst xs))
  (j:s.heap.get? p=some { cls:=.type "list",data:=.seq c.toArray n })(d:f { cls:=.type "list",data:=.seq c.toArray n }={ cls:=.type "list",data:=.seq a.toArray n' })(r:am ys a)(i:ys.length<=sizeLine)(t:Nat):
  Inv X aU σ (bf H p (.lst ys)) {s with heap:=s.heap.update p f,toks:=t}:=by
 have e:(s.heap.update p f).get? p=some { cls:=.type "list",data:=.seq a.toArray n' }:=by
  rw[pQ f j (by rw[d]<;>rfl),d]
 refine I.write (x:=p) (e:=p) (by rw[h];trivial) (.inl rfl) (λb u g q=>(Heap.get?_update_other _ _ (fX g)).trans q) ⟨_,e⟩ ?_;exact⟨i,a,n',r,e⟩
def yT:V->V->V->Hp->(Hp->Prop)->Prop:=λo i v H Q=>∃p a k j,o=.ref p/\i=.int k/\H p=some (.lst a)/\km a.length k=some j/\Q (bf H p (.lst (a.set j v)))
theorem MD:AE X yT:=by
 intro x s z H o i v U P u Q I G A w h;obtain⟨p,y,k,j,rfl,rfl,f,C,q⟩:=h;cases G;obtain⟨t,rfl⟩:=A;obtain⟨a,n,r,c,E⟩:=I.lst f;obtain⟨b,S,g,m⟩:=xh C;have d:=r.length;have J:=fR;have l:Inv X x z (bf H p (.lst (y.set j v))) {s with heap:=s.heap.update p (Obj.mapSeq (·.setIfInBounds j u))}:=
  I.lstUpd f c (TX a n j u) (r.set w j) (by rw[iT];exact E) s.toks
 by_cases h0:0<=k
 ·have e:k.toNat=j:=by
   rw[seqIndex_of h0 m] at b;exact g8 b
  exact W.ki_setAt c h0 (by lia) (by rw[eE,←d];exact m) (by rw[e];exact⟨_,l,q⟩)
 ·have e:(k+(a.toArray.size:Int)).toNat=j:=by
   rw[seqIndex_neg (by lia) g] at b;rw[eE,←d];exact g8 b
  exact W.ki_setBack c (by lia) (by rw[eE,←d];exact g) (by lia) (by rw[e];exact⟨_,l,q⟩)
theorem U0(lo a:Option Int)(n:Nat):(sliceBounds lo a none n).1=((HT.bW n 0 lo:Nat):Int)/\(sliceBounds lo a none n).2.1=((HT.bW n n a:Nat):Int)/\(sliceBounds lo a none n).2.2=1:=by
 refine⟨?_,?_,rfl⟩
 ·cases lo with
  |none=>simp[sliceBounds,HT.bW]
  |some i=>
   simp only[sliceBounds,HT.bW,Option.getD_none,show(1:Int) > 0 by decide,gr];by_cases h:i<0
   ·simp only[h,gr]<;>lia
   ·simp only[h,gP]<;>lia
 ·cases a with
  |none=>simp[sliceBounds,HT.bW]
  |some i=>
   simp only[sliceBounds,HT.bW,Option.getD_none,show(1:Int) > 0 by decide,gr];by_cases h:i<0
   ·simp only[h,gr]<;>lia
   ·simp only[h,gP]<;>lia
theorem U8(a:List Value)(lo b:Option Int):slicePick a.toArray lo b none=((a.drop (HT.bW a.length 0 lo)).take (HT.bW a.length a.length b-HT.bW a.length 0 lo)).toArray:=by
 obtain⟨e,c,d⟩:=U0 lo b a.toArray.size;unfold slicePick;rw[e,c,d];simp only[sliceRange_one,pick_run,eE]<;>rfl
def Pb(K:Fg):V->Option Int->Option Int->Hp->VK->Prop:=λx lo c H Q=>∃a b,x=.ref a/\dr K H a b/\∀p,H p=none->Q (.ref p) (bf H p (.lst (gG b lo c)))
theorem Kn:qc X (Pb X.K):=by
 intro t s z H x v p w lo e y Q I j i m g h;obtain⟨a,c,rfl,n,q⟩:=h;cases j;obtain⟨k,r,f,l⟩:=I.list n;have d:=r.length;refine⟨"list",_,slot_list_getitem.lookup,f.isList.typeIs,?_⟩
 refine wpAny_getItem_list_slice f.isList i m g .none (by simp) ?_ (by rw[eE]<;>lia);rw[U8,←d];refine⟨.ref s.heap.objs.size,_,I.laid (t':=s.toks) (o:=.lst (gG c lo e)) (λb u q=>dY _ q) (br _) ?_,rfl,q _ (I.hok.fresh (br _))⟩;exact⟨ay (R5 c lo e) l,_,0,(r.drop (HT.bW c.length 0 lo)).take (HT.bW c.length c.length e-HT.bW c.length 0 lo),fY _ rfl⟩
theorem zw:bN X (.builtin "len") (λf H Q=>∃ p b,f=[.ref p]/\(dr X.K H p b\/cH X.K H p b)/\Q (.int b.length) H):=by
 intro l s m H f k Q I r h;obtain⟨p,b,rfl,hq,q⟩:=h;obtain⟨u,rfl,g⟩:=vals1 r;cases g;have j:=fR;rcases hq with hq|hq
 ·obtain⟨d,c,e,i⟩:=I.list hq;have a:=c.length;exact Calls.call_len_list e.isList (by simp only[eE]<;>lia) ⟨.int b.length,H,I.tok _,⟨s.toks+1,by rw[eE,a]⟩,q⟩
 ·obtain⟨d,c,e,i⟩:=I.tuple hq;have a:=c.length;exact len_tuple e (by simp only[eE]<;>lia) ⟨.int b.length,H,I.tok _,⟨s.toks+1,by rw[eE,a]⟩,q⟩
theorem bN.or(h:bN X f r)(g:bN X f r'):bN X f (λa H Q=>r a H Q\/r' a H Q):=by
 intro c s e H a b Q I d q;rcases q with q|q
 ·exact h c s e H a b Q I d q
 ·exact g c s e H a b Q I d q
theorem Sj:bN X (.type "list") (λz H Q=>∃ p d,z=[.ref p]/\(dr X.K H p d\/cH X.K H p d)/\∀ l,H l=none->Q (.ref l) (bf H l (.lst d))):=by
 intro A s E H z G Q I r h;obtain⟨p,d,rfl,hq,q⟩:=h;obtain⟨u,rfl,C⟩:=vals1 r;cases C;have i:∀(a:List Value),am d a->d.length<=sizeLine->∀(c:Heap) (g:Nat),(∀b y,s.heap.get? b=some y->c.get? b=some y) ->
   c.get? s.heap.objs.size=some { cls:=.type "list",dict:=none,data:=.seq a.toArray g,slots:=#[] }->EP X A E Q (.ref s.heap.objs.size) { s with heap:=c }:=λa f m c g j e=>
  ⟨.ref s.heap.objs.size,_,I.laid (t':=s.toks) j (br _) (show ba X.prog X.w _ c _ (.lst d) from⟨m,a,g,f,e⟩),rfl,q _ (I.hok.fresh (br _))⟩
 rcases hq with hq|hq
 ·obtain⟨a,f,x,m⟩:=I.list hq;have k:=f.length;obtain⟨o,t,w,n,v⟩:=x.isList;exact call_list_seq p (.inl rfl) t w v (λc g j e=>i a f m c g j e) (by simp only[eE]<;>lia)
 ·obtain⟨a,f,x,m⟩:=I.tuple hq;have k:=f.length;obtain⟨o,t,w,n,v⟩:=x;exact call_list_seq p (.inr rfl) t w v (λc g j e=>i a f m c g j e) (by simp only[eE]<;>lia)
theorem pq:bN X (.type "tuple") (λt H Q=>∃ p c,t=[.ref p]/\((dr X.K H p c/\∀ l,H l=none->Q (.ref l) (bf H l (.tup c)))\/(cH X.K H p c/\Q (.ref p) H))):=by
 intro k s v H t z Q I r h;obtain⟨p,c,rfl,h⟩:=h;obtain⟨u,rfl,x⟩:=vals1 r;cases x;rcases h with⟨i,q⟩|⟨i,q⟩
 ·obtain⟨a,f,g,m⟩:=I.list i;have n:=f.length;refine call_tuple_list g.isList (λd w=>?_) (by simp only[eE]<;>lia);have j:Inv X k v H {s with heap:=d}:=I.kept (t':=s.toks) w;have y:Inv X k v (bf H d.objs.size (.tup c)) { s with heap:=d.push { cls:=.type "tuple",data:=.seq a.toArray } }:=
   j.laid (t':=s.toks) (λb o e=>dY _ e) (br _) (show ba X.prog X.w _ _ _ (.tup c) from⟨m,a,f,IsTup.new _ _⟩)
  exact⟨.ref d.objs.size,_,y,rfl,q _ (j.hok.fresh (br _))⟩
 ·obtain⟨a,f,g,m⟩:=I.tuple i;exact call_tuple_same g ⟨.ref p,H,I,rfl,q⟩
def SO(K:Fg) (T:String) (x:V) (H:Hp):Prop:=match x with
 |.str _=>T="str"
 |.int _=>T="int"
 |.ref p=>(T="list"/\∃ b,dr K H p b)\/(T="tuple"/\∃ o,K.lookup p=some o/\o.cls=.type "tuple"/\o.dict=none) \/
  (T="dict"/\((∃ a,H p=some (.dK a))\/∃ a,H p=some (.dT a)))\/(T="set"/\∃ S n,H p=some (.set S n))
 |_=>False
theorem Ij{T:String}(I:Inv X aU σ H s)(r:RelV x v)(f:SO X.K T x H):
  s.TypeIs v T/\∀a,v=.ref a->∃k,s.heap.get? a=some k/\k.dict=none:=by
 cases x with
 |str z=>
  obtain⟨t,rfl⟩:=r;cases(show T="str" from f)
  exact⟨typeIs_str s z t,λ_ e=>nomatch e⟩
 |int i=>
  obtain⟨t,rfl⟩:=r;cases(show T="int" from f)
  exact⟨typeIs_int s i t,λ_ e=>nomatch e⟩
 |ref p=>
  cases r;rcases f with⟨rfl,w,u⟩|⟨rfl,o,b,q,h⟩|⟨rfl,b⟩|⟨rfl,S,n,b⟩
  ·obtain⟨m,_,l,_⟩:=I.list u;refine⟨l.isList.typeIs,λa e=>?_⟩;cases e;obtain⟨o,n,e,c,h,_⟩:=l;exact⟨o,e,h⟩
  ·refine⟨⟨o,I.kIn p o b,q⟩,λa e=>?_⟩;cases e;exact⟨o,I.kIn _ o b,h⟩
  ·have z:∃o,s.heap.get? p=some o/\o.ExactDict:=by
    rcases b with⟨g,b⟩|⟨g,b⟩
    ·obtain⟨_,_,_,_,o,_,_,e,d,_⟩:=I.hok p _ b;exact⟨o,e,d⟩
    ·obtain⟨_,_,_,_,o,_,_,e,d,_⟩:=I.hok p _ b;exact⟨o,e,d⟩
   obtain⟨o,e,d⟩:=z;refine⟨⟨o,e,d.1⟩,λa j=>?_⟩;cases j;exact⟨o,e,d.2.1⟩
  ·obtain⟨o,_,_,_,e,d,_⟩:=I.hok p _ b;refine⟨⟨o,e,d.1⟩,λa j=>?_⟩;cases j;exact⟨o,e,d.2.1⟩
 |_=>exact False.elim f
def V6(K:Fg) (T:String) (r:V->List V->Hp->VK->Prop) (to:TE) (t:TA):TE:=λa H Q=>to a H λx H1=>SO K T x H1/\t a H1 λb H2=>r x b H2 Q
theorem qJ{c:Pos}{T:String}{id:String}(A:PlainAttrs T)(g:Slot T name id)(l:typeOf (.builtin id)=pure (.type "method_descriptor"))(C:Dp X id r)(E:PE X o to)(ha:PA X (e::es) t)
  (f:attributeBase o name X.env (eval o X.env)=eval o X.env:=by rfl)
  (i:((backTo cpos (starEach (e::es) X.env)).all (λx=>!x.1)&&(backToKw cpos (keywordEach [] X.env)).all (λx=>x.1.isSome)
   && decide ((e::es).length+([]:List Keyword).length+(if([]:List Keyword).isEmpty then 0 else 1)<30))=true:=by rfl)
  (d:(c.endLine==cpos.line)=true:=by rfl)(P:starEach (e::es) X.env=(false,eval e X.env)::starEach es X.env:=by rfl)(b:(backTo cpos (starEach es X.env)).any (·.1)=false:=by rfl):
  PE X (.Call (.Attribute o name c) (e::es) [] cpos) (V6 X.K T r to t):=by
 intro j s k H Q I h;refine wpAny_Call_method_late f i d rfl (bw (E j s k H _ I h) λv z n=>?_);obtain⟨x,H1,u,p,w,q1⟩:=n;obtain⟨G,h2⟩:=Ij u p w;refine⟨T,id,A,g,l,G,h2,?_⟩;have q:=ha cpos j z k H1 _ u q1;rw[P] at q ⊢;refine OI (by show(false||(backTo cpos (starEach es X.env)).any (·.1))=false;rw[b]<;>rfl) (OD ?_);exact bw q λY J ⟨y,H2,U,r2,S⟩=>C j J k H2 x y v Y Q U p r2 S
/- xs.append(e),list.index on a module's tuple .. are Dp facts of 06m -/
def We(X:Cx) (id:String) (r:V->List V->Hp->VK->Prop):Prop:=
 ∀(a:List (Addr×Obj)) (s:Shared) (d:St) (H:Hp) (x:V) (c:List V) (v:Value) (b:List Value) (Q:VK),Inv X a d H s->RelV x v->am c b->r x c H Q ->
  wpAny (model X.prog X.w) X.A (call (.builtin id) (v::b)) (EP X a d Q) X.xe s
theorem am.one:∀{x:V}{a:List Value},am [x] a->∃u,a=[u]/\RelV x u
 |_,_,.cons r .nil=>⟨_,rfl,r⟩
theorem Inv.lset{a its':List Value}(I:Inv X aU σ H s)(d:H l=some (.lst xs))
  (e:s.heap.get? l=some { cls:=.type "list",data:=.seq a.toArray n })(b:f a.toArray=its'.toArray)(g:am ys its')(i:ys.length<=sizeLine):
  Inv X aU σ (bf H l (.lst ys)) {s with heap:=s.heap.update l (Obj.mapSeq f),toks:=t'}:=by
 have q:=PySem.IsL.update e f;rw[b] at q;refine I.write (x:=l) (e:=l) (by rw[d];exact trivial) (.inl rfl) (λj u c h=>(Heap.get?_update_other s.heap (Obj.mapSeq f) (fX c)).trans h) ⟨_,q⟩ ?_;exact⟨i,its',_,g,q⟩
theorem Inv.lnew(I:Inv X aU σ H s)(a:am ys its)(b:ys.length<=sizeLine):
  Inv X aU σ (bf H s.heap.objs.size (.lst ys)) { s with heap:=s.heap.push { cls:=.type "list",data:=.seq its.toArray },toks:=t' }:=
 I.laid (λ_ _ q=>dY _ q) (br _) ⟨b,its,0,a,fY _ rfl⟩
theorem Inv.fresh(I:Inv X aU σ H s):H s.heap.objs.size=none:=I.hok.fresh (br _)
theorem Inv.lstM(I:Inv X aU σ H s)(b:H l=some (.lst xs)):xs.length<=sizeLine/\∃(a:List Value) (n:Nat),am xs a/\xs.length=a.length/\s.heap.get? l=some { cls:=.type "list",data:=.seq a.toArray n }:=by
 obtain⟨z,a,n,r,e⟩:=I.hok l _ b;exact⟨z,a,n,r,r.length,e⟩
def oE:V->List V->Hp->VK->Prop:=λx b H Q=>∃l a y,x=.ref l/\b=[y]/\H l=some (.lst a)/\a.length<sizeLine/\Q .non (bf H l (.lst (a++[y])))
theorem Rc:We X "list.append" oE:=by
 intro j s p H x i v g Q I d c h;obtain⟨l,o,y,rfl,rfl,b,k,q⟩:=h;cases d;obtain⟨u,rfl,f⟩:=c.one;obtain⟨z,a,n,r,m,e⟩:=I.lstM b;refine tH F.slot_list_append ⟨_,e,rfl⟩ F.entry_list_append (F.args_list_append_2 _ _) (PySem.list_append l a.toArray n u (by rw[eE];lia)) ⟨e,?_⟩;refine⟨.non,_,I.lset (its':=a++[u]) b e (by simp) (r.append (.cons f .nil)) ?_,rfl,q⟩;rw[cQ,ot];lia
def zA:R2:=λx y H Q=>∃l b a c,x=.ref l/\y=.ref b/\H l=some (.lst a)/\H b=some (.lst c)/\a.length+c.length<=sizeLine/\∀p,H p=none->Q (.ref p) (bf H p (.lst (a++c)))
theorem Hr:dv X (binaryOp .Add) zA:=by
 intro w s J H x y v u Q I k o h;obtain⟨l,b,E,G,rfl,rfl,j,g,A,q⟩:=h;cases k;cases o;obtain⟨z,c,n,r,C,e⟩:=I.lstM j;obtain⟨p,a,t,f,d,i⟩:=I.lstM g;refine PySem.P.add_list e i ?_ (by rw[eE,eE];lia);have m:c.toArray++a.toArray=(c++a).toArray:=by simp
 rw[m];exact⟨.ref _,_,I.lnew (t':=s.toks) (r.append f) (by rw[cQ];lia),rfl,q _ I.fresh⟩
section
variable {κ:Type}[DecidableEq κ]
noncomputable def cu(a:List (κ×V)) (k:κ):Option V:=(a.find? λb=>decide (b.1=k)).map (·.2)
noncomputable def d4(a:List (κ×V)) (k:κ) (v:V):List (κ×V):=
 if(a.any λb=>decide (b.1=k))=true then a.map (λb=>if b.1=k then(b.1,v) else b) else a++[(k,v)]
noncomputable def di(a:List (κ×V)) (k:κ):List (κ×V):=a.filter λb=>decide (b.1≠k)
theorem uY{p:κ×V}{r:List (κ×V)}{k:κ}(e:p.1=k):cu (p::r) k=some p.2:=by simp[cu,lD,e]
theorem uX{p:κ×V}{r:List (κ×V)}{k:κ}(e:¬ p.1=k):cu (p::r) k=cu r k:=by simp[cu,lD,e]
theorem QK(k:κ):∀a:List (κ×V),(a.any λb=>decide (b.1=k))=(cu a k).isSome
 |[]=>rfl
 |p::r=>by
  rw[ri];by_cases e:p.1=k
  ·simp only[uY e,cI e,Bool.true_or,Option.isSome_some]
  ·rw[uX e,cO e,Bool.false_or];exact QK k r
theorem E1(a:List (κ×V))(k:κ)(v:V):(d4 a k v).length<=a.length+1:=by
 unfold d4;split
 ·rw[bj];lia
 ·rw[cQ,dw,tP];lia
theorem fq.isSome_eq(r:fq o u):o.isSome=u.isSome:=by
 cases o with
 |none=>cases u with
  |none=>rfl
  |some _=>exact(show False from r).elim
 |some _=>cases u with
  |none=>exact(show False from r).elim
  |some _=>rfl
theorem fq.getD(r:fq o u)(a:RelV d d'):RelV (o.getD d) (u.getD d'):=by
 cases o with
 |none=>cases u with
  |none=>exact a
  |some _=>exact(show False from r).elim
 |some _=>cases u with
  |none=>exact(show False from r).elim
  |some _=>exact r
theorem KV.val(r:KV kvs vs)(k:κ):fq (cu kvs k) (valueAt vs k):=by
 unfold KV at r
 induction r with
 |nil=>exact True.intro
 |@cons p q ps qs h t ih=>
  obtain⟨c,d⟩:=h;by_cases e:p.1=k
  ·have a:q.1=k:=c.symm.trans e;have b:valueAt (q::qs) k=some q.2:=by simp[valueAt,lD,a]
   rw[uY e,b];exact d
  ·have a:¬ q.1=k:=λz=>e (c.trans z)
   have b:valueAt (q::qs) k=valueAt qs k:=by simp[valueAt,lD,a]
   rw[uX e,b];exact ih
theorem KV.any(r:KV kvs vs)(k:κ):(kvs.any λa=>decide (a.1=k))=vs.any λa=>decide (a.1=k):=by
 unfold KV at r
 induction r with
 |nil=>rfl
 |cons h t ih=>rw[ri,ri,ih,h.1]
theorem KV.repl(r:KV kvs vs)(k:κ) (d:RelV y u):
  KV (kvs.map λa=>if a.1=k then(a.1,y) else a) (vs.map λa=>if a.1=k then(a.1,u) else a):=by
 unfold KV at r ⊢
 induction r with
 |nil=>exact .nil
 |@cons p q ps qs h t ih=>
  rw[cr,cr];refine .cons ?_ ih;obtain⟨b,c⟩:=h;by_cases e:p.1=k
  ·rw[if_pos e,if_pos (b.symm.trans e)];exact⟨b,d⟩
  ·rw[if_neg e,if_neg (λz=>e (b.trans z))];exact⟨b,c⟩
theorem KV.put(r:KV kvs vs)(k:κ) (a:RelV y u):KV (d4 kvs k y) (stored vs k u):=by
 unfold d4 stored;rw[r.any k];by_cases e:(vs.any λb=>decide (b.1=k))=true
 ·rw[if_pos e,if_pos e];exact r.repl k a
 ·rw[if_neg e,if_neg e];exact Paired.snoc r ⟨rfl,a⟩
theorem KV.drop(r:KV kvs vs)(k:κ):KV (di kvs k) (without vs k):=by
 unfold KV at r ⊢;unfold di without
 induction r with
 |nil=>exact .nil
 |@cons p q ps qs h t ih=>
  obtain⟨c,f⟩:=h;rw[pG,pG];by_cases e:p.1=k
  ·have a:¬ decide (p.1≠k)=true:=by simp[e]
   have b:¬ decide (q.1≠k)=true:=by simp[c.symm.trans e]
   rw[if_neg a,if_neg b];exact ih
  ·have d:¬ q.1=k:=λz=>e (c.trans z)
   have a:decide (p.1≠k)=true:=by simp[e]
   have b:decide (q.1≠k)=true:=by simp[d]
   rw[if_pos a,if_pos b];exact .cons ⟨c,f⟩ ih
theorem KV.keys{a:List (κ×V)}{b:List (κ×Value)}(r:KV a b):a.map (·.1)=b.map (·.1):=by
 unfold KV at r
 induction r with
 |nil=>rfl
 |cons h t ih=>rw[cr,cr,ih,h.1]
theorem KV.length(r:KV kvs vs):kvs.length=vs.length:=rj r
theorem K8(a:List (κ×V))(k:κ):(di a k).length<=a.length:=pP _ _
end
theorem ju(r:RelV (kV k) u):(aZ P w).is k u=true:=by
 cases k with
 |inl i=>obtain⟨t,e⟩:=(show ∃t,u=Value.int i t from r);subst e;exact Uq P w i t
 |inr x=>obtain⟨t,e⟩:=(show ∃t,u=Value.str x t from r);subst e;exact Ur P w x t
theorem Q9:∀{a:List cA}{b:List Value},am (a.map kV) b->ItemsAre (aZ P w) a b
 |[],_,r=>by rw[Cv] at r;cases r;exact .nil
 |k::a,_,r=>by
  rw[cr] at r;cases r with
  |cons h t=>exact .cons (ju h) (Q9 t)
abbrev KT(H:Hp):List (List cA×V)->List (List cA×Addr×Value)->Prop:=Paired λp q=>p.1=q.1/\H q.2.1=some (.tup (p.1.map kV))/\RelV p.2 q.2.2
theorem KT.val(r:KT H kvs xs)(k:List cA):fq (cu kvs k) ((atKey xs k).map (·.2)):=by
 induction r with
 |nil=>exact True.intro
 |@cons p q ps qs h t ih=>
  obtain⟨c,_,d⟩:=h;by_cases e:p.1=k
  ·have a:q.1=k:=c.symm.trans e;have b:atKey (q::qs) k=some q.2:=by simp[atKey,lD,a]
   rw[uY e,b];exact d
  ·have a:¬ q.1=k:=λz=>e (c.trans z)
   have b:atKey (q::qs) k=atKey qs k:=by simp[atKey,lD,a]
   rw[uX e,b];exact ih
theorem KT.repl(r:KT H kvs xs)(k:List cA) (d:RelV y u):
  KT H (kvs.map λb=>if b.1=k then(b.1,y) else b) (xs.map (putAt k u)):=by
 induction r with
 |nil=>exact .nil
 |@cons p q ps qs h t ih=>
  rw[cr,cr];refine .cons ?_ ih;obtain⟨a,c,f⟩:=h;unfold putAt;by_cases e:p.1=k
  ·rw[if_pos e,if_pos (a.symm.trans e)];exact⟨a,c,d⟩
  ·rw[if_neg e,if_neg (λz=>e (a.trans z))];exact⟨a,c,f⟩
theorem KT.put(r:KT H kvs xs)(k:List cA) (c:H b=some (.tup (k.map kV)))(a:RelV y u):
  KT H (d4 kvs k y) (storedH xs k b u):=by
 have e:(kvs.any λd=>decide (d.1=k))=(atKey xs k).isSome:=by
  rw[QK,(r.val k).isSome_eq,Option.isSome_map]
 unfold d4 storedH;rw[e];by_cases q:(atKey xs k).isSome=true
 ·rw[if_pos q,if_pos q];exact r.repl k a
 ·rw[if_neg q,if_neg q];exact Paired.snoc r ⟨rfl,c,a⟩
theorem KT.keeps(r:KT H kvs xs)(c:∀b a,H b=some (.tup a)->H' b=some (.tup a)):KT H' kvs xs:=
 Paired.mapP r λ_ _ z=>⟨z.1,c _ _ z.2.1,z.2.2⟩
theorem vz(b:fx P w H h)(e:Rd H a u):ba P w H h a u:=e.ok b
theorem jt(b:fx P w H h)(e:Rd H a (.dK kvs)):kvs.length<=sizeLine/\(a==sysModules)=false/\∃vs,KV kvs vs/\h.DictOf (aZ P w) a vs:=
 show ba P w H h a (.dK kvs) from vz b e
theorem qE(b:fx P w H h)(e:H a=some (.dK kvs)):kvs.length<=sizeLine/\(a==sysModules)=false/\∃vs,KV kvs vs/\h.DictOf (aZ P w) a vs:=jt b (.inl e)
theorem sK{b:List cA}(d:fx P w H h)(e:H a=some (.tup (b.map kV))):(tupleKind (aZ P w)).is h b a:=by
 obtain⟨_,c,r,o,i,f,n,g⟩:=(show ba P w H h a (.tup (b.map kV)) from d a _ e)
 exact⟨o,c.toArray,n,i,f,g,by simpa using Q9 r⟩
theorem kF(c:fx P w H h)(e:Rd H a (.dT kvs)):kvs.length<=sizeLine/\(a==sysModules)=false /\
  ∃xs,KT H kvs xs/\h.DictOfH (tupleKind (aZ P w)) a xs:=by
 obtain⟨z,y,xs,r,o,d,f,n,j,k,i,g⟩:=(show ba P w H h a (.dT kvs) from vz c e)
 refine⟨z,y,xs,r,o,d,f,n,j,k,i,λx hx=>?_,g⟩;have b:∀{l:List (List cA×V)}{m:List (List cA×Addr×Value)},KT H l m->∀x∈m,(tupleKind (aZ P w)).is h x.1 x.2.1:=by
  intro l m q
  induction q with
  |nil=>intro x hx;exact nomatch hx
  |@cons p q ps qs hq t ih=>
   intro x hx;rcases ca.mp hx with e|hx
   ·subst e;exact sK c (by rw[←hq.1];exact hq.2.1)
   ·exact ih x hx
 exact b r x hx
theorem vq(b:fx P w H h)(e:H a=some (.dT kvs)):kvs.length<=sizeLine/\(a==sysModules)=false /\
 ∃xs,KT H kvs xs/\h.DictOfH (tupleKind (aZ P w)) a xs:=kF b (.inl e)
def jg(H:Hp) (a:Addr) (y:V) (r:Option V):Prop:=
 (∃c k,Rd H a (.dK c)/\y=kV k/\r=cu c k)\/∃c k b,Rd H a (.dT c)/\y=.ref b/\H b=some (.tup (k.map kV))/\r=cu c k
def mO(H:Hp) (a:Addr) (y v:V) (d:Hp):Prop:=
 (∃c k,H a=some (.dK c)/\y=kV k/\c.length<sizeLine/\d=bf H a (.dK (d4 c k v))) \/
 ∃c k b,H a=some (.dT c)/\y=.ref b/\H b=some (.tup (k.map kV))/\c.length<sizeLine/\d=bf H a (.dT (d4 c k v))
theorem mO.t{k:List cA}(e:H a=some (.dT kvs))(d:H b=some (.tup (k.map kV)))(c:kvs.length<sizeLine):
 mO H a (.ref b) v (bf H a (.dT (d4 kvs k v))):=.inr ⟨kvs,k,b,e,rfl,d,c,rfl⟩
theorem Inv.big(I:Inv X aU σ H s):sysModules<s.heap.objs.size:=by
 have h:mainGlobals<s.heap.objs.size:=(I.mod.glob.keeps I.bk).lt;exact rh (by decide) h
theorem M8{A:Around}(G:A.units+1<cLine)(I:Inv X aU σ H s)(g:jg H a y (some v))(t:RelV y u)(h:∀f r,Inv X aU σ H r->RelV v f->Q f r):
  wpAny (model X.prog X.w) A (getItem (.ref a) u) Q E s:=by
 rcases g with⟨i,k,e,m,l⟩|⟨i,k,b,e,m,C,l⟩
 ·subst m;obtain⟨z,w,x,d,j⟩:=jt I.hok e;obtain⟨f,n,c⟩:=fq.some_of (v:=v) (o:=valueAt x k) (by rw[l];exact d.val k);exact wpAny_getItem_of (ju t) j.mapOf n (h f _ (I.tok _) c)
 ·subst m;cases(show u=Value.ref b from t);obtain⟨z,w,J,d,j⟩:=kF I.hok e;obtain⟨f,n,c⟩:=fq.some_of (v:=v) (o:=(atKey J k).map (·.2)) (by rw[l];exact d.val k);obtain⟨p,P,q⟩:=jE.mp n;refine wpAny_getItem_heap (yt G) (sK I.hok C) j P ?_;rw[q];exact h f _ (I.tok _) c
theorem sd{A:Around}(r:A.units+1<cLine)(I:Inv X aU σ H s)(g:jg H a y o)(n:RelV y u)(h:∀m,Inv X aU σ H m->Q (.bool o.isSome) m):
  wpAny (model X.prog X.w) A (compareOp .In u (.ref a)) Q E s:=by
 rcases g with⟨d,k,e,i,l⟩|⟨d,k,b,e,i,p,l⟩
 ·subst i;obtain⟨z,f,t,c,j⟩:=jt I.hok e;refine wpAny_in_of (ju n) f j.mapOf ?_;rw[←(c.val k).isSome_eq,←l];exact h _ (I.tok _)
 ·subst i;cases(show u=Value.ref b from n);obtain⟨z,f,v,c,j⟩:=kF I.hok e;refine wpAny_in_heap (yt r) (sK I.hok p) f j ?_;have q:=(c.val k).isSome_eq;rw[Option.isSome_map] at q;rw[←q,←l];exact h _ (I.tok _)
theorem uA(I:Inv X aU σ H s)(d:AH (H a))(g:Heap.SameBut a s.heap h')(h:∃q,h'.get? a=some q)(c:ba X.prog X.w (bf H a ob) h' a ob):
  Inv X aU σ (bf H a ob) {s with heap:=h',toks:=t'}:=
 I.write (x:=a) (e:=a) d (.inl rfl) (λb q f z=>(g.2 b f).trans z) h c
theorem qR{d:Heap}{b:List (cA×V)}(z:b.length<=sizeLine)(e:(a==sysModules)=false)(c:KV b vs)(f:d.DictOf (aZ P w) a vs):
 ba P w H' d a (.dK b):=⟨z,e,vs,c,f⟩
theorem M9{A:Around}(hu:A.units+1<cLine)(I:Inv X aU σ H s)(g:mO H a y v H')(J:RelV y u)(C:RelV v r)(h:∀G,Inv X aU σ H' G->Q () G):
  wpAny (model X.prog X.w) A (setItem (.ref a) u r) Q E s:=by
 rcases g with⟨d,k,e,m,l,x⟩|⟨d,k,b,e,m,U,l,x⟩
 ·subst m x;obtain⟨z,o,Y,f,p⟩:=qE I.hok e;have t:Y.length<=sizeLine:=by rw[←f.length];exact z
  have w:(d4 d k v).length<=sizeLine:=by have:=E1 d k v;lia
  refine wpAny_setItem_pairs (hsz:=t) (ju J) p λS i n=>h _ ?_
  have he:∃q,S.get? a=some q:=let ⟨q,_,_,j,_⟩:=i;⟨q,j⟩
  exact uA I (by rw[e];exact True.intro) n he (qR w o (f.put k C) i)
 ·subst m x;cases(show u=Value.ref b from J);obtain⟨z,o,xs,f,p⟩:=vq I.hok e;have t:xs.length<=sizeLine:=by rw[←rj f];exact z
  have w:(d4 d k v).length<=sizeLine:=by have:=E1 d k v;lia
  refine wpAny_setItem_heap (hsz:=t) (yt hu) (sK I.hok U) p λS i n=>h _ ?_
  obtain⟨q,es,ep,j,h2,h3,h4,_,h5⟩:=i;refine uA I (by rw[e];exact True.intro) n ⟨q,j⟩ ⟨w,o,_,(f.put k U C).keeps λc ys P=>?_,q,es,ep,j,h2,h3,h4,h5⟩;rw[zx (vt P e (λz=>nomatch z))];exact P
theorem Fz(I:Inv X aU σ H s)(e:H a=some (.dK kvs))(g:RelV (kV k) u)(l:cu kvs k=some v)(p:more=[]\/∃x,more=[x])
  (h:∀ d n,Inv X aU σ (bf H a (.dK (di kvs k))) n->RelV v d->Q d n):wpAny (model X.prog X.w) A (call (.builtin "dict.pop") (.ref a::u::more)) Q E s:=by
 obtain⟨z,r,m,b,j⟩:=qE I.hok e;obtain⟨d,J,f⟩:=fq.some_of (v:=v) (o:=valueAt m k) (by rw[←l];exact b.val k);have w:(keyPart u).isSome=true:=by
  cases k with
  |inl i=>obtain⟨t,q⟩:=(show ∃t,u=Value.int i t from g);subst q;rfl
  |inr x=>obtain⟨t,q⟩:=(show ∃t,u=Value.str x t from g);subst q;rfl
 have y:argsOk "dict.pop" ⟨.ref a::u::more,[]⟩:=by
  rcases p with q|⟨x,q⟩
  ·subst q;exact F.args_dict_pop_2 _ _
  ·subst q;exact F.args_dict_pop_3 _ _ _
 refine ya C8 j.typeIs F.entry_dict_pop y (meets_dict_pop_there (aZ X.prog X.w) a (ju g) more p w)
  ⟨m,d,j,by rw[←b.length];exact z,J,λP c C=>h d _ ?_ f⟩
 have G:∃q,P.get? a=some q:=let ⟨q,_,_,hq,_⟩:=c;⟨q,hq⟩
 exact uA I (by rw[e];exact True.intro) C G (qR (ay (K8 kvs k) z) r (b.drop k) c)
noncomputable def oU(i:Expr):Prop:=∀a b,subscripted i false a b=operate [a,b] (getItem a b)
theorem Kr{T id:String}
  (k:typeLookup (.type T) "__getitem__"=pure (some (.builtin id)))(j:oU slice)
  (h:wpAny (model prog w) A (eval value env) (λo b=>wpAny (model prog w) A (eval slice env) (λi s₂=>s₂.TypeIs o T/\wpAny (model prog w) A (getItem o i) Q E s₂) E b) E s):
  wpAny (model prog w) A (eval (.Subscript value slice pos) env) Q E s:=by
 refine Subscript_ (ir h (λo b e=>ir e (λi s₂ a=>?_) λ_ _ x=>x) λ_ _ x=>x);obtain⟨g,a⟩:=a;unfold subscriptTail;refine ag ?_;rw[getitemInPython_of_ne g.not_modules];refine ag (wpAny_specialOf g k ?_);have d:wpAny (model prog w) A (subscripted slice false o i) (λr c=>wpAny (model prog w) A (letTemporaryGo value o r >>= λ_=>pure r) Q E c) E s₂:=by
  rw[j o i];exact wpAny_operating (ir a (λr c f=>ag (wpAny_letTemporaryGo (aW f))) λ_ _ x=>x)
 first
  |exact aW (ag d)
  |exact ag (aW (ag d))
  |exact ag d
theorem Uk(I:Inv X aU σ H s)(g:jg H a y o):s.TypeIs (.ref a) "dict":=by
 rcases g with⟨d,k,e,_,_⟩|⟨d,k,b,e,_,_,_⟩
 ·obtain⟨_,_,f,_,c⟩:=jt I.hok e;exact c.typeIs
 ·obtain⟨_,_,h,_,c⟩:=kF I.hok e;exact c.typeIs
def yL(c d:TE):TE:=λb H Q=>c b H λx H1=>d b H1 λy H2=>∃a v,x=.ref a/\jg H2 a y (some v)/\Q v H2
def O5(d c:TE):TE:=λb H Q=>d b H λy H1=>c b H1 λx H2=>∃a o,x=.ref a/\jg H2 a y o/\Q (.bl o.isSome) H2
def f6(e d f:TE):TS:=λD b H=>f b H λv H1=>e b H1 λx H2=>d b H2 λy H3=>∃a c,x=.ref a/\mO H3 a y v c/\D.nx b c
theorem J1{X:Cx}(t:X.A.units+1<cLine)(n:PE X o td)(m:PE X i ty)(p:oU i):PE X (.Subscript o i pos) (yL td ty):=by
 intro d s f H Q I h;refine Kr F.slot_dict_getitem.lookup p (bw (n d s f H _ I h) λu j ⟨x,H1,w,k,z⟩=>bw (m d j f H1 _ w z) λE C c=>?_);obtain⟨y,H2,e,l,a,v,A,g,q⟩:=c;subst A;obtain rfl:u=Value.ref a:=k;exact⟨Uk e g,M8 t e g l λG J r b=>⟨v,H2,r,b,q⟩⟩
theorem Hz{X:Cx}(q:X.A.units+1<cLine)(k:PE X i ty)(l:PE X o td):PC X .In i o (O5 ty td):=by
 intro c s d H Q I h;refine bw (k c s d H _ I h) λA e ⟨y,H1,r,j,t⟩=>bw (l c e d H1 _ r t) λu z b=>?_
 obtain⟨x,H2,n,f,a,v,w,g,m⟩:=b;subst w;obtain rfl:u=Value.ref a:=f;exact sd q n g j λC p=>⟨.bl v.isSome,H2,p,rfl,m⟩
theorem Kc{X:Cx}{b:Pos}(A:X.A.units+1<cLine)(n:PE X o td)(m:PE X i ty)(P:PE X value tv)(q:swapsWith value (some (.Subscript o i pos')) b.line X.env=pure false):
  PS X (.Assign [.Subscript o i pos'] value b) (f6 td ty tv):=by
 intro d s c H D I h;refine wpAny_Assign_Subscript (bw (P d s c H _ I h) λr j ⟨v,H1,G,f,Q⟩=>bw (n d j c H1 _ G Q) λu p ⟨x,H2,w,k,t⟩=>bw (m d p c H2 _ w t) λU s3 e=>?_) q;obtain⟨y,H3,z,l,a,E,S,g,J⟩:=e;subst S;obtain rfl:u=Value.ref a:=k;exact M9 A z g l f λY C=>⟨c,E,C,J⟩
theorem K7(h:Heap)(a:sysModules<h.objs.size):ba P w H (h.push { cls:=.type "dict",data:=.dict #[] }) h.objs.size (.dK []):=
 ⟨gX _,pK.mpr (fX (dJ a)),[],.nil,Heap.DictOf.new h⟩
theorem Lf(h:Heap)(a:sysModules<h.objs.size):ba P w H (h.push { cls:=.type "dict",data:=.dict #[] }) h.objs.size (.dT []):=
 ⟨gX _,pK.mpr (fX (dJ a)),[],.nil,_,#[],0,fY _ rfl,⟨rfl,rfl,rfl⟩,rfl,rfl,mX⟩
def rO:TE:=λ_ H Q=>∀p,H p=none->Q (.ref p) (bf H p (.dK []))
def rN:TE:=λ_ H Q=>∀p,H p=none->Q (.ref p) (bf H p (.dT []))
theorem Me:PE X (.Dict [] [] pos) rO:=λb s c H Q I h=>
 wpAny_Dict_empty ⟨.ref s.heap.objs.size,_,I.laid (a:=s.heap.objs.size) (o:=.dK []) (t':=s.toks) (λ_ _ q=>dY _ q) (br _) (K7 s.heap I.big),rfl,h _ (I.hok.fresh (br _))⟩
theorem Mf:PE X (.Dict [] [] pos) rN:=λb s c H Q I h=>
 wpAny_Dict_empty ⟨.ref s.heap.objs.size,_,I.laid (a:=s.heap.objs.size) (o:=.dT []) (t':=s.toks) (λ_ _ q=>dY _ q) (br _) (Lf s.heap I.big),rfl,h _ (I.hok.fresh (br _))⟩
structure M1 (X:Cx) (o:Expr) (m:Str) (apos:Pos) (e:Expr) (cpos:Pos):Prop where
 base:attributeBase o m X.env (eval o X.env)=eval o X.env
 few:((backTo cpos (starEach [e] X.env)).all (λx=>!x.1)&&(backToKw cpos (keywordEach [] X.env)).all (λx=>x.1.isSome)
  && decide (([e]:List Expr).length+([]:List Keyword).length+(if([]:List Keyword).isEmpty then 0 else 1)<30))=true
 line:(apos.endLine==cpos.line)=true
 trees:backTo cpos (starEach [e] X.env)=[(false,eval e X.env)]
structure M2 (X:Cx) (o:Expr) (m:Str) (apos:Pos) (e f:Expr) (cpos:Pos):Prop where
 base:attributeBase o m X.env (eval o X.env)=eval o X.env
 few:((backTo cpos (starEach [e,f] X.env)).all (λx=>!x.1)&&(backToKw cpos (keywordEach [] X.env)).all (λx=>x.1.isSome)
  && decide (([e,f]:List Expr).length+([]:List Keyword).length+(if([]:List Keyword).isEmpty then 0 else 1)<30))=true
 line:(apos.endLine==cpos.line)=true
 trees:backTo cpos (starEach [e,f] X.env)=[(false,eval e X.env),(false,eval f X.env)]
def Dt(H:Hp) (a:Addr):Prop:=(∃b,Rd H a (.dK b))\/∃b,Rd H a (.dT b)
theorem v7(I:Inv X aU σ H s)(d:Dt H a):
  s.TypeIs (.ref a) "dict"/\(∀ b,Value.ref a=.ref b->∃ c,s.heap.get? b=some c/\c.dict=none)/\(a==sysModules)=false:=by
 rcases d with⟨g,e⟩|⟨g,e⟩
 ·obtain⟨_,h,k,_,f⟩:=jt I.hok e;refine⟨f.typeIs,λb q=>?_,h⟩;cases q;obtain⟨c,_,_,j,i,_⟩:=f;exact⟨c,j,i.2.1⟩
 ·obtain⟨_,h,l,_,f⟩:=kF I.hok e;refine⟨f.typeIs,λb q=>?_,h⟩;cases q;obtain⟨c,_,_,j,i,_⟩:=f;exact⟨c,j,i.2.1⟩
theorem Gw{A:Around}(w:A.units+1<cLine)(I:Inv X aU σ H s)(g:jg H a y o)(t:RelV y u)(p:RelV d r)(h:∀n q,Inv X aU σ H q->RelV (o.getD d) n->Q n q):
  wpAny (model X.prog X.w) A (call (.builtin "dict.get") [.ref a,u,r]) Q E s:=by
 rcases g with⟨i,k,e,m,l⟩|⟨i,k,b,e,m,v,l⟩
 ·subst m;obtain⟨z,j,C,c,f⟩:=jt I.hok e;refine ya OF f.typeIs F.entry_dict_get (F.args_dict_get_3 _ _ _) (meets_dict_get_default (aZ X.prog X.w) a (ju t) j r) ⟨_,f.mapOf,h _ _ (I.tok _) ?_⟩;rw[l];exact(c.val k).getD p
 ·subst m;cases(show u=Value.ref b from t);obtain⟨z,j,x,c,f⟩:=kF I.hok e;refine ya OF f.typeIs F.entry_dict_get (F.args_dict_get_3 _ _ _) (meetsH_dict_get_default (tupleKind (aZ X.prog X.w)) a b j r) ⟨yt w,k,x,sK I.hok v,f,h _ _ (I.tok _) ?_⟩;rw[l];exact(c.val k).getD p
def rP(c e d:TE):TE:=λb H Q=>c b H λx H1=>∃a,x=.ref a/\Dt H1 a/\e b H1 λy H2=>d b H2 λz H3=>∃o,jg H3 a y o/\Q (o.getD z) H3
theorem Md{X:Cx}(E:X.A.units + 1<cLine)(r:PE X o td)(U:PE X e ty)(t:PE X f tx)(m:M2 X o "get" apos e f cpos):PE X (.Call (.Attribute o "get" apos) [e,f] [] cpos) (rP td ty tx):=by
 intro b s c H Q I h;refine wpAny_Call_method m.base m.few m.line De OF F.type_dict_get (bw (r b s c H _ I h) λu n j=>?_);obtain⟨x,H1,k,p,a,ex,d,S⟩:=j;subst ex;obtain rfl:u=Value.ref a:=p;obtain⟨Y,J,_⟩:=v7 k d;refine⟨Y,J,?_⟩;rw[m.trees]
 refine OI rfl (OD (yv (bw (U b n c H1 _ k S) λiv v ⟨y,H2,A,q,w⟩=>
  yv (bw (t b v c H2 _ A w) λfv s3 ⟨z,H3,C,l,ov,g,P⟩=>CW ?_))))
 exact Gw E C g q l λw' s4 G i=>⟨_,H3,G,i,P⟩
end L2
namespace Att
open PySem.W Calls PyProof.Rows
theorem Vf:∀(ns:List Int) (c:List Value),WellAll P h c (ns.map WData.int)->IntsAre c ns:=by
 intro ns
 induction ns with
 |nil=>
  intro c w;rw[Cv] at w;cases w;exact .nil
 |cons n ns ih=>
  intro c w;rw[cr] at w;cases w with
  |cons a b=>
   cases a;exact .cons _ _ (ih _ b)
theorem NY{l:OpenLaw}(o:l.most=some n)
  (c:l.row.toRowW.claim.pre args=true)(i:WellAll P h vals args):
  ∃ a k b,vals=[Value.ref a]/\args=[WData.list (b.map WData.int)]/\h.get? a=some { cls:=.type "list",data:=.seq k.toArray }/\IntsAre k b/\b.length<=n:=by
 have j:WShape.hasAll [] args [.list .int]=true:=(pre_splitW c).1;have m:l.pre.holds [] {args:=args}=true:=(pre_splitW c).2;obtain⟨d,r,rfl,u,p⟩:=hasAllW_cons j;obtain rfl:=hasAllW_nil p;obtain⟨v,rfl,t⟩:=hasW_list u;obtain⟨b,rfl⟩:=items_int t;have e:b.length<=n:=by
  unfold OpenLaw.pre at m;have g:(WTm.not (.lt (.lit (.int (n:Int))) (.len (.arg 0)))).holds [] {args:=[.list (b.map .int)]}=true:=by
   have g:=(holds_andW m).1;rw[o] at g;exact g
  have f:=condW_of g (w_not (w_lt w_lit (w_len_list (w_arg rfl))));rw[bj] at f;refine fG λq=>?_
  have s:(n:Int)<((b.length:Nat):Int):=by lia
  first
   | (rw[cI s] at f;exact absurd f (by decide))
   | (simp at f;lia)
 cases i with
 |cons w1 w2=>
  cases w2;cases w1 with
  |list ho hall=>exact⟨_,_,b,rfl,rfl,ho,Vf b _ hall,e⟩
theorem NR(l:OpenLaw)(args:List WData):l.row.toRowW.claim.post args (.bool true) args=true:=
 postW_of (r:=l.row.toRowW) (X:=(true==true))
  (show WShape.has [] (.bool true) .bool=true by first|rfl|decide|simp[WShape.has,WShape.arms,WShape.armsAll])
  (show(WTm.eq .res (.lit (.bool true))).value [] {args:=args,res:=some (.bool true),after:=args}=some (.bool (true==true)) from w_eq_bool (w_res rfl) w_lit) rfl
theorem jd{l:OpenLaw}{d:DefRec}
  (P:l.most=some n)(z:d.params.defaults=[])
  (call:∀(w:World) (c b:Shared) (t y:Str->Option Value) (j:Addr) (o:Obj) (v u g:Value) (a:Addr) (h:List Value) (s:List Int),
   Ground q loose [] XP w c t y b.heap->YP w b.heap ->
   b.heap.get? j=some o->o.data=.func (docDef d.name d.params d.body d.scope v u g)->b.heap.CodeRec u d.name->t d.name=some (.ref j) ->
   b.heap.get? a=some { cls:=.type "list",data:=.seq h.toArray }->IntsAre h s->s.length<=n->b.gens=#[] ->
   codeAny (model l.prog w) callerA (.call (.ref j) ⟨[.ref a],[]⟩) (λr p=>r=.ok (.ret (.bool true))/\OldK b.heap p.heap/\p.os=b.os/\AllBare p.gens) b):
  WalkO q loose XP YP l.row.toRowW d [] (λf h=>PySem.call f h):=by
 intro w c b t y G Y j o v u g dV kV U hd A I x hg E H as k J a1 C a0;obtain rfl:dV=.none:=Dflts.none I z;obtain rfl:kV=.none:=Dflts.noKw I;obtain⟨a,h,s,rfl,rfl,i,e,m⟩:=NY P k C;refine enter_call (rf (call w c b t y j o v u g a h s G Y U (fd_plain hd) A x i e m hg) λr p Q=>?_);obtain⟨rfl,h2,X,h4⟩:=Q;exact⟨.inl ⟨.bool true,.bool true,[],rfl,λ_=>rfl,.bool true,NR l _,λ_=>⟨List.Pairwise.nil,λ_ S=>(nomatch S)⟩⟩,h2,X,h4⟩
end Att
namespace L2
open Spec PyProof.Rows
theorem Ry:∀{a:List Value}{b:List Int},IntsAre a b->am (b.map V.int) a
 |_,_,.nil=>.nil
 |_,_,.cons n t h=>.cons ⟨t,rfl⟩ (Ry h)
def sA(H:Hp):Prop:=∀b,H b=none\/∃o a,H b=some (.frz o (.lst a))
theorem LH{K:Fg}{s₁:Shared}{p:List Value}
  (KX:K.In s₁.heap)(Q:s₁.heap.Ns mainGlobals mg)(f:s₁.heap.Ns builtinsNs mb)(Y:∀ x:Str,x≠"__name__"->mb x=bootBuiltins x)(t:s₁.heap.NoLimit)(hg:s₁.gens=#[])
  (S:s₁.heap.get? a=some { cls:=.type "list",data:=.seq p.toArray })(hi:IntsAre p ns)(hl:ns.length<=sizeLine)(hr:cq k callerA)
  (F:∀base:Heap,K.In base->base.Ns mainGlobals mg->gM P w K mg base CX k fa fd [x] sp)(l:∀(s:Shared) (u:Value),BindsTo s fd ⟨[u],[]⟩ [(x,u)])
  (a0:∀H:Hp,sA H->dr K H a (ns.map V.int)->sp [.ref a] H (λv _=>v=.bl true) λ_ _ _=>False)
  (a1:∀H e g,CX [] H s₁ (λ_ _ _=>False) e g->False):
  codeAny (model P w) callerA (.call (.ref fa) ⟨[.ref a],[]⟩) (λr g=>r=.ok (.ret (.bool true))/\OldK s₁.heap g.heap/\g.os=s₁.os/\AllBare g.gens) s₁:=by
 have rv:=Ry hi;have y:=hi.length;have j:∀H:Hp,sA H->dr K H a (ns.map V.int)->fx P w H s₁.heap->(∀b,H b≠none->b=a)->(H a≠none->K.lookup a=none) ->
   codeAny (model P w) callerA (.call (.ref fa) ⟨[.ref a],[]⟩) (λr g=>r=.ok (.ret (.bool true))/\OldK s₁.heap g.heap/\g.os=s₁.os/\AllBare g.gens) s₁:=by
  intro H hO hS E hA hK;have c:∀{b:Addr}{o:Obj},s₁.heap.get? b=some o->H b=none->(iF s₁.heap H).get? b=some o:=λe n=>Lq e n
  have X:∀{b:Addr}{o:Obj}{J:Array DictEntry}{ep:Nat},s₁.heap.get? b=some o->o.data=.dict J ep->H b=none:=λ{b o J ep} e d=>by
   cases q:H b with
   |none=>rfl
   |some u=>
    have U:b=a:=hA b (by rw[q];simp);subst U;rw[S] at e;cases e
    have d':Data.seq p.toArray _=Data.dict J ep:=d;cases d'
  have i:∀{b:Addr}{m:Str->Option Value},s₁.heap.Ns b m->(iF s₁.heap H).Ns b m:=λ{b m} ⟨o,J,ep,e,d,r⟩=>⟨o,J,ep,c e (X e d),d,r⟩
  have G:K.In (iF s₁.heap H):=λb o e=>c (KX b o e) (by
   cases q:H b with
   |none=>rfl
   |some u=>
    have U:b=a:=hA b (by rw[q];simp);subst U
    rw[hK (by rw[q];simp)] at e;cases e)
  have hM:Mod K mg (iF s₁.heap H):=⟨G,i Q,⟨mb,i f,Y⟩,let ⟨mc,h1,h2⟩:=t;⟨mc,i h1,h2⟩⟩
  have e0:o0 P w K mg (iF s₁.heap H) callerA [] s₁ H:=⟨rfl,hM,λb o e=>JJ e,gQ (Nl _ _),trivial,λb f=>absurd (show b∈([]:List Addr) from f) (by simp),E,.of_eq hg⟩
  refine rf ((F _ G (i Q)).run callerA [] s₁ H ⟨[.ref a],[]⟩ [.ref a] [.ref a] _ _ hr e0 (l s₁ (.ref a)) (.cons rfl .nil) (a0 H hO hS)) λr g h=>?_
  cases r with
  |error e=>exact(a1 H e g h).elim
  |ok fl=>
   cases fl with
   |next=>exact False.elim h
   |brk=>exact False.elim h
   |cont=>exact False.elim h
   |ret u=>
    obtain⟨v,H',os,C,un,I,r',q⟩:=h;have q':v=.bl true:=q;subst q';obtain rfl:u=Value.bool true:=r';refine⟨rfl,OldK.of_keep λb o e=>?_,os,C⟩;cases q:H b with
    |none=>exact un.keep b o e q (by intro z;exact absurd (show b∈([]:List Addr) from z) (by simp)) (by simp)
    |some u=>
     rcases hO b with z|⟨ob,xs,z⟩
     ·rw[q] at z;cases z
     ·have z2:=un.frzs b ob _ z;obtain⟨e1,_⟩:=E b _ z;obtain⟨e2,_⟩:=I b _ z2;rw[e] at e1;cases e1
      exact e2
 cases hk:K.lookup a with
 |some o=>
  have e:=KX a o hk;rw[S] at e;cases e;refine j (λ_=>none) (λ_=>.inl rfl) (.inr ⟨_,p.toArray,_,hk,rfl,rfl,rfl,by rw[eE,y];exact hl,by simpa using rv⟩) (λb u z=>by have A:(none:Option HO)=some u:=z;cases A) (λb z=>absurd rfl z) λz=>absurd rfl z
 |none=>
  refine j (λb=>if b=a then some (.frz { cls:=.type "list",data:=.seq p.toArray } (.lst (ns.map V.int))) else none) (λb=>?_) (.inl (.inr ⟨{ cls:=.type "list",data:=.seq p.toArray },if_pos rfl⟩)) (λb u z=>?_) (λb z=>?_) λ_=>hk
  ·by_cases f:b=a
   ·exact .inr ⟨_,_,if_pos f⟩
   ·exact .inl (if_neg f)
  ·by_cases f:b=a
   ·have A:=(if_pos f).symm.trans z;cases A;subst f;exact⟨S,by rw[bj];exact hl,p,_,rv,S⟩
   ·have A:=(if_neg f).symm.trans z;cases A
  ·by_cases f:b=a
   ·exact f
   ·exact absurd (if_neg f) z
theorem Ky{l:W.OpenLaw}{n k:Nat}{q:Program}{c:List Str}{XP:(Str->Option Value)->Heap->Prop}{Q:World->Heap->Prop}{d:DefRec}{K:Params->Fg}{CX:World->uk}{sp:World->Sp}{x:Str}
  (S:l.most=some n)(E:n<=sizeLine)(C:d.params.defaults=[])(X:cq k callerA)
  (hY:∀(w:World) (h:Heap),Q w h->(K w.params).In h)
  (F:∀(w:World) (i:Str->Option Value) (r:Addr) (h:Heap),(K w.params).In h->h.Ns mainGlobals i->i d.name=some (.ref r) ->
   ∃y:FuncData,(∀(s:Shared) (u:Value),BindsTo s y ⟨[u],[]⟩ [(x,u)]) /\
    ∀base:Heap,(K w.params).In base->base.Ns mainGlobals i->gM l.prog w (K w.params) i base (CX w) k r y [x] (sp w))
  (A:∀(w:World) (H:Hp) (a:Addr) (p:List Int),p.length<=n->sA H->dr (K w.params) H a (p.map V.int)->sp w [.ref a] H (λv _=>v=.bl true) λ_ _ _=>False)
  (I:∀(w:World) (H:Hp) (s:Shared) (e:Value) (t:Shared),CX w [] H s (λ_ _ _=>False) e t->False):
  W.WalkO q c XP Q l.row.toRowW d [] (λf J=>PySem.call f J):=by
 refine Att.jd S C λw P m i mb r o pm cd a1 a J p G Y ho hd a0 z j g b hg=>?_
 have KX:=hY w _ Y;obtain⟨y,U,hF⟩:=F w i r _ KX G.T.g z;exact LH KX G.T.g G.T.b G.T.builtins G.T.nolimit hg j g (ay b E) X hF U (λH hO hS=>A w H a p b hO hS) λH e t=>I w H m e t
end L2
/- THE LAST THEOREM (shape;LID,My.* are yours):
 My.Adr: a structure of the addresses that your layer names (classes,functions);My.Txt K t: a structure (Prop) of the equations over K;
 My.txt_mk:{K} {implicit addresses ..} (e1:nsIn K mainGlobals "law"=some (some (.ref f))) (e2:K.lookup f=some ⟨oc,od,.func (fnOf "law" "law" params body scope dV kV doc pm an cdv ct),sl⟩) (e3:codeIn K cdv "law"=true) ..:∃ t,My.Txt K t
(the tactic k_is has no namespace: write k_is) -/
namespace L2
open Spec PyProof.Rows
noncomputable def cy(s:Stmt):Arguments:=match s with
 |.FunctionDef _ a _ _ _ _ _ _ _ _=>a
 |_=>{posonlyargs:=[],args:=[],vararg:=none,kwonlyargs:=[],kw_defaults:=[],kwarg:=none,defaults:=[]}
noncomputable def bo(s:Stmt):List Stmt:=match s with
 |.FunctionDef _ _ b _ _ _ _ _ _ _=>b
 |_=>[]
noncomputable def af(s:Stmt):Scope:=match s with
 |.FunctionDef _ _ _ _ _ _ sc _ _ _=>sc
 |_=>{kind:=.function,names:=[],isGenerator:=false,isCoroutine:=false}
abbrev jV:uk:=λ_ _ _ _ _ _=>False
abbrev E0:XK:=λ_ _ _=>False
theorem zD:jT jV X E0:=λ_ _ _ _ _ _ _ h=>h.elim
structure oY (K:Fg) (x qual:Str) (au:Stmt) (f:Addr) (fd:FuncData):Prop where
 ex:∃(oc:Value) (od:Option Addr) (kV doc pm:Value) (an:Option Addr) (cdv ct:Value) (osl:Array (Option Value)),
  fd=W.fnOf x qual (cy au) (bo au) (af au) .none kV doc pm an cdv ct/\K.lookup f=some ⟨oc,od,.func fd,osl⟩/\W.codeIn K cdv qual=true
 kp:W.keepIn K (.ref f)=true
theorem oY.ok{K:Fg}{N:List Str}(F:oY K x qual au f fd)(S:cm N ps (af au))(e:∀c H Q E,sp c H Q E->c.length=ps.length)
  (d:∀(b:Value) (A:Around) (a:List Env) (s:Shared) (H:Hp) (c:List V) (Q:VK) (E:XK),cq k (A.deeper (envOfC qual (af au) s.heap.objs.size f b))->sp c H Q E ->
   ∃t,jf (gm jV P w K mg base N qual (af au) f b A a s H E).nox (bo au) t/\t {nx:=λ_ n=>Q .non n,rt:=Q} (start N c) H):gM P w K mg base jV (k+1) f fd ps sp:=by
 obtain⟨u,p,kV,m,y,v,b,r,j,rfl,l,g⟩:=F.ex;refine FL l g S e λA a s H c Q E o i=>?_
 obtain⟨t,h,q⟩:=d b A a s H c Q E o i;exact⟨t,h.nox,q⟩
theorem oY.binds{K:Fg}{e:List Str}(F:oY K x qual au f fd)
  (h:∀(kV b i:Value) (g:Option Addr) (a d:Value) (c:List Value),c.length=e.length->bindArgs (W.fnOf x qual (cy au) (bo au) (af au) .none kV b i g a d) ⟨c,[]⟩=pure (e.zip c)):Binds K fd e []:=by
 obtain⟨n,l,kV,b,i,g,a,d,j,rfl,m,k⟩:=F.ex;exact .all (h kV b i g a d)
theorem GW{K:Fg}{kV:Value}(l:K.lookup f=some ⟨oc,od,.func (W.fnOf x qual (cy au) (bo au) (af au) .none kV doc pm an cdv ct),osl⟩)
 (c:W.codeIn K cdv qual=true)(k:W.keepIn K (.ref f)=true):oY K x qual au f (W.fnOf x qual (cy au) (bo au) (af au) .none kV doc pm an cdv ct):=⟨⟨oc,od,kV,doc,pm,an,cdv,ct,osl,rfl,l,c⟩,k⟩
theorem iY(a:cq k A):A.units+1<cLine:=jl (hD (by decide:1<=64) _) a.units
theorem pv{X:Cx}(i:Nat) (b:X.N[i]?=some x:=by rfl)(d:uj X.env.scope x:=by first|exact Or.inl rfl|exact Or.inr (Or.inl rfl)|exact Or.inr (Or.inr rfl))(c:(x==("__debug__" : Str))=false:=by decide)
 (a:(x==("__classdict__" : Str))=false:=by decide):PE X (.Name x pos) (oy i):=HI b d c a
theorem kZ{A B:Prop}(h:B):if false=true then A else B:=by
 rw[if_neg pJ];exact h
theorem kY{A B:Prop}(h:A):if true=true then A else B:=by
 rw[if_pos rfl];exact h
section
variable {κ:Type}[DecidableEq κ]
end
noncomputable abbrev sD:Value->Shared->Prop:=λ_ _=>False
noncomputable abbrev ox(cs:List Expr) (a:Env):Sem Bool:=
 forIn cs true λd b=>if b=true then do let z ←isTrue d a (eval d a);pure (ForInStep.yield z) else pure (ForInStep.yield b)
def mP(P:Program) (w:World) (B:Around) (c x:Expr) (cs:List Expr) (a:Env) (i l:Value) (K:Shared->Prop) (v:Value) (f:Shared):Prop:=
 wpAny (model P w) B (letOwnedTupleGo c i v) (λ_ sb=>wpAny (model P w) B (assign c a v) (λ_ g=>wpAny (model P w) B (ox cs a) (λd b=>
  if d=true then wpAny (model P w) B (eval x a) (λy h=>wpAny (model P w) B (call (.builtin "list.append") [l,y]) (λ_ e=>K e) sD h) sD b else K b) sD g) sD sb) sD f
theorem M5{cs:List Expr}(J:Nat->Shared->Prop)
  (r:∀k d,J k d->wpAny (model P w) B (pyNext i) (λo f=>match o with
   |none=>R (.ok .next) f
   |some v=>mP P w B tg x cs ev i l (λh=>∃j,j<k/\J j h) v f) sD d)
  (k:Nat)(q:J k sh):codeAny (model P w) B (.compLoop (.ListComp x [⟨tg,it,cs,0⟩] sc ps) 0 i l ev) R sh:=by
 have a:∀{E:Value->Shared->Prop}(e:Value) (z:Shared),sD e z->E e z:=λ_ _ z=>z.elim
 refine codeAny_loop rfl J (λk d t=>wpAny_noted (by
  rw[compTurn_list];refine ag (Cw (ag (ir (r k d t) (λo f c=>?_) a)))
  match o,c with
  |none,c=>exact aW c
  |some v,c=>
   refine ag (ir c (λ_ sb p=>ag (ir p (λ_ m u=>ag (ir u (λg A b=>?_) a)) a)) a)
   match g,b with
   |false,b=>exact aW (And.intro rfl b)
   |true,b=>exact ag (ag (ir b (λy C s=>ag (ir s (λ_ h n=>aW (aW (And.intro rfl n))) a)) a)))) k q
theorem UO{env:Env}:∀(b:List (Str×NameKind)) (acc:List (Str×Addr)),(∀y∈b,y.2=.free->∃c,env.cells.lookup y.1=some c)->(∀x c,acc.lookup x=some c->env.cells.lookup x=some c) ->
  ∃f:List (Str×Addr),(forIn b acc (λx r=>if(x.2==NameKind.free)=true then do let a ←cellOf env x.1;pure (ForInStep.yield ((x.1,a)::r)) else pure (ForInStep.yield r)):Sem (List (Str×Addr)))=pure f /\
   (∀x c,f.lookup x=some c->env.cells.lookup x=some c)/\(∀x c,acc.lookup x=some c->∃g,f.lookup x=some g)/\∀x,(x,NameKind.free)∈b->∃c,f.lookup x=some c:=by
 intro b
 induction b with
 |nil=>intro acc _ i;exact⟨acc,rfl,i,λx c e=>⟨c,e⟩,λx z=>(nomatch z)⟩
 |cons y r ih=>
  intro acc l i;obtain⟨n,k⟩:=y;by_cases hk:k=.free
  ·subst hk;obtain⟨c,p⟩:=l (n,.free) dB rfl
   obtain⟨f,e,o,h,m⟩:=ih ((n,c)::acc) (λy j=>l y (bU _ j)) (λx g e=>by
    rw[oe] at e;by_cases d:x=n
    ·subst d;rw[ry] at e;cases e;exact p
    ·rw[pK.mpr d] at e
     exact i x g e)
   refine⟨f,?_,o,λx g t=>?_,λx d=>?_⟩
   ·rw[List.forIn_cons];simp only[ry,ite_true];have q:cellOf env n=pure c:=by unfold cellOf;rw[p]
    rw[q];simp only[pure_bind];exact e
   ·by_cases d:x=n
    ·subst d;exact h x c (by rw[oe,ry])
    ·exact h x g (by rw[oe,pK.mpr d];exact t)
   ·rcases ca.mp d with z|z
    ·cases z;exact h n c (by rw[oe,ry])
    ·exact m x z
  ·obtain⟨f,e,o,h,m⟩:=ih acc (λy j=>l y (bU _ j)) i;refine⟨f,?_,o,h,λx d=>?_⟩
   ·rw[List.forIn_cons];have s:(k==NameKind.free)=false:=by simpa using hk
    simp only[s,jk,gP,pure_bind];exact e
   ·rcases ca.mp d with z|z
    ·cases z;exact absurd rfl hk
    ·exact m x z
theorem TM{scope:Scope}{env:Env}(h:∀y∈scope.names,y.2=.free->∃c,env.cells.lookup y.1=some c):
  ∃cl,closureFor scope env=pure cl/\(∀x c,cl.lookup x=some c->env.cells.lookup x=some c)/\∀x,(x,NameKind.free)∈scope.names->∃c,cl.lookup x=some c:=by
 obtain⟨cl,e,h1,_,h3⟩:=UO (env:=env) scope.names [] h (λx c e=>(nomatch e));refine⟨cl,?_,h1,h3⟩;unfold closureFor;have e':=congrArg (λm=>m >>= λr=>(pure r:Sem (List (Str×Addr)))) e;simp only[pure_bind] at e';exact e'
theorem Cp{a:Env}:∀{b:List (Str×NameKind)}{x:Str}{k:NameKind},(b.map λ(n,k)=>if(k==NameKind.free&&a.scope.kind==.function&&a.kindOf n==some .cell) then(n,NameKind.cell) else(n,k)).lookup x=some k ->
  b.lookup x=some k\/(k=.cell/\b.lookup x=some .free)
 |[],_,_,h=>by simp at h
 | (n,k')::r,x,k,h=>by
  have e:=@Cp a r x k;have c:List.lookup x ((if(k'==NameKind.free&&a.scope.kind==.function&&a.kindOf n==some .cell)=true then(n,NameKind.cell) else(n,k'))::_)=_:=h;cases hx:x==n with
  |true=>
   by_cases hc:(k'==NameKind.free&&a.scope.kind==.function&&a.kindOf n==some .cell)=true
   ·rw[if_pos hc] at c;simp only[oe,hx] at c ⊢;cases c;rw[j8,j8] at hc;exact .inr ⟨rfl,by rw[eq_of_beq hc.1.1]⟩
   ·rw[if_neg hc] at c;simp only[oe,hx] at c ⊢;exact .inl c
  |false=>
   have d:(r.map λ(n,k)=>if(k==NameKind.free&&a.scope.kind==.function&&a.kindOf n==some .cell) then(n,NameKind.cell) else(n,k)).lookup x=some k:=by
    by_cases hc:(k'==NameKind.free&&a.scope.kind==.function&&a.kindOf n==some .cell)=true
    ·rw[if_pos hc] at c;simp only[oe,hx] at c;exact c
    ·rw[if_neg hc] at c;simp only[oe,hx] at c;exact c
   simp only[oe,hx];exact e d
def eV(X:Cx) (N:List Str) (a:Scope) (b:List (Str×Addr)) (C:Addr) (c:List Addr) (s:Shared) (H:Hp):Cx:=
 {X with N:=N,s₀:=s,H₀:=H,env:=compEnvC a b C X.env,outer:=X.stack,ex:=c,fn:=λ_=>false,pn:=[],xe:=λ_ _=>False}
def fN(k:Nat) (is:List Nat) (a:St):St:=List.replicate k none++is.map λi=>(a[i]?).getD none
structure bG (X:Cx) (N:List Str) (k:Nat) (is:List Nat) (scope:Scope):Prop where
 kind:scope.kind=.function
 nocell:∀y∈scope.names,y.2≠.cell
 names:∀y∈scope.names,y.2=.local->scope.names.lookup y.1=some .local
 frees:∀y∈scope.names,y.2=.free->X.env.kindOf y.1=some .cell\/X.env.kindOf y.1=some .free
 len:N.length=k+is.length
 own:∀j i,is[j]?=some i->∃x,N[k+j]?=some x/\X.N[i]?=some x/\scope.names.lookup x=some .free
theorem B5{l:List (Str×NameKind)}(h:l.lookup x=some k):(x,k)∈l:=tY h
theorem Ly{N:List Str}{E:List (Str×Addr)}{C:Heap}(S:bG X N k is scope)(I:Inv X aU σ H s)
  (h:∀x c,E.lookup x=some c->X.env.cells.lookup x=some c)(c2:∀x,(x,NameKind.free)∈scope.names->∃c,E.lookup x=some c)
  (t:∀b∈G,gL X aU H b)(U:∀b∈G,∃o,s.heap.get? b=some o)(hn:C.Ns s.heap.objs.size (λ_=>none))(w:∀b o,s.heap.get? b=some o->C.get? b=some o):
  Inv (eV X N scope E s.heap.objs.size G s H) [] (fN k is σ) H {s with heap:=C,toks:=tk}:=by
 have hC:∀b o,s.heap.get? b=some o->b≠s.heap.objs.size:=λb o e=>dJ (cZ e)
 have a2:∀b∈G,b∉kn X.stack:=λb g z=>by
  rcases ca.mp (I.stkSub b z) with e|e
  ·exact(t b g).2.1 e
  ·exact(t b g).2.2.1 e
 refine⟨⟨I.ok.mod,S.kind,I.ok.glob,I.ok.blt,br _,λx y c P d=>I.ok.inj x y c (h x c P) (h y c d),λx hx=>?_,λx c z=>?_,I.ok.hd,I.ok.frames,.inl rfl,λb g=>⟨?_,λx c e=>?_⟩,I.bs,ay I.ok.bsz I.sz,λb o e g=>?_,a2,I.stack,I.stkFree⟩,
  rfl,I.bare,Un.kept w,⟨_,hn,λi x v P d e3=>?_⟩,λx c e=>?_,I.hok.fresh (br _),λx c e=>I.freeC x c (h x c e),λp hp=>(nomatch hp),I.hok.kept w,?_,I.hnd⟩
 ·have a1:(scope.names.map λ(n,k)=>if(k==NameKind.free&&X.env.scope.kind==.function&&X.env.kindOf n==some .cell) then(n,NameKind.cell) else(n,k)).lookup x=some .cell\/(scope.names.map λ(n,k)=>if(k==NameKind.free&&X.env.scope.kind==.function&&X.env.kindOf n==some .cell) then(n,NameKind.cell) else(n,k)).lookup x=some .free:=hx;have q:scope.names.lookup x=some .free:=by
   rcases a1 with z|z
   ·rcases Cp z with q|⟨_,q⟩
    ·exact absurd rfl (S.nocell _ (B5 q))
    ·exact q
   ·rcases Cp z with q|⟨q,_⟩
    ·exact q
    ·cases q
  exact c2 x (B5 q)
 ·cases z
 ·obtain⟨o,e⟩:=U b g;exact hC b o e
 ·exact(t b g).2.2.2.2.1 x c (h x c e)
 ·rcases(t b g).2.2.2.1 with z|z
  ·exact I.ok.noex b o e z
  ·exact absurd (da (cZ (I.ok.bs b o e).1) z) (n6 _)
 ·-- a name of the def around
  unfold fN at d;have hi:k<=i:=by
   rcases pB i k with z|z
   ·rw[gv (by rw[rH];exact z),List.getElem?_replicate,if_pos z] at d;cases d
   ·exact z
  rw[kQ (by rw[rH];exact hi),rH,fM] at d;cases ej:is[i-k]? with
  |none=>rw[ej] at d;cases d
  |some j=>
   rw[ej] at d;have f:(σ[j]?).getD none=some v:=g8 d;obtain⟨y,y1,y2,A⟩:=S.own (i-k) j ej;have ey:y=x:=by
    have z:N[i]?=some y:=by rw[←y1];congr 1;lia
    have l:N[i]?=some x:=P;rw[z] at l;exact g8 l
   subst ey;have e4:σ[j]?=some (some v):=by
    cases q:σ[j]? with
    |none=>rw[q] at f;cases f
    |some o=>rw[q] at f;exact congrArg some f
   have kd:=S.frees _ (B5 A) rfl;have a0:uj X.env.scope y:=.inr kd;obtain⟨m,_,hl⟩:=I.loc;obtain⟨u,r,lk⟩:=hl j y v y2 e4 a0;refine⟨u,r,?_⟩;rcases lk with⟨z,_⟩|⟨_,c,e5,cc⟩
   ·rcases kd with q|q<;>(rw[q] at z;cases z)
   ·obtain⟨Y,e6⟩:=c2 y (B5 A);have:Y=c:=by
     have z:=h y Y e6;rw[e5] at z;exact(g8 z).symm
    subst this;refine .inr ⟨?_,Y,e6,?_⟩
    ·rcases e3 with z|z|z
     ·exact absurd (Cp z) (by
       rw[A];rintro(q|⟨q,_⟩)
       ·cases q
       ·cases q)
     ·exact .inl z
     ·exact .inr z
    ·obtain⟨o,J,Q⟩:=cc;exact⟨o,w _ o J,Q⟩
 ·obtain⟨v,o,J,Q⟩:=I.cell x c (h x c e);exact⟨v,o,w _ o J,Q⟩
 ·unfold fN;rw[cQ,rH,bj];exact S.len.symm
theorem Lx{N:List Str}(I:Inv X aU σ H s)(d:∀b∈j,gL X aU H b)(J:Inv (eV X N scope cl s.heap.objs.size j s H) [] σ' H' s')
  (f:Heap.SameBut s.heap.objs.size s'.heap h'):Inv X aU σ H' {s' with heap:=h'}:=by
 have i:∀b o,s.heap.get? b=some o->b≠s.heap.objs.size:=λb o e=>dJ (cZ e)
 have l:H' s.heap.objs.size=none:=J.free;have B:Un (kn X.stack) j H H' s.heap s'.heap:=J.base
 have U:Un (kn X.stack) j H H' s.heap h':=⟨λb o e n g h=>f.extBut b o (i b o e) (B.keep b o e n g h),λb o e n g h=>by
   obtain⟨m,q⟩:=B.slot b o e n g h;exact⟨m,f.extBut b _ (i b o e) q⟩,B.free,λb o e p=>by
   obtain⟨k,q⟩:=B.there b o e p
   exact⟨k,f.extBut b k (i b o e) q⟩,B.tups,B.frzs,B.tbls⟩
 refine I.call' (s':={s' with heap:=h'}) J.os U (λa o e=>?_) J.bare (λb c=>⟨(d b c).2.2.2.1,(d b c).2.1,(d b c).2.2.2.2.1,(d b c).2.2.2.2.2⟩);refine(J.hok a o e).stay (λb u c q=>f.extBut b u ?_ q) (λ_ q=>q) λ_ _ q=>q
 rcases c with z|z
 ·intro y;rw[z] at y;rw[y,l] at e;cases e
 ·intro y;rw[y,l] at z;cases z
structure sB (X:Cx) (aU:List (Addr×Obj)) (H:Hp) (C:Addr):Prop where
 free:H C=none
 loc:C≠X.env.locals
 young:X.s₀.heap.objs.size<=C
 cell:∀x c,X.env.cells.lookup x=some c->c≠C
 pin:∀p∈X.pn++aU,p.1≠C
theorem sB.back(o:sB X aU H C)(I:Inv X aU σ H s)(c:Heap.SameBut C s.heap h'):Inv X aU σ H {s with heap:=h'}:=
 I.turned (t':=s.toks) (λb u a e=>c.extBut b u a e) o.free o.loc (.inr o.young) o.cell o.pin
def SU(p:Addr) (f:TE) (g:TT) (N:St->Hp->Prop):St->Hp->Prop:=λa H3=>g a H3 λb e=>
 if b=true then f a e λy d=>∃c,d p=some (.lst c)/\c.length<sizeLine/\N a (bf d p (.lst (c++[y]))) else N a e
def AJ(J:It) (g:TG) (f:TT) (e:TE) (Q:VK) (p:Addr) (h:St) (H:Hp):Prop:=∃W:Nat->Nat->St->Hp->Prop,(∃m,W 0 m h H) /\
 ∀i m c a,W i m c a->(J.stop i a/\Q (.ref p) a)\/(J.go i a/\∃N:St->Hp->Prop,(∀b H2,N b H2->∃d,d<m/\W (i+1) d b H2)/\∀x H2,J.yld i a x H2->g x c H2 (SU p e f N))
def kb(d:TI) (k:Nat) (is:List Nat) (g:TG) (c:TT) (b:TE):TE:=λa H Q=>d a H λJ H1=>∀p,H1 p=none->AJ J g c b Q p (fN k is a) (bf H1 p (.lst []))
def OW:TT:=λ_ H Q=>Q true H
def nt(X:Cx) (a:List Expr) (t:TT):Prop:=
 ∀(d:List (Addr×Obj)) (s:Shared) (b:St) (H:Hp) (Q:Bool->Hp->Prop),Inv X d b H s->t b H Q ->
  wpAny (model X.prog X.w) X.A (forIn a true λc r=>if r=true then do let ok ←isTrue c X.env (eval c X.env);pure (ForInStep.yield ok) else pure (ForInStep.yield r)) (TP X d b Q) X.xe s
theorem J7:nt X [] OW:=λa s b H Q I h=>wpAny_tests_nil ⟨H,I,h⟩
theorem J8(h:PT X c t):nt X [c] t:=λa s d H Q I b=>wpAny_tests_one (h a s d H Q I b)
section
variable {X:Cx}{tg:Expr}{iter:Expr}{elt:Expr}{ifs:List Expr}{g:TG}{tc:TT}{te:TE}{N:List Str}{k:Nat}{is:List Nat}{scope:Scope}{pos:Pos}
theorem RF(z:X.calm=true)(hg:∀l C j s H,PG (eV X N scope l C j s H) tg g)(hc:∀l C j s H,nt (eV X N scope l C j s H) ifs tc)(he:∀l C j s H,PE (eV X N scope l C j s H) elt te)
  (S:bG X N k is scope){aU:List (Addr×Obj)}{σ:St}{H2:Hp}{s2:Shared}{l:List (Str×Addr)}{it:Addr}{j:List Addr}{tn:Nat->Heap->Prop}{J:It}{Q:VK}{E:Value->Shared->Prop}{RR:Value->Addr->Result->Shared->Prop}
  (I2:Inv X aU σ H2 s2)(T:jR X.prog X.w X.K tg J j it tn)(b2:tn 0 s2.heap)(f2:∀b∈j,gL X aU H2 b)
  (c1:∀x c,l.lookup x=some c->X.env.cells.lookup x=some c)(c2:∀x,(x,NameKind.free)∈scope.names->∃c,l.lookup x=some c)
  (h:∀p,H2 p=none->∃W:Nat->Nat->St->Hp->Prop,(∃m,W 0 m (fN k is σ) (bf H2 p (.lst []))) /\
   ∀i m a H',W i m a H'->(J.stop i H'/\Q (.ref p) H')\/(J.go i H'/\∃N:St->Hp->Prop,(∀b1 H2,N b1 H2->∃I,I<m/\W (i+1) I b1 H2)/\∀x H2,J.yld i H' x H2->g x a H2 (SU p te tc N)))
  (hR:∀(p C:Addr) (w:Shared) (H':Hp) (m:Str->Option Value),sB X aU H' C->w.heap.Ns C m->Inv X aU σ H' w->Q (.ref p) H'->RR (.ref p) C (.ok .next) w):
  wpAny (model X.prog X.w) X.A (newList []) (λacc a4=>wpAny (model X.prog X.w) X.A (newFunctionEnv scope X.env.globals l [] X.env.qual none .none (some X.env)) (λa0 b3=>
   codeAny (model X.prog X.w) X.A (.compStart (.ListComp elt [⟨tg,iter,ifs,0⟩] scope pos) 0 (.ref it) acc {a0 with scope:=relabel scope X.env}) (RR acc a0.locals) b3) E a4) E s2:=by
 refine mi ?_;have fresh:H2 s2.heap.objs.size=none:=I2.fresh;have I3:Inv X aU σ (bf H2 s2.heap.objs.size (.lst [])) { s2 with heap:=s2.heap.push { cls:=.type "list",dict:=none,data:=.seq ([]:List Value).toArray } }:=I2.lnew (t':=s2.toks) (.nil) (by decide)
 generalize hs3:({ s2 with heap:=s2.heap.push { cls:=.type "list",dict:=none,data:=.seq ([]:List Value).toArray } }:Shared)=s3 at I3
 have k3:∀b o,s2.heap.get? b=some o->s3.heap.get? b=some o:=λb o e=>by rw[←hs3];exact dY _ e
 refine wpAny_newFunctionEnv S.nocell (by intro y hy;simp at hy) (λh₁ G U=>?_) S.kind;have a3:tn 0 s3.heap:=T.keep _ _ _ b2 λb _ o e=>k3 b o e
 have f3:∀b∈j,gL X aU (bf H2 s2.heap.objs.size (.lst [])) b:=λb t=>by
  obtain⟨o,e,_⟩:=T.obj _ _ b2 b t;exact⟨by rw[zx (dJ (cZ e))];exact(f2 b t).1,(f2 b t).2⟩
 have k4:∀b o,s3.heap.get? b=some o->h₁.get? b=some o:=λb o e=>U.extBut b o (dJ (cZ e)) (dY _ e)
 have J4:=Ly (tk:=s3.toks+([]:List (Str×Value)).length) S I3 c1 c2 f3 (λb t=>let ⟨o,e,_⟩:=T.obj _ _ a3 b t;⟨o,e⟩) G k4;obtain⟨W,⟨m0,w0⟩,a5⟩:=h s2.heap.objs.size fresh;have a7:tn 0 h₁:=T.keep _ _ _ a3 λb _ o e=>k4 b o e
 have Y:codeAny (model X.prog X.w) X.A (.compLoop (.ListComp elt [⟨tg,iter,ifs,0⟩] scope pos) 0 (.ref it) (.ref s2.heap.objs.size) (compEnvC scope l s3.heap.objs.size X.env)) (RR (.ref s2.heap.objs.size) s3.heap.objs.size) {s3 with heap:=h₁,toks:=s3.toks+([]:List (Str×Value)).length}:=by
  have A:∀{H':Hp},(∀b∈j,H' b=none)->∀b∈j,gL (eV X N scope l s3.heap.objs.size j s3 (bf H2 s2.heap.objs.size (.lst []))) [] H' b:=λ{H'} hn b t=>by
   obtain⟨o,e,_⟩:=T.obj _ _ a3 b t;refine⟨hn b t,dJ (cZ e),J4.ok.exfs b t,.inl t,λx c e'=>(f3 b t).2.2.2.2.1 x c (c1 x c e'),λp hp=>(nomatch hp)⟩
  refine M5 (λn w=>∃i a H',Inv (eV X N scope l s3.heap.objs.size j s3 (bf H2 s2.heap.objs.size (.lst []))) [] a H' w/\tn i w.heap/\(∀b∈j,H' b=none)/\W i n a H') ?_ m0
   ⟨0,_,_,J4,a7,λb t=>(f3 b t).1,w0⟩
  rintro n s5 ⟨i,P,H5,I5,a6,a8,w5⟩;rcases a5 i n P H5 w5 with⟨a9,q⟩|⟨go,N',b4,step⟩
  ·refine bw (T.done (eV X N scope l s3.heap.objs.size j s3 (bf H2 s2.heap.objs.size (.lst []))) rfl rfl rfl z i [] s5 P H5 _ I5 (A a8) a6 a9) λr s6 f=>?_
   obtain⟨hr,I6⟩:=f;subst hr;obtain⟨m,hm,_⟩:=I6.loc;refine hR _ _ s6 H5 m ⟨I6.free,tN I3.lt,I3.sz,λx c e=>?_,λp hp=>dJ (cZ (I3.pin p hp).1)⟩ hm (Lx (h':=s6.heap) I3 f3 I6 (.refl ..)) q;obtain⟨v,o,ho,_⟩:=I3.cell x c e;exact dJ (cZ ho)
  ·refine bw (T.item (eV X N scope l s3.heap.objs.size j s3 (bf H2 s2.heap.objs.size (.lst []))) rfl rfl rfl z i [] s5 P H5 _ I5 (A a8) a6 go) λr s6 f=>?_
   obtain⟨u,hr,h6⟩:=f;subst hr;refine bw h6 λ_ s7 f=>?_
   obtain⟨x,H7,I7,r7,y7,a1,b6⟩:=f;have b5:=I7.pinned (A b6) (T.obj _ _ a1);refine bw (hg l s3.heap.objs.size j s3 _ _ s7 P H7 x u _ b5 r7 (step x H7 y7)) λ_ s8 f=>?_
   obtain⟨a2,H8,I8,q8⟩:=f;refine bw (hc l s3.heap.objs.size j s3 _ _ s8 a2 H8 _ I8 q8) λb s9 f=>?_
   obtain⟨H9,I9,q9⟩:=f;have again:∀{a:St}{H':Hp}{w:Shared}{I:Nat},Inv (eV X N scope l s3.heap.objs.size j s3 (bf H2 s2.heap.objs.size (.lst []))) ([]++gz j s7.heap) a H' w->I<n->W (i+1) I a H' ->
     ∃m,m<n/\∃i a H',Inv (eV X N scope l s3.heap.objs.size j s3 (bf H2 s2.heap.objs.size (.lst []))) [] a H' w/\tn i w.heap/\(∀b∈j,H' b=none)/\W i m a H':=λ{a H' w I} I' hm w'=>by
    refine⟨I,hm,i+1,a,H',I'.unpinned,T.keep _ _ _ a1 λb t o e=>(I'.pin (b,o) (lK _ (lK _ (B6 t e)))).1,λb t=>?_,w'⟩;obtain⟨o,e,d⟩:=T.obj _ _ a1 b t;exact(I'.pin (b,o) (lK _ (lK _ (B6 t e)))).2.1
   cases b with
   |false=>
    obtain⟨I,hm,w'⟩:=b4 _ _ q9;exact again I9 hm w'
   |true=>
    refine bw (he l s3.heap.objs.size j s3 _ _ s9 a2 H9 _ I9 q9) λv b9 f=>?_
    obtain⟨y,b0,c4,b8,xs,c6,hz,c0⟩:=f;obtain⟨I,hm,w'⟩:=b4 _ _ c0;refine bw (Rc (X:=eV X N scope l s3.heap.objs.size j s3 (bf H2 s2.heap.objs.size (.lst []))) _ b9 a2 b0 (.ref s2.heap.objs.size) [y] _ [v] (λ_ H'=>H'=bf b0 s2.heap.objs.size (.lst (xs++[y]))) c4 rfl (.cons b8 .nil) ⟨_,xs,y,rfl,rfl,c6,hz,rfl⟩) λ_ c8 f=>?_
    obtain⟨_,c9,c3,_,c5⟩:=f;subst c5;exact again c3 hm w'
 have c7:s2.heap.push { cls:=.type "list",dict:=none,data:=.seq ([]:List Value).toArray }=s3.heap:=by rw[←hs3]
 have b7:=codeAny_compStart_list (elt:=elt) (target:=tg) (iter:=iter) (ifs:=ifs) (rest:=[]) (scope:=scope) (pos:=pos) Y (T.self X.A 0 _ _ _ a7 Y);exact b7
end
theorem Sk{N:List Str}(S:bG X N k is scope) (I:Inv X aU σ H s):
  ∃cl,closureFor scope X.env=pure cl/\(∀x c,cl.lookup x=some c->X.env.cells.lookup x=some c)/\∀x,(x,NameKind.free)∈scope.names->∃c,cl.lookup x=some c:=
 TM λy hy hf=>I.ok.has y.1 (S.frees y hy hf)
theorem J0{X:Cx}{N:List Str}(a:X.calm=true)(t:PI X tg iter wi)(E:∀b C c s H,PG (eV X N scope b C c s H) tg g)(G:∀b C c s H,nt (eV X N scope b C c s H) ifs tc)(he:∀b C c s H,PE (eV X N scope b C c s H) elt te)
  (S:bG X N k is scope)(w:∀x,foldedSetIterable iter X.env x=pure x:=by intro _;rfl):PE X (.ListComp elt [⟨tg,iter,ifs,0⟩] scope pos) (kb wi k is g tc te):=by
 intro j s l H Q I h;obtain⟨b,e,U,A⟩:=Sk S I;rw[eval_ListComp];refine wpAny_comprehension_free (use:=none) rfl w e S.kind S.names (bw (t j s l H _ I h) λxv s1 v=>bw v λY s2 h2=>?_);obtain⟨it,c,tn,J,H2,n,y,T,f,r,z⟩:=h2;subst n;refine RF (Q:=Q) (RR:=λacc C=>compPost (model X.prog X.w) X.A X.xe none (EP X j l Q) acc C) a E G he S y T f r U A z ?_;intro p C s' o m d u P q;exact⟨m,u,λh' i=>⟨.ref p,o,d.back P i,rfl,q⟩⟩
theorem Ke{X:Cx}{N:List Str}(d:X.calm=true)(hN:X.N.Nodup)(y:X.N[i]?=some x)(hx:Loc X.env.scope x)(hi:PI X tg iter wi)(hg:∀f C j s H,PG (eV X N scope f C j s H) tg g)(hc:∀f C j s H,nt (eV X N scope f C j s H) ifs tc)
  (he:∀f C j s H,PE (eV X N scope f C j s H) elt te)(S:bG X N k is scope){b:Pos}(E:swapsWith (.ListComp elt [⟨tg,iter,ifs,0⟩] scope pos) (some (.Name x pos')) b.line X.env=pure true:=by rfl)
  (hf:X.fn x=true\/X.env.scope.names.lookup x=some .local:=by first|exact .inl rfl|exact .inr rfl|assumption)
  (P:∀x,foldedSetIterable iter X.env x=pure x:=by intro _;rfl):PS X (.Assign [.Name x pos'] (.ListComp elt [⟨tg,iter,ifs,0⟩] scope pos) b) (oA (kb wi k is g tc te) (i9 i)):=by
 intro n s U H D I h;obtain⟨f,e,c1,c2⟩:=Sk S I;rw[exec_Assign_Name_used (hs:=E)];refine ag (Cw (ag (?_:wpAny _ X.A _ _ _ s)));show wpAny _ X.A (do let _ ←comprehension (.ListComp elt [⟨tg,iter,ifs,0⟩] scope pos) scope X.env _ (newList []) false (eval iter X.env) (some (assign (.Name x pos') X.env))) _ _ s
 refine ag (ir (wpAny_comprehension_free (use:=some (assign (.Name x pos') X.env)) (Q:=λ_ l=>SP X n D .next l) rfl P e S.kind S.names
  (bw (hi n s U H _ I h) λxv s1 h1=>bw h1 λa0 s2 h2=>?_)) (λ_ l hq=>aW (aW hq)) λ_ _ e=>e)
 obtain⟨it,j,tn,J,H2,Y,I2,T,r,f2,h3⟩:=h2;subst Y;refine RF (Q:=λv o=>i9 i v U o D.nx) (RR:=λacc C=>compPost (model X.prog X.w) X.A X.xe (some (assign (.Name x pos') X.env)) (λ_ l=>SP X n D .next l) acc C) d hg hc he S I2 T r f2 c1 c2 h3 ?_;intro p C l o m c hm I' q;show wpAny _ X.A (assign (.Name x pos') X.env (.ref p)) _ _ _;refine wpAny_assign_Name (Ru (v:=.ref p) I' hN y hx rfl (λa1 w G=>?_) hf);obtain⟨a,u,ha⟩:=G;have A:C≠a:=by
  rcases ha with z|z
  ·rw[z];exact c.loc
  ·exact(c.cell x a z).symm
 exact⟨m,hm.sameBut u A,λh' t=>⟨_,o,c.back w t,q⟩⟩
def Callee(P:Program) (w:World) (K:Fg) (c:Str->Option Value) (base:Heap) (x:Str) (k:Nat) (b:List Str) (d:Sp):Prop:=
 ∃f a,gM P w K c base jV k f a b d/\Binds K a b []/\W.keepIn K (.ref f)=true/\c x=some (.ref f)
theorem Mc{X:Cx}(c:Callee X.prog X.w X.K X.mg X.base x k ps sp)(j:cq k X.A)(i:Gl X x)(g:PA X (e::es) t)(a:(x==("__debug__" : Str))=false:=by decide)
  (l:starEach (e::es) X.env=(false,eval e X.env)::starEach es X.env:=by rfl)(d:(backTo pos (starEach es X.env)).any (·.1)=false:=by rfl):
  PE X (.Call (.Name x p) (e::es) [] pos) (mx sp [] E0 t):=by
 obtain⟨f,n,F,b,h,m⟩:=c;exact JY F j i m h b .nil zD g a l d
noncomputable def ai(K:Fg) (x:Str) (b:Stmt):Prop:=
 ∃f a,W.nsIn K mainGlobals x=some (some (.ref f))/\oY K x x b f a
theorem VZ{K:Fg}{x:Str}{au:Stmt}{f:Addr}{d i:Option Addr}{h:Array (Option Value)}{g kV j m b e:Value}
  (a:W.nsIn K mainGlobals x=some (some (.ref f)))(l:K.lookup f=some ⟨g,d,.func (W.fnOf x x (cy au) (bo au) (af au) .none kV j m i b e),h⟩)(c:W.codeIn K b x=true)(k:W.keepIn K (.ref f)=true):ai K x au:=
 ⟨f,_,a,GW l c k⟩
theorem QX{P:Program}{w:World}{K:Fg}{m:Str->Option Value}{base h:Heap}{x:Str}{c:Stmt}{N i:List Str}{k:Nat}{sp:Sp}(T:ai K x c)(X:K.In h)(G:h.Ns mainGlobals m)(S:cm N i (af c))
  (r:∀(kV n v:Value) (u:Option Addr) (b p:Value) (j:List Value),j.length=i.length->bindArgs (W.fnOf x x (cy c) (bo c) (af c) .none kV n v u b p) ⟨j,[]⟩=pure (i.zip j))
  (l:∀g H Q E,sp g H Q E->g.length=i.length)
  (e:∀(f:Addr) (b:Value) (A:Around) (d:List Env) (s:Shared) (H:Hp) (g:List V) (Q:VK) (E:XK),cq k (A.deeper (envOfC x (af c) s.heap.objs.size f b))->sp g H Q E ->
   ∃t,jf (gm jV P w K m base N x (af c) f b A d s H E).nox (bo c) t/\t {nx:=λ_ q=>Q .non q,rt:=Q} (start N g) H):Callee P w K m base x (k+1) i sp:=by
 obtain⟨f,o,a,F⟩:=T;exact⟨f,o,F.ok S l (e f),F.binds r,F.kp,yg X G a⟩
theorem EY:bN X (.builtin "isinstance") (λd H Q=>∃ x T t b,d=[x,.ty T]/\fo X.K H x t/\W.kitOne X.K t (.type T)=some b/\Q (.bl b) H):=by
 intro k s l H d j Q I r h;obtain⟨x,T,t,b,rfl,c,e,q⟩:=h;obtain⟨u,g,rfl,i,a⟩:=vals2 r;cases(show g=Value.type T from a);exact No I i c e λf=>⟨.bl b,H,I.tok f,rfl,q⟩
noncomputable def er(i j:Int):Prop:=0<j/\j<2^1000
theorem uU:dv X (binaryOp .FloorDiv) (rI er λi j=>.int (i/j)):=Dl λi j _ _ _ _ _ a q=>by
 have e:i.fdiv j=i/j:=Int.fdiv_eq_ediv_of_nonneg i (by have:=a.1;lia);refine floordiv_int (by have:=a.1;lia) (by rw[e];exact q) (.inl (PyProof.noPylong_of_log2 ?_));have g:j.natAbs<2^1000:=by
  have h:=a.1;have f:=a.2;have c:(j.natAbs:Int)=j:=by lia
  have b:(j.natAbs:Int)<((2^1000:Nat):Int):=by
   rw[c];exact_mod_cast f
  exact_mod_cast b
 have d:j.natAbs≠0:=by have:=a.1;lia
 have:=(Nat.log2_lt d).mpr g;lia
noncomputable def jb(a:List Str) (xs:List (Str×NameKind)) (N:List Str) (k:Nat) (is:List Nat) (scope:Scope):Bool:=
 (scope.kind==.function)&&scope.names.all (λy=>y.2 != .cell)&&scope.names.all (λy=>y.2 != .local||scope.names.lookup y.1==some .local) &&
 scope.names.all (λy=>y.2 != .free||(xs.lookup y.1==some .cell||xs.lookup y.1==some .free))&&(N.length==k+is.length) &&
 (List.range is.length).all (λj=>match is[j]?,N[k+j]? with
  |some i,some x=>a[i]?==some x&&scope.names.lookup x==some .free
  |_,_=>false)
theorem lW{X:Cx}{N:List Str}(h:jb X.N X.env.scope.names N k is scope=true):bG X N k is scope:=by
 unfold jb at h;simp only[j8,dW] at h;obtain⟨⟨⟨⟨⟨m,f⟩,l⟩,d⟩,c⟩,g⟩:=h;refine⟨eq_of_beq m,λy a e=>?_,λy a e=>?_,λy a e=>?_,eq_of_beq c,λj i e=>?_⟩
 ·have:=f y a;rw[e] at this;simp at this
 ·have:=l y a;rw[e] at this;simp at this;exact this
 ·have:=d y a;rw[e] at this;simp at this;exact this
 ·have b:j<is.length:=(db.mp e).1;have:=g j (bR.mpr b);rw[e] at this;cases e2:N[k+j]? with
  |none=>rw[e2] at this;cases this
  |some x=>
   rw[e2] at this;simp only[j8,md] at this;exact⟨x,rfl,this.1,this.2⟩
theorem ll:bootBuiltins "len"=some (.builtin "len"):=by decide +kernel
theorem Gi:bootBuiltins "abs"=some (.builtin "abs"):=by decide +kernel
theorem um:bootBuiltins "min"=some (.builtin "min"):=by decide +kernel
theorem vM:bootBuiltins "max"=some (.builtin "max"):=by decide +kernel
theorem nV:bootBuiltins "sum"=some (.builtin "sum"):=by decide +kernel
theorem ph:bootBuiltins "sorted"=some (.builtin "sorted"):=by decide +kernel
theorem vL:bootBuiltins "all"=some (.builtin "all"):=by decide +kernel
theorem Fb:bootBuiltins "isinstance"=some (.builtin "isinstance"):=by decide +kernel
theorem Gj:bootBuiltins "int"=some (.type "int"):=by decide +kernel
theorem Iu:bootBuiltins "bool"=some (.type "bool"):=by decide +kernel
theorem nF:bootBuiltins "tuple"=some (.type "tuple"):=by decide +kernel
theorem wS:bootBuiltins "list"=some (.type "list"):=by decide +kernel
theorem Gk:bootBuiltins "set"=some (.type "set"):=by decide +kernel
theorem MQ(h:H p=some o):bf H p o=H:=by
 funext b
 unfold bf;split
 ·subst b;exact h.symm
 ·rfl
end L2
namespace Srt
open PySem.W PyProof.Rows
section
variable (r:Nat->Nat)
noncomputable def lt(i j:Nat):Bool:=decide (r i<r j)
noncomputable def At(p:Array Nat) (i:Nat):Nat:=r (p.getD i 0)
def Up(p:Array Nat) (n:Nat):Prop:=∀i j,i<=j->j<n->At r p i<=At r p j
end
noncomputable def eI(h:Heap) (d:Addr) (a:List Value):Heap:=((h.update d (Obj.mapSeq λ_=>(#[]:Array Value))).push (seqObj "tuple" a.toArray 0)).push (seqObj "list" #[] 0)
theorem Sc{h:Heap}(a:b≠d)(e:h.get? b=some ob):(eI h d xs).get? b=some ob:=
 dY _ (dY _ ((Heap.get?_update_ne _ _ _ _ a).trans e))
def Answers(P:Program) (w:World) (B:Around) (r:Nat->Nat) (b:List Value) (a:Shared):Prop:=
 ∃c,(∀R:SortKind->Shared->Prop,R c a->wpAny (model P w) B (keyKind' b.toArray) R (λ_ _=>False) a) /\
  ∀i j C,i<b.length->j<b.length->C (lt r i j) a->kas_ask P w B c b i j C a
noncomputable def cT(a:List Value) (p:Array Nat):Array Value:=List.toArray (p.toList.map λi=>a.getD i Value.none)
theorem Ta{a:List Value}(h:a.length<2):(a.toArray.zip a.toArray).map (·.2)=cT a (List.toArray (List.range a.length)):=by
 unfold cT
 match a,h with
 |[],_=>simp
 |[_],_=>simp[pD]
 |_::_::_,h=>exact absurd h (by simp)
end Srt
namespace Srt
open PySem.W PyProof.Rows HT
theorem B4:∀a:List Int,lexLt a a=false
 |[]=>rfl
 |x::a=>by rw[tu,if_pos rfl];exact B4 a
theorem BV:∀{a b c:List Int},lexLt a b=true->lexLt b c=true->lexLt a c=true
 |_,[],[],_,h=>by rw[Fd] at h;cases h
 |_,_::_,[],_,h=>by rw[Ff] at h;cases h
 |[],[],_::_,h,_=>by rw[Fd] at h;cases h
 |_::_,[],_::_,h,_=>by rw[Ff] at h;cases h
 |[],_::_,_::_,_,_=>Ck _ _
 |x::a,y::b,z::c,h1,h2=>by
  rw[tu] at h1 h2 ⊢;by_cases e1:x=y
  ·rw[if_pos e1] at h1;subst e1;by_cases e2:x=z
   ·rw[if_pos e2] at h2 ⊢;exact BV h1 h2
   ·rw[if_neg e2] at h2 ⊢;exact h2
  ·rw[if_neg e1] at h1;have e:=gR h1;by_cases e2:y=z
   ·subst e2;rw[if_neg e1];exact h1
   ·rw[if_neg e2] at h2;have d:=gR h2;rw[if_neg (by lia)];exact cI (by lia)
theorem uE:∀a b:List Int,lexLt a b=true\/a=b\/lexLt b a=true
 |[],[]=>.inr (.inl rfl)
 |[],_::_=>.inl (Ck _ _)
 |_::_,[]=>.inr (.inr (Ck _ _))
 |x::a,y::b=>by
  rw[tu,tu];by_cases e:x=y
  ·subst e;rw[if_pos rfl,if_pos rfl];rcases uE a b with h|h|h
   ·exact .inl h
   ·exact .inr (.inl (by rw[h]))
   ·exact .inr (.inr h)
  ·rw[if_neg e,if_neg (λz=>e z.symm)];rcases Int.lt_or_gt_of_ne e with h|h
   ·exact .inl (cI h)
   ·exact .inr (.inr (cI h))
theorem Rb{a b:List Int}(h:lexLt a b=true):lexLt b a=false:=by
 cases e:lexLt b a with
 |false=>rfl
 |true=>have:=BV h e;rw[B4] at this;cases this
theorem P6(a:∀x,p x=true->q x=true):∀{l:List Nat}{y:Nat},y∈l->q y=true->p y=false->l.countP p<l.countP q
 |[],_,h,_,_=>nomatch h
 |x::l,y,h,h1,h2=>by
  have b:∀l:List Nat,l.countP p<=l.countP q:=λl=>List.countP_mono_left λx _=>a x
  rcases ca.mp h with rfl|h
  ·rw[Dc h1,OO (by rw[h2];decide)];exact Ol (b l)
  ·have e:=P6 a h h1 h2;by_cases c:p x=true
   ·rw[Dc c,Dc (a x c)];lia
   ·rw[OO c];by_cases d:q x=true
    ·rw[Dc d];lia
    ·rw[OO d];exact e
def dL(a:List (List Int)) (i:Nat):Nat:=(List.range a.length).countP λk=>lexLt (a.getD k []) (a.getD i [])
theorem uF{ks:List (List Int)}(g:i<ks.length)(d:j<ks.length):lt (dL ks) i j=lexLt (ks.getD i []) (ks.getD j []):=by
 have up:∀{a b:Nat},a<ks.length->lexLt (ks.getD a []) (ks.getD b [])=true->dL ks a<dL ks b:=λ{a b} c h=>
  P6 (λx f=>BV f h) (bR.mpr c) h (B4 _)
 cases e:lexLt (ks.getD i []) (ks.getD j []) with
 |true=>exact cI (up g e)
 |false=>
  refine cO λh=>?_
  rcases uE (ks.getD i []) (ks.getD j []) with z|z|z
  ·rw[e] at z;cases z
  ·unfold dL at h;rw[z] at h;exact absurd h (n6 _)
  ·have:=up d z;lia
section
variable {prog:Program}{w:World}{A:Around}{s:Shared}{b:Bool}{Q:Bool->Shared->Prop}
theorem Qj:∀{a c:List Value}{d f:List Int}(i:Nat),IntsAre a d->IntsAre c f->Q (lexLt d f) s->KatLex prog w A b (decide (a.length<c.length)) Q (a.zip c) i s
 |_,_,_,_,_,.nil,.nil,h=>h
 |_,_,_,_,_,.nil,.cons _ _ _,h=>h
 |_,_,_,_,_,.cons _ _ _,.nil,h=>h
 |_,_,_,_,i,.cons x t (vs:=a) (ns:=d) r1,.cons y u (vs:=c) (ns:=f) r2,h=>by
  rw[tu] at h;refine kat_cons (wpAny_eqBool_int (kat_go (λe=>kat_yes ?_) λe=>kat_no ?_))
  ·rw[if_pos (eq_of_beq e)] at h;have q:=Qj (i+1) r1 r2 h;have g:decide ((Value.int x t::a).length<(Value.int y u::c).length)=decide (a.length<c.length):=by
    rw[dw,dw,kK];simp
   rw[g];exact q
  ·rw[if_neg (pK.mp e)] at h;cases hb:(b&&i==0) with
   |true=>exact oneLt_int h
   |false=>exact kat_one _ _ (PyProof.Rows.lt_int h)
end
end Srt
namespace L2
open Spec PyProof.Rows PySem.W
theorem Rz:∀{b:List Addr}{c:List Value},am (b.map V.ref) c->c=b.map Value.ref
 |[],_,.nil=>rfl
 |a::b,_,.cons r t=>by
  rw[show _=Value.ref a from r,Rz t]
  rfl
def sk(K:Fg) (H:Hp) (a:List (Addr×List Int)):Prop:=∀p∈a,cH K H p.1 (p.2.map V.int)
theorem zn{a b:Type}(f:a->b)(d:b){l:List a}{i:Nat}{x:a}(h:l[i]?=some x):(l.map f).getD i d=f x:=by
 rw[cJ,fM,h]
 rfl
end L2
namespace L2
open Spec PyProof.Rows
mutual
inductive ku (K:Fg) (H:Hp):V->PyData->Prop
 |non:ku K H .non .none
 |bl (b:Bool):ku K H (.bl b) (.bool b)
 |int (i:Int):ku K H (.int i) (.int i)
 |str (x:Str):ku K H (.str x) (.str x)
 |lst {a:Addr}{xs:List V}{ds:List PyData}:dr K H a xs->jU K H xs ds->ku K H (.ref a) (.list ds)
 |tup {a:Addr}{xs:List V}{ds:List PyData}:cH K H a xs->jU K H xs ds->ku K H (.ref a) (.tuple ds)
inductive jU (K:Fg) (H:Hp):List V->List PyData->Prop
 |nil:jU K H [] []
 |cons {x:V}{xs:List V}{d:PyData}{ds:List PyData}:ku K H x d->jU K H xs ds->jU K H (x::xs) (d::ds)
end
section
variable {X:Cx}{aU:List (Addr×Obj)}{σ:St}{H:Hp}{s:Shared}
mutual
theorem qq(I:Inv X aU σ H s):∀{v:V}{d:PyData}{u:Value},ku X.K H v d->RelV v u->∃g,Reads s.heap u d g
 |_,_,_,.non,r=>by cases r;exact⟨_,.none⟩
 |_,_,_,.bl b,r=>by cases r;exact⟨_,.bool b⟩
 |_,_,_,.int i,r=>by obtain⟨t,rfl⟩:=r;exact⟨_,.int i t⟩
 |_,_,_,.str x,r=>by obtain⟨t,rfl⟩:=r;exact⟨_,.str x t⟩
 |_,_,_,.lst h all,r=>by
  cases r;obtain⟨a,f,⟨o,n,e,c,_,j⟩,_⟩:=I.list h;obtain⟨g,q⟩:=E3 I all f;exact⟨_,.list e c j q⟩
 |_,_,_,.tup h all,r=>by
  cases r;obtain⟨a,f,⟨o,e,c,n,j⟩,_⟩:=I.tuple h;obtain⟨g,q⟩:=E3 I all f;exact⟨_,.tuple e c j q⟩
theorem E3(I:Inv X aU σ H s):∀{b:List V}{a:List PyData}{c:List Value},jU X.K H b a->am b c->∃d,ReadsAll s.heap c a d
 |_,_,_,.nil,.nil=>⟨_,.nil⟩
 |_,_,_,.cons h t,.cons r rs=>by
  obtain⟨d,q⟩:=qq I h r;obtain⟨f,e⟩:=E3 I t rs;exact⟨_,.cons q e⟩
end
end
def rS(K:Fg) (c:Bool):R2:=λx y H Q=>∃a b,ku K H x a/\ku K H y b/\PySem.SeqAt.shaped a=true/\PySem.SeqAt.shaped b=true/\Q (.bl (if c then !PyData.eqv a b else PyData.eqv a b)) H
section
variable {X:Cx}
theorem jp(g:X.A.units+64<cLine):dv X (compareOp .Eq) (rS X.K false):=by
 intro m s p H x y v u Q I j a h;obtain⟨e,d,i,f,k,b,q⟩:=h;obtain⟨n,c⟩:=qq I i j;obtain⟨o,l⟩:=qq I f a;exact eq_dataH c l k b g ⟨.bl (PyData.eqv e d),H,I,rfl,q⟩
theorem qX(g:X.A.units+64<cLine):dv X (compareOp .NotEq) (rS X.K true):=by
 intro m s p H x y v u Q I j a h;obtain⟨e,d,i,f,k,b,q⟩:=h;obtain⟨n,c⟩:=qq I i j;obtain⟨o,l⟩:=qq I f a;exact ne_dataH c l k b g ⟨.bl (!PyData.eqv e d),H,I,rfl,q⟩
end
noncomputable def dI(a:List Int):List PyData:=a.map PyData.int
def bT(a:List Int):PyData:=.tuple (dI a)
theorem vS:∀a b:List Int,PyData.eqvAll (dI a) (dI b)=decide (a=b)
 |[],[]=>by rfl
 |[],_::_=>by rfl
 |_::_,[]=>by rfl
 |x::a,y::b=>by
  show(x==y&&PyData.eqvAll (dI a) (dI b))=_;rw[vS a b,kK];simp
theorem uQ(a b:List Int):PyData.eqv (bT a) (bT b)=decide (a=b):=vS a b
theorem QY:∀a b:List (List Int),PyData.eqvAll (a.map bT) (b.map bT)=decide (a=b)
 |[],[]=>by rfl
 |[],_::_=>by rfl
 |_::_,[]=>by rfl
 |x::a,y::b=>by
  show(PyData.eqv (bT x) (bT y)&&PyData.eqvAll (a.map bT) (b.map bT))=_;rw[QY a b,uQ,kK];simp
theorem qO:∀a:List Int,PyData.canLayAll0 (dI a)=true/\PyData.depthAll (dI a)=0
 |[]=>⟨rfl,rfl⟩
 |x::a=>by
  obtain⟨b,c⟩:=qO a;refine⟨?_,?_⟩
  ·show(true&&PyData.canLayAll0 (dI a))=true;rw[b];rfl
  ·show max 0 (PyData.depthAll (dI a))=0;rw[c];rfl
theorem R6(a:List Int):PySem.SeqAt.shaped (bT a)=true:=by
 obtain⟨b,c⟩:=qO a;show(PyData.canLayAll0 (dI a)&&decide (PyData.depthAll (dI a)+1<=64))=true;rw[b,c];rfl
theorem QZ:∀a:List (List Int),PyData.canLayAll0 (a.map bT)=true/\PyData.depthAll (a.map bT)<=1
 |[]=>⟨rfl,gX _⟩
 |x::a=>by
  obtain⟨b,e⟩:=QZ a;obtain⟨c,d⟩:=qO x;refine⟨?_,?_⟩
  ·show(PyData.canLayAll0 (dI x)&&PyData.canLayAll0 (a.map bT))=true;rw[b,c];rfl
  ·show max (PyData.depthAll (dI x)+1) (PyData.depthAll (a.map bT))<=1;rw[d];lia
theorem Ce(a:List (List Int)):PySem.SeqAt.shaped (.tuple (a.map bT))=true:=by
 obtain⟨b,c⟩:=QZ a;show(PyData.canLayAll0 (a.map bT)&&decide (PyData.depthAll (a.map bT)+1<=64))=true;rw[b,cI (by lia)];rfl
theorem RX:∀{a:List Bool}{c:List Value},am (a.map V.bl) c->c=a.map Value.bool
 |[],_,.nil=>rfl
 |b::a,_,.cons r t=>by
  rw[show _=Value.bool b from r,RX t]
  rfl
theorem NU(c:List Bool):((List.range c.length).all λi=>c.getD i false)=c.all id:=by
 rw[kK];simp only[dW,bR];constructor
 ·intro h b d;obtain⟨i,a,rfl⟩:=nh d;have:=h i a;rw[cJ,bV a] at this;exact this
 ·intro h i a;rw[cJ,bV a];exact h _ (gf a)
def zB(K:Fg) (c:Bool):List V->Hp->VK->Prop:=λb H Q=>∃(l:Addr) (a:List Bool),b=[.ref l]/\dr K H l (a.map V.bl)/\Q (.bl (if c then a.all id else a.any id)) H
theorem UI(c:List Bool):TruthOf prog w A (λi v=>(c.map Value.bool).toArray[i]?=some v) (λi=>c.getD i false):=λi v s Q E f d=>by
 have a:(c.map Value.bool)[i]?=some v:=by simpa using f
 rw[fM] at a;cases e:c[i]? with
 |none=>rw[e] at a;cases a
 |some b=>
  rw[e] at a;cases a;dsimp only at d;rw[cJ,e] at d;exact og d
section
variable {X:Cx}
theorem KL(C:X.calm=true){j:List (Addr×Obj)}{r:St}{H:Hp}{s:Shared}{l:Addr}{c:List Bool}{R:Bool->Prop}(I:Inv X j r H s)(G:dr X.K H l (c.map V.bl)){Q:Value->Shared->Prop}{F:(Nat->Bool)->Nat->Bool}
  (v:∀k,Inv X j r H k->Q (.bool (F (λi=>c.getD i false) c.length)) k):
  wpAny (model X.prog X.w) X.A.in1 (pyIter (.ref l)) (λE a=>∃I w q n P St p,E=.ref I/\Walks X.prog X.w X.A.in1 I w q n P St/\St 0 a.heap/\TruthOf X.prog X.w X.A.in1 P p /\
   ∀g d,(∀b o,b∉q->a.heap.get? b=some o->g.get? b=some o)->Q (.bool (F p n)) {a with heap:=g,toks:=d}) X.xe s:=by
 obtain⟨x,t,h,S⟩:=I.list G;have e:=RX t;subst e;have f:l<s.heap.objs.size:=by obtain⟨o,n,e,_⟩:=h;exact cZ e
 refine CQ h.isList ?_;refine⟨s.heap.objs.size,_,[s.heap.objs.size],_,_,_,_,rfl,Walks.list (A:=X.A.in1) (I.ok.hd C) _ l (dJ f) (c.map Value.bool).toArray,⟨⟨_,fY _ rfl,rfl,rfl⟩,h.isList.push _⟩,UI c,λg d J=>?_⟩;have u:(c.map Value.bool).toArray.size=c.length:=by simp
 rw[u];refine v _ ?_;refine I.kept (t':=d) λb o e=>J b o ?_ (dY _ e)
 intro z;have y:b=s.heap.objs.size:=by simpa using z
 have m:=cZ e;rw[y] at m;exact absurd m (n6 _)
theorem P3(f:X.calm=true):bN X (.builtin "all") (zB X.K true):=by
 intro j s o H m g Q I r h;obtain⟨l,a,rfl,d,q⟩:=h;obtain⟨u,rfl,e⟩:=vals1 r;cases e;refine call_all_walk (KL (R:=λ_=>True) f I d (F:=λc n=>(List.range n).all c) λk b=>⟨.bl ((List.range a.length).all λi=>a.getD i false),H,b,rfl,?_⟩);rw[NU];exact q
end
end L2
namespace Dct
open PySem.W PyProof.Rows
noncomputable def lT(h:Heap) (d:Addr) (c:Array DictEntry) (b:Nat):Prop:=∃a,h.get? d=some a/\a.ExactDict/\a.data=.dict c b
theorem lT.kept{h':Heap}(x:lT h d es ep)(k:∀a,h.get? d=some a->h'.get? d=some a):lT h' d es ep:=
 let ⟨a,e,r⟩:=x;⟨a,k a e,r⟩
theorem lT.lt(x:lT h d es ep):d<h.objs.size:=let ⟨_,e,_⟩:=x;cZ e
theorem lT.is{a:Shared}(x:lT a.heap d es ep):a.TypeIs (.ref d) "dict":=let ⟨ob,e,c,_⟩:=x; ⟨ob,e,c.1⟩
noncomputable def oM(d:Addr) (n a:Nat):Obj:={ cls:=.type "dict_keyiterator",data:=.fields #[.ref d,.int 0 0,.int n 0,.int a 0] }
theorem Qz{au:Shared}{W:Value->Shared->Prop}(g:(d==sysModules)=false)(x:lT au.heap d es ep)(a:W (.ref au.heap.objs.size) {au with heap:=au.heap.push (oM d es.size ep)}):wpAny (model P w) B (pyIter (.ref d)) W E au:=by
 obtain⟨h,e,c,f⟩:=id x;have b:=x.is;refine Ob b F.slot_dict_iter (lE F.slot_dict_iter b F.entry_dict_iter ?body (F.args_dict_iter_1 _))
 case body=>
  unfold Builtin.«dict.__iter__» Builtin.Dict.dictSlotNone Builtin.Dict.showsAll;refine ag (ag (wpAny_notOrdered_dict b (aW ?_)));show wpAny _ _ ((if(d==sysModules)=true then _ else _) >>= _) _ _ au;rw[if_neg (λz=>pJ (g.symm.trans z))];refine ag (aW (ag (yq e f (ag (wpAny_dictEpoch e f (ag (mi (aW ⟨_,rfl, "dict_keyiterator",_,⟨_,fY _ rfl,rfl⟩,yE.lookup,?_⟩))))))))
  exact a
theorem QA{au:Shared}{a:Array DictEntry}{W:Option Value->Shared->Prop}(b:au.heap.IsKeyIter it d k a.size ep)(x:lT au.heap d a ep)(m:a[k]?=some en)
  (i:∀g:Heap,g.IsKeyIter it d (k+1) a.size ep->Heap.SameBut it au.heap g->W (some en.key) {au with heap:=g}):wpAny (model P w) B (pyNext (.ref it)) W E au:=by
 obtain⟨p,j,o,h⟩:=id b;obtain⟨q,e,c,l⟩:=id x;have lt:k<a.size:=(SJ.mp m).1;unfold pyNext;refine ag (ye (wpAny_callSpecial?_slot (name:=Str.ofString "__next__") b.typeIs yE (lE yE b.typeIs F.entry_dict_keyiterator_next ?body (F.args_dict_keyiterator_next_1 _))))
 case body=>
  refine ag (aW (ag (ag (ag (Dh b.typeIs (aW (ag (CA j h ?_))))))));simp only[show Builtin.Dict_items.ownsTuple "dict_keyiterator"=false from by decide,jk,ite_false]
  show wpAny _ _ (if(Value.ref d==Value.none)=true then _ else _) _ _ au;have n:¬ (Value.ref d==Value.none)=true:=pJ;rw[if_neg n];refine ag (aW (ag (yq e l ?_)));rw[if_neg (by simp)];refine ag (aW (ag (wpAny_dictEpoch e l ?_)));rw[if_neg (by simp)];refine aW ?_;simp only[show ¬ ((k:Int)<0) from by lia,ite_false,kL,m];refine ag (ag (Dh b.typeIs (aW (ag (wpAny_isOneOf_keyiter b.typeIs ?_)))));show wpAny _ _ (setField (.ref it) 1 (rawInt ((k:Int)+1)) >>= _) _ _ au;refine ag (rk j h (by simp) ?_);have f:(au.heap.update it (Obj.mapFields (·.setIfInBounds 1 (rawInt ((k:Int)+1))))).IsKeyIter it d (k+1) a.size ep:=
   ⟨_,pQ _ j (yy (rE h _)),(CU ..).trans o,by rw[rE h];simp[rawInt]⟩
  refine ag (jz (ag (wpAny_isOneOf_keyiter (s:={au with heap:=au.heap.update it (Obj.mapFields (·.setIfInBounds 1 (rawInt ((k:Int)+1))))}) f.typeIs ?_)));show wpAny _ _ (pure en.key) _ _ _;exact aW (aW ⟨_,rfl,aW (i _ f (ng ..))⟩)
theorem xJ{B:Around}{au:Shared}{i:Array DictEntry}{W:Option Value->Shared->Prop}(p:B.handled=none)(f:au.heap.IsKeyIter it d k i.size ep)(x:lT au.heap d i ep)(q:i.size<=k)
  (h:∀g:Heap,Heap.ExtBut it au.heap g->W none {au with heap:=g}):wpAny (model P w) B (pyNext (.ref it)) W E au:=by
 obtain⟨s,j,r,n⟩:=id f;obtain⟨t,e,c,l⟩:=id x;unfold pyNext;refine ag (ye (wpAny_callSpecial?_slot (name:=Str.ofString "__next__") f.typeIs yE (lE yE f.typeIs F.entry_dict_keyiterator_next ?body (F.args_dict_keyiterator_next_1 _))))
 case body=>
  refine ag (aW (ag (ag (ag (Dh f.typeIs (aW (ag (CA j n ?_))))))));simp only[show Builtin.Dict_items.ownsTuple "dict_keyiterator"=false from by decide,jk,ite_false]
  show wpAny _ _ (if(Value.ref d==Value.none)=true then _ else _) _ _ au;have o:¬ (Value.ref d==Value.none)=true:=pJ;rw[if_neg o];refine ag (aW (ag (yq e l ?_)));rw[if_neg (by simp)];refine ag (aW (ag (wpAny_dictEpoch e l ?_)));rw[if_neg (by simp)];refine aW ?_;simp only[show ¬ ((k:Int)<0) from by lia,ite_false,kL,yA q];refine ag (ag (Dh f.typeIs (aW ?_)));show wpAny _ _ (setField (.ref it) 0 .none >>= _) _ _ au;refine ag (rk j n (by simp) ?_);show wpAny _ _ (newExc (.type "StopIteration") [] >>= _) _ _ _
  refine ag ?_;simp only[newExc,newTuple];refine ag (mi (ag (m:=firstArgMember _ _) (wpAny_of_eq (a:=Value.none) (by first|rfl|(simp only[firstArgMember];rfl)) (mi ?_ (by size_fits)))) (by size_fits));simp only[raiseNew];refine ag (wpAny_handled ?_);rw[show B.in1.handled=none from p];refine ag (aW (wpAny_throw ?_));refine ag (wpAny_isInstance (T:="StopIteration") (b:=true) ?_ isSubtype_stop (aW (h _ (((ng ..).extBut.push _).push _))))
  exact⟨_,fY _ rfl,rfl⟩
theorem NW{B:Around}(u:B.handled=none)(s:d≠it)(f:Array DictEntry)(n:Nat):
  Walks P w B it [it,d] [it] f.size (λi v=>∃m,f[i]?=some m/\v=m.key) (λi h=>h.IsKeyIter it d i f.size n/\lT h d f n) where
 sub:=λb t=>ca.mpr (.inl (et.mp t))
 frame:=λ_ _ _ z r=>⟨z.1.at λo e=>r it dB o e,z.2.kept λo e=>r d (bU _ (et.mpr rfl)) o e⟩
 item:=λi k y x A z j=>by
  have p:f[i]?=some f[i]:=mm A;exact QA z.1 z.2 p λg a b=>j f[i].key g k.toks ⟨_,p,rfl⟩ ⟨a,z.2.kept λo e=>b.extBut d o s e⟩ λc o l e=>b.extBut c o (λq=>l (et.mpr q)) e
 done:=λk y x z j=>xJ u z.1 z.2 (br _) λg b=>j g k.toks λc o l e=>b c o (λq=>l (et.mpr q)) e
 self:=λ_ _ _ _ z j=>wpAny_pyIter_keyiter z.1 j
theorem Ki(j:(d==sysModules)=false)(a:Array DictEntry)(f:Nat):KdlSrc P w "dict" d d a.size (λi v=>∃ c,a[i]?=some c/\v=c.key) (λh=>lT h d a f) where
 type:=λ_ x=>x.is
 there:=λ_ x=>⟨x.lt,x.lt⟩
 keep:=λ_ _ x k=>x.kept λo e=>k d (.inl rfl) o e
 notList:=by decide
 notTuple:=by decide
 hint:=λ_ _ _ _ x b=>kdl_hint_dict x.is b
 iter:=λ_ l g x=>⟨_,_,λ_ _ b=>Qz j x b,NW g (dJ x.lt) a f,⟨⟨_,fY _ rfl,rfl,rfl⟩,x.kept λo e=>dY _ e⟩⟩
end Dct
namespace Srt
open PySem.W PyProof.Rows
end Srt
namespace L2
open Spec PyProof.Rows
theorem ba.ob(x:ba P w H h a o):∃ob,h.get? a=some ob:=by
 cases o with
 |lst xs=>obtain⟨_,_,_,_,e⟩:=x;exact⟨_,e⟩
 |tup xs=>obtain⟨_,_,_,ob,e,_⟩:=x;exact⟨_,e⟩
 |dK kvs=>obtain⟨_,_,_,_,ob,_,_,e,_⟩:=x;exact⟨_,e⟩
 |dT kvs=>obtain⟨_,_,_,_,ob,_,_,e,_⟩:=x;exact⟨_,e⟩
 |set S n=>obtain⟨ob,_,_,_,e,_⟩:=x;exact⟨_,e⟩
 |ins C dx fs=>obtain⟨_,_,_,e,_⟩:=x;exact⟨_,e⟩
 |own y=>obtain⟨_,e⟩:=x;exact⟨_,e⟩
 |xd fs=>obtain⟨_,⟨_,_,_,e,_⟩,_⟩:=x;exact⟨_,e⟩
 |rng lo hi=>obtain⟨_,_,_,e⟩:=x;exact⟨_,e⟩
 |frz ob u=>obtain⟨e,_⟩:=x;exact⟨_,e⟩
 |tbl ps=>exact⟨_,(show h.get? a=some _ from x)⟩
 |met f y=>exact⟨_,(show h.get? a=some _ from x)⟩
 |ext φ=>obtain⟨_,⟨_,e⟩,_⟩:=x;exact⟨_,e⟩
theorem Inv.away(I:Inv X aU σ H s) (c:∀b a,s.heap.get? b=some a->b≠q):H q=none:=by
 cases e:H q with
 |none=>rfl
 |some o=>
  obtain⟨a,z⟩:=(I.hok q o e).ob;exact absurd rfl (c q a z)
theorem Inv.laidN{g:Heap}(I:Inv X aU σ H s)(k:∀b u,s.heap.get? b=some u->g.get? b=some u)(f:∀b h,s.heap.get? b=some h->b≠q)(d:ba X.prog X.w (bf H q o) g q o):
  Inv X aU σ (bf H q o) {s with heap:=g,toks:=t'}:=by
 have i:=I.away f;have a:∀{b:Addr}{u:HO},H b=some u->bf H q o b=some u:=λ{b u} e=>by rw[zx (zp e i)];exact e
 refine I.un ⟨λb u e _ _ _=>k b u e,λb u e _ _ _=>⟨u.slots,k b u e⟩,λb u e n _=>by rw[zx (f b u e)];exact n,λb u e _=>⟨u,k b u e⟩,λb j e=>a e,λb h u e=>a e,λb l e=>⟨#[],by rw[a e];simp⟩⟩ λb u e=>?_
 by_cases hb:b=q
 ·subst hb;rw[zy] at e;cases e;exact d
 ·rw[zx hb] at e;exact(I.hok b u e).stay (λc v _ z=>k c v z) (λc z=>a z) λc j z=>a z
theorem xi(a:List Int):(a.map (Sum.inl:Int->cA)).map kV=a.map V.int:=by rw[eS];rfl
theorem RH{P:Program}{w:World}{H:Hp}{a:List (List cA×V)}:∀{c:List (List Int)}{f:List (List cA×Addr×Value)},
  Paired (λ(p:List cA×V) (q:List cA×Addr×Value)=>p.1=q.1/\H q.2.1=some (.tup (p.1.map kV))/\RelV p.2 q.2.2) a f->a.map (·.1)=c.map (λg=>g.map Sum.inl) ->
   ∃d:List (Addr×List Int),d.map (·.2)=c/\(∀p∈d,H p.1=some (.tup (p.2.map V.int)))/\f.map (λq=>(entryOfKey (tupleKind (aZ P w)) q).key)=d.map λp=>Value.ref p.1:=by
 induction a with
 |nil=>
  intro c f r e;cases r;cases c with
  |nil=>exact⟨[],rfl,λp h=>(nomatch h),rfl⟩
  |cons x c=>cases e
 |cons kv a ih=>
  intro c f r e;cases r with
  |cons r rs=>
   cases c with
   |nil=>cases e
   |cons g c=>
    rw[cr,cr] at e;injection e with k j
    obtain⟨d,n,l,m⟩:=ih rs j;rename_i b _;obtain⟨s,i,o⟩:=r;refine⟨(b.2.1,g)::d,by rw[cr,n],λp h=>?_,by rw[cr,cr,m];rfl⟩;rcases ca.mp h with z|z
    ·subst z;rw[k,xi] at i;exact i
    ·exact l p z
open PySem.W in
theorem KJ{sg:Shared}{a:List (Addr×List Int)}(h2:2<=a.length)
  (b:∀(i:Nat) (p:Addr×List Int),a[i]?=some p->∃(k:List Value) (o:Obj) (n:Nat),IntsAre k p.2/\sg.heap.get? p.1=some o/\o.cls=.type "tuple"/\o.data=.seq k.toArray n/\p.2≠[]):
  Srt.Answers P w B (Srt.dL (a.map (·.2))) (a.map λp=>Value.ref p.1) sg:=by
 refine⟨tuples' true,λR S=>?_,λi j C d G J=>?_⟩
 ·have Q:∀(l:List (Addr×List Int)),(∀p∈l,∃i:Nat,a[i]?=some p)->∃c:List Value,KatTups sg.heap (l.map λp=>Value.ref p.1) c/\c.length=l.length/\∀v∈c,∃i t,v=Value.int i t:=λl=>by
   induction l with
   |nil=>intro _;exact⟨[],KatTups.nil,rfl,λv e=>(nomatch e)⟩
   |cons p l ih=>
    intro h;obtain⟨c,s,I,q⟩:=ih λp' y=>h p' (bU _ y)
    obtain⟨i,d⟩:=h p dB;obtain⟨k,o,n,m,g,E,f,u⟩:=b i p d;obtain⟨pa,pn⟩:=p;dsimp only at m g E f u;cases m with
    |nil=>exact absurd rfl u
    |cons x t r=>exact⟨Value.int x t::c,KatTups.cons g E f rfl s,by rw[dw,dw,I],λv e=>(ca.mp e).elim (λz=>⟨x,t,z⟩) (q v)⟩
  obtain⟨c,s,I,q⟩:=Q a λp h=>List.mem_iff_getElem?.mp h
  exact kat_kind (T:=.type "int") s (by lia) (λv e=>by
   obtain⟨i,t,rfl⟩:=q v e
   exact Looks.of_pure rfl) rfl S
 ·rw[bj] at d G;have A:a[i]?=some a[i]:=bV d;have H:a[j]?=some a[j]:=bV G;obtain⟨k,o,n,m,g,E,f,u⟩:=b i _ A;obtain⟨U,o2,n2,Y,X,c3,c4,c5⟩:=b j _ H;unfold kas_ask;rw[zn (λp:Addr×List Int=>Value.ref p.1) _ A,zn (λp:Addr×List Int=>Value.ref p.1) _ H];refine kat_lt g f X c4 (Srt.Qj 0 m Y ?_);rw[Srt.uF (by rw[bj];exact d) (by rw[bj];exact G),zn (λp:Addr×List Int=>p.2) _ A,zn (λp:Addr×List Int=>p.2) _ H] at J;exact J
theorem Qw{ps:List (Addr×List Int)}{p:Array Nat}(e:p.Perm (List.toArray (List.range ps.length)))(Q:Srt.Up (Srt.dL (ps.map (·.2))) p ps.length):
  ∃m:List (Addr×List Int),m.Perm ps/\(m.map (·.2)).Pairwise (λx y=>HT.lexLt y x=false)/\Srt.cT (ps.map λp=>Value.ref p.1) p=(m.map λp=>Value.ref p.1).toArray:=by
 have J:p.size=ps.length:=by rw[e.size_eq];simp
 have q:∀i∈p.toList,i<ps.length:=λi b=>by
  have H:=(e.mem_iff (a:=i)).mp (by rw[←OE];exact b);exact bR.mp (List.mem_toArray.mp H)
 refine⟨p.toList.map λi=>ps.getD i (0,[]),?_,?_,?_⟩
 ·have E:p.toList.Perm (List.range ps.length):=by
   have:=uf.mp e
   simpa using this
  have r:=E.map λi=>ps.getD i (0,[])
  have G:((List.range ps.length).map λi=>ps.getD i (0,[]))=ps:=by
   apply CN
   ·simp
   ·intro i S P;simp[cJ,P]
  rw[G] at r;exact r
 ·rw[eS,ue];intro i j b c h;rw[CM,CM];rw[bj] at b c;have I:i<p.size:=by simpa using b
  have C:j<p.size:=by simpa using c
  have A:=Q i j (dj h) (by lia);have g:∀k,(d:k<p.toList.length)->p.getD k 0=p.toList[k]:=λk d=>by
   have f:k<p.size:=by simpa using d
   rw[lO,mm f];simp
  have s:=q _ (gf b);have t:=q _ (gf c);have l:=Srt.uF (ks:=ps.map (·.2)) (i:=p.toList[j]) (j:=p.toList[i]) (by rw[bj];exact t) (by rw[bj];exact s);have n:Srt.lt (Srt.dL (ps.map (·.2))) p.toList[j] p.toList[i]=false:=by
   refine cO λz=>?_
   unfold Srt.At at A;rw[g i b,g j c] at A;lia
  rw[n] at l;have v:∀k,k<ps.length->(ps.map (·.2)).getD k []=(ps.getD k (0,[])).2:=λk d=>by
   have u:ps[k]?=some ps[k]:=bV d;rw[zn (λp:Addr×List Int=>p.2) _ u,cJ,u]
   rfl
  rw[v _ t,v _ s] at l;exact l.symm
 ·unfold Srt.cT;rw[eS]
  congr 1
  refine lI λi b=>?_
  have o:=q i b;have w:ps[i]?=some ps[i]:=bV o;rw[zn (λp:Addr×List Int=>Value.ref p.1) _ w];show _=Value.ref (ps.getD i (0,[])).1;rw[cJ,w]
  rfl
theorem Inv.freeze(I:Inv X aU σ H s)(h:H a=some (.dT kvs))(e:s.heap.get? a=some ob):Inv X aU σ (bf H a (.frz ob (.dT kvs))) s:=by
 have d:∀{b:Addr}{u:HO},H b=some u->(∀l,u≠.dT l)->bf H a (.frz ob (.dT kvs)) b=some u:=λ{b u} q n=>by
  rw[zx (by rintro rfl;rw[h] at q;cases q;exact n _ rfl)];exact q
 have z:=I.un (h':=s.heap) (t':=s.toks) (H':=bf H a (.frz ob (.dT kvs))) ⟨λb u q _ _ _=>q,λb u q _ _ _=>⟨u.slots,q⟩,λb u q n _=>by
   rw[zx (by rintro rfl;rw[h] at n;cases n)];exact n,λb u q _=>⟨u,q⟩,λb f q=>d q (λl z=>by cases z),λb o u q=>d q (λl z=>by cases z),λb g q=>⟨#[],by rw[d q (λl z=>by cases z)];simp⟩⟩ (λb u q=>by
   by_cases hb:b=a
   ·subst hb;rw[zy] at q;cases q;exact⟨e,(I.hok b _ h).stay (λc v _ r=>r) (λc r=>d r (λl z=>by cases z)) λc f r=>d r (λl z=>by cases z)⟩
   ·rw[zx hb] at q
    exact(I.hok b u q).stay (λc v _ r=>r) (λc r=>d r (λl z=>by cases z)) λc f r=>d r (λl z=>by cases z))
 exact z
def S7(a:Addr) (d:Obj) (b:List (List cA×V)) (c:List (Addr×List Int)):It:=
 ⟨λi H=>i<c.length/\H a=some (.frz d (.dT b)),λi H x e=>e=H/\∃p,c[i]?=some p/\x=.ref p.1,λi H=>c.length<=i/\H a=some (.frz d (.dT b))⟩
theorem Ti{P:Program}{w:World}{K:Fg}{tg:Expr}{a it:Addr}{t:Obj}{r:List (List cA×V)}{f:List (Addr×List Int)}{m:Array DictEntry}{ep:Nat}(ex:t.ExactDict)(dt:t.data=.dict m ep)
  (hk:m.toList.map (·.key)=f.map λp=>Value.ref p.1):jR P w K tg (S7 a t r f) [it] it (λi h=>h.IsKeyIter it a i m.size ep) where
 mem:=et.mpr rfl
 obj:=λi h j b n=>by
  have e:b=it:=et.mp n;subst e;obtain⟨o,e,c,d⟩:=j;exact⟨o,e,λv z=>by rw[d] at z;cases z⟩
 keep:=λi h h' j k=>j.at λo e=>k it (et.mpr rfl) o e
 item:=by
  intro Y S hw hK hc i aU s σ H E I C j hg;subst S hw hK;obtain⟨hi,hz⟩:=hg;have U:m.size=f.length:=by
   have:=congrArg List.length hk
   rwa [bj,bj,fZ] at this
  obtain⟨G,_⟩:=(show ba Y.prog Y.w H s.heap a (.frz t (.dT r)) from I.hok a _ hz)
  obtain⟨J,f1,f2,X,Q,f5⟩:=C it (et.mpr rfl);have A:m[i]?=some m[i]:=mm (by lia);have u:f[i]?=some f[i]:=bV hi;have y:m[i].key=Value.ref f[i].1:=by
   have q:=congrArg (λl=>l[i]?) hk;simp only[fM,gU,A,u] at q;exact g8 q
  refine Dct.QA j ⟨t,G,ex,dt⟩ A λg x sb=>?_
  have I1:Inv Y aU σ H {s with heap:=g}:=I.turned (t':=s.toks) (λb o n e=>sb.extBut b o n e) J f1 X Q f5;obtain⟨o,e,c,d⟩:=id x;exact⟨_,rfl,nM (s:={s with heap:=g}) e c d (by decide) ⟨.ref f[i].1,H,I1,y,⟨rfl,f[i],u,rfl⟩,x,λb n=>(C b n).1⟩⟩
 done:=by
  intro Y S hw hK hc i aU s σ H E I C j hg;subst S hw hK;obtain⟨hi,hz⟩:=hg;have U:m.size=f.length:=by
   have:=congrArg List.length hk
   rwa [bj,bj,fZ] at this
  obtain⟨G,_⟩:=(show ba Y.prog Y.w H s.heap a (.frz t (.dT r)) from I.hok a _ hz)
  obtain⟨J,f1,f2,X,Q,f5⟩:=C it (et.mpr rfl);exact Dct.xJ (I.ok.hd hc) j ⟨t,G,ex,dt⟩ (by lia) λg eb=>⟨rfl,I.turned (t':=s.toks) (λb o n e=>eb b o n e) J f1 X Q f5⟩
 self:=λ_ _ _ _ _ j h=>wpAny_pyIter_keyiter j h
def Pm(f:TE):TI:=λh H R=>f h H λx H1=>∃(a:Addr) (b:List (List cA×V)) (d:List (List Int)),x=.ref a/\H1 a=some (.dT b)/\b.map (·.1)=d.map (λg=>g.map Sum.inl) /\
 ∀(e:Obj) (c:List (Addr×List Int)),c.map (·.2)=d->(∀p∈c,H1 p.1=some (.tup (p.2.map V.int)))->R (S7 a e b c) (bf H1 a (.frz e (.dT b)))
theorem J5{X:Cx}{S l:Expr}{y:TE}(hl:PE X l y):PI X S l (Pm y):=by
 intro E s σ H R I h;refine bw (hl E s σ H _ I h) λv c g=>?_
 obtain⟨x,H1,A,Y,q1⟩:=g;obtain⟨a,d,ks,rfl,u,U,q⟩:=q1;cases Y;obtain⟨z,Q,ys,j,r,es,ep,m,k,t,G,e5⟩:=(show ba X.prog X.w H1 c.heap a (.dT d) from A.hok a _ u)
 obtain⟨n,a1,C,a3⟩:=RH (P:=X.prog) (w:=X.w) j U;have i:es.toList.map (·.key)=n.map λp=>Value.ref p.1:=by rw[G,eS];exact a3
 refine Dct.Qz Q ⟨r,m,k,t⟩ ?_;have f:=A.freeze u m;refine⟨c.heap.objs.size,[c.heap.objs.size],_,_,_,rfl,f.kept (t':=c.toks) λb o e=>dY _ e,Ti k t i,⟨_,fY _ rfl,rfl,rfl⟩,λb J=>?_,q r n a1 C⟩;have e:b=c.heap.objs.size:=et.mp J;subst e;exact f.fpOk (br _) (f.hok.fresh (br _))
end L2
namespace L2
open Spec PyProof.Rows PySem.W
noncomputable def fC(g:Heap) (b:List (Addr×List Int)):Prop:=∀ p∈b,∃(a:List Value) (o:Obj) (n:Nat),IntsAre a p.2/\g.get? p.1=some o/\o.cls=.type "tuple"/\o.data=.seq a.toArray n
theorem Q6{b:Shared}:∀{ps:List (Addr×List Int)},fC b.heap ps->∃a:List (Option Value),a.map Option.isSome=ps.map (λp=>!p.2.isEmpty)/\∀(W:List (Option Value)->Shared->Prop),W a b->wpAny (model P w) B ((ps.map λp=>Value.ref p.1).mapM firstOfTuple') W E b
 |[],_=>⟨[],rfl,λW h=>by rw[Cv,List.mapM_nil];exact aW h⟩
 |p::ps,h=>by
  obtain⟨a,l,j⟩:=Q6 (ps:=ps) λq m=>h q (bU _ m)
  obtain⟨f,o,n,d,c,k,g⟩:=h p dB;refine⟨f.toArray[0]?::a,?_,λW i=>?_⟩
  ·rw[cr,cr,l]
   congr 1
   obtain⟨u,s⟩:=p;dsimp only at d ⊢;cases d with
   |nil=>rfl
   |cons x t r=>rfl
  ·rw[cr,List.mapM_cons];have e:Looks (model P w) b.heap (typeOf (.ref p.1)) o.cls:=(Looks.ld c).andThen .now;refine ag ?_;rw[kas_first_eq];refine ag (Looks.here e ?_);rw[k,if_neg (by first|decide|simp)];exact ag (listItems_at c g (aW (ag (j _ (aW i)))))
theorem TW(x y:Value):keyLt' general' x y=oneLt' false x y:=rfl
theorem KM{B:Around}{sg:Shared}(k:κ=general'\/κ=oneType')(u:B.units<cLine) (G:fC sg.heap [a])(y:fC sg.heap [b]) (v:C (HT.lexLt a.2 b.2) sg):
  wpAny (model P w) B (keyLt' κ (.ref a.1) (.ref b.1)) C E sg:=by
 obtain⟨s,o,n,x,d,e,f⟩:=G a dB;obtain⟨c,r,l,m,q,g,j⟩:=y b dB;rcases k with rfl|rfl
 ·rw[TW];exact kat_one _ _ (HT.RP (items:=s.toArray) (items2:=c.toArray) ⟨o,d,e,n,f⟩ ⟨r,q,g,l,j⟩ x m u v)
 ·rw[keyLt'_oneType,oneLt'_eq];simp only[ite_true];refine ag (wpAny_cRoomFor u (ag (wpAny_callSpecialIfBound?_slot (T:="tuple") ⟨o,d,e⟩ OG ?_)))
  obtain⟨z,A,t,H⟩:=o;obtain⟨p,i,data2,h⟩:=r;dsimp only at e f g j;subst e f g j;exact tH OG ⟨_,d,rfl⟩ F.entry_tuple_lt (F.args_tuple_lt_2 _ _) (HT.Sy a.1 b.1 s.toArray c.toArray n l A i H h a.2 b.2 x m) ⟨d,q,og v⟩
theorem KI{B:Around}{sg:Shared}(hu:B.units<cLine)(c:fC sg.heap a)(t:∃p∈a,p.2=[]):Srt.Answers P w B (Srt.dL (a.map (·.2))) (a.map λp=>Value.ref p.1) sg:=by
 obtain⟨y,f1,Q⟩:=Q6 (P:=P) (w:=w) (B:=B) (E:=λ_ _=>False) c;have b:¬ (y.toArray.all λx=>x.isSome)=true:=λz=>by
  have z':y.all (λx=>x.isSome)=true:=by simpa using z
  obtain⟨p,h,he⟩:=t;have m:(!p.2.isEmpty)∈y.map Option.isSome:=by rw[f1];exact List.mem_map_of_mem (f:=λp:Addr×List Int=>!p.2.isEmpty) h
  obtain⟨o,ho,e⟩:=bS.mp m;have:=dW.mp z' o ho;rw[e,he] at this;cases this
 have l:∀{G:SortKind},G=general'\/G=oneType'->∀i j C,i<(a.map λp=>Value.ref p.1).length->j<(a.map λp=>Value.ref p.1).length->C (Srt.lt (Srt.dL (a.map (·.2))) i j) sg->kas_ask P w B G (a.map λp=>Value.ref p.1) i j C sg:=λ{G} J i j C u A X=>by
  rw[bj] at u A;have S:a[i]?=some a[i]:=bV u;have ej:a[j]?=some a[j]:=bV A;unfold kas_ask;rw[zn (λp:Addr×List Int=>Value.ref p.1) _ S,zn (λp:Addr×List Int=>Value.ref p.1) _ ej];rw[Srt.uF (by rw[bj];exact u) (by rw[bj];exact A),zn (λp:Addr×List Int=>p.2) _ S,zn (λp:Addr×List Int=>p.2) _ ej] at X;have s:∀k,(Y:k<a.length)->fC sg.heap [a[k]]:=λk Y q hq=>by
   rw[et.mp hq];exact c _ (gf Y)
  exact KM J hu (s i u) (s j A) X
 by_cases fst:(y.toArray[0]?.bind id).isSome=true
 ·refine⟨general',λR H=>?_,l (.inl rfl)⟩;rw[kat_kind_eq,Oj,N6];refine ag (ag (Q _ (aW ?_)));rw[if_neg b,if_pos fst];exact aW H
 ·refine⟨oneType',λR H=>?_,l (.inr rfl)⟩;rw[kat_kind_eq,Oj,N6];refine ag (ag (Q _ (aW ?_)));rw[if_neg b,if_neg fst,oneTypeOnly'_eq,Oj,N6];have ty:∀ v∈(a.map λp=>Value.ref p.1),∀ W:Value->Shared->Prop,W (.type "tuple") sg->wpAny (model P w) B (typeOf v) W (λ_ _=>False) sg:=λv hv W hW=>by
   obtain⟨p,h,rfl⟩:=bS.mp hv;obtain⟨us,o,n,a1,a2,a3,a4⟩:=c p h;have U:Looks (model P w) sg.heap (typeOf (.ref p.1)) o.cls:=(Looks.ld a2).andThen .now;rw[a3] at U;exact U.here hW
  refine ag (ag (ag (kas_mapM (r:=Value.type "tuple") _ ty (aW ?_))))
  obtain⟨p,h,_⟩:=t;obtain⟨d,rest,rfl⟩:∃d rest,a=d::rest:=by
   cases a with
   |nil=>exact nomatch h
   |cons d rest=>exact⟨d,rest,rfl⟩
  have I:((List.map (λ_=>Value.type "tuple") ((d::rest).map λp=>Value.ref p.1)).toArray.all λx=>x==Value.type "tuple")=true:=by
   rw[List.all_toArray,dW];intro x hx;obtain⟨_,_,rfl⟩:=bS.mp hx
   rfl
  have g:(List.map (λ_=>Value.type "tuple") ((d::rest).map λp=>Value.ref p.1)).toArray[0]?=some (Value.type "tuple"):=by simp
  rw[g];simp only[I,ite_true];exact aW (aW H)
theorem wO{B:Around}{sg:Shared}{a:List (Addr×List Int)}(h:B.units<cLine)(j:2<=a.length)(b:fC sg.heap a):Srt.Answers P w B (Srt.dL (a.map (·.2))) (a.map λp=>Value.ref p.1) sg:=by
 by_cases c:∃p∈a,p.2=[]
 ·exact KI h b c
 ·refine KJ j λi p m=>?_
  have d:=ew m;obtain⟨e,o,n,l,g,k,f⟩:=b p d;exact⟨e,o,n,l,g,k,f,λz=>c ⟨p,d,z⟩⟩
theorem Su(z:List (Addr×List Int)):am (z.map λp=>V.ref p.1) (z.map λp=>Value.ref p.1):=by
 induction z with
 |nil=>exact .nil
 |cons x z ih=>exact .cons rfl ih
end L2
namespace TS
open PyProof.Rows
noncomputable def kA(R:Keyed->Nat) (a:Array Keyed) (i:Nat):Nat:=match a[i]? with
 |some p=>R p
 |none=>0
theorem nG(h:xs[i]?=ys[j]?):kA R xs i=kA R ys j:=by unfold kA;rw[h]
theorem iP(h:xs[i]?=some x):kA R xs i=R x:=by unfold kA;rw[h]
def eP(R:Keyed->Nat) (c:Array Keyed) (a b:Nat):Prop:=∀i j,a<=i->i<=j->j<b->kA R c i<=kA R c j
def sF(R:Keyed->Nat) (c:Array Keyed) (a b:Nat):Prop:=∀i j,a<=i->i<=j->j<b->kA R c j<=kA R c i
noncomputable def kt(b:Program) (w:World) (A:Around) (s:Shared) (c:SortKind) (a:Array Keyed) (R:Keyed->Nat):Prop:=
 ∀x,x∈a.toList->∀y,y∈a.toList->∀(C:Bool->Shared->Prop),C (decide (R x<R y)) s->wpAny (model b w) A (keyLt' c x.1 y.1) C (λ_ _=>False) s
structure B (κ:SortKind) (a₀:Array Keyed) (au:SortSt):Prop where
 perm:(arrOf au).Perm a₀
 kind:kindOf au=κ
 failed:failedOf au=none
section
variable {κ:SortKind}{a₀:Array Keyed}
theorem B.size{a:SortSt}(h:B κ a₀ a):(arrOf a).size=a₀.size:=h.perm.size_eq
theorem B.set{a:SortSt}(h:B κ a₀ a){b:Array Keyed}(c:b.Perm (arrOf a)):B κ a₀ (setArr a b):=⟨c.trans h.perm,h.kind,h.failed⟩
theorem B.mem{b:SortSt}(h:B κ a₀ b){i:Nat}(c:i<a₀.size):∃x,(arrOf b)[i]?=some x/\x∈a₀.toList:=by
 have a:i<(arrOf b).size:=by rw[h.size];exact c
 exact⟨_,getElem?_pos _ i a,(uf.mp h.perm).mem_iff.mp (by simp)⟩
end
section
variable {prog:Program}{w:World}{A:Around}{E:Value->Shared->Prop}{s:Shared}{κ:SortKind}{a₀:Array Keyed}{R:Keyed->Nat}
theorem w_lt{x y:Keyed}{au:SortSt}{Q:Option Bool->SortSt->Prop}(O:kt prog w A s κ a₀ R)(e:kindOf au=κ)(g:x∈a₀.toList)(c:y∈a₀.toList)(h:Q (some (decide (R x<R y))) au):wpS (model prog w) A E s (lt' x y) Q au:=by
 rw[lt'_eq];refine bh (kJ ?_);rw[e];refine bh (pr (ye (ir (O x g y c (λb a=>a=s/\b=decide (R x<R y)) ⟨rfl,rfl⟩) (λb a d=>?_) λ_ _ f=>f.elim)));obtain⟨rfl,rfl⟩:=d;exact⟨rfl,bn h⟩
end
section
variable {prog:Program}{w:World}{A:Around}{E:Value->Shared->Prop}{s:Shared}
theorem o5{a:Array Keyed}{i:Nat}{x:Keyed}{au:SortSt}{Q:Keyed->SortSt->Prop}(e:a[i]?=some x)(h:Q x au):wpS (model prog w) A E s (elem' a i) Q au:=by
 rw[elem'_eq,e];exact bn h
end
section
variable {prog:Program}{w:World}{A:Around}{E:Value->Shared->Prop}{s:Shared}{κ:SortKind}{a₀:Array Keyed}{R:Keyed->Nat}
theorem qh{i j:Nat}{au:SortSt}{Q:Option Bool->SortSt->Prop}(O:kt prog w A s κ a₀ R)(b:B κ a₀ au)(f:i<a₀.size)(d:j<a₀.size)(h:Q (some (decide (kA R (arrOf au) i<kA R (arrOf au) j))) au):wpS (model prog w) A E s (ltAt' i j) Q au:=by
 obtain⟨x,a,g⟩:=b.mem f;obtain⟨y,c,e⟩:=b.mem d;rw[iP a,iP c] at h;rw[ltAt'_eq];exact bh (kJ (bh (o5 a (bh (o5 c (w_lt O b.kind g e h))))))
end
section
variable {prog:Program}{w:World}{A:Around}{E:Value->Shared->Prop}{s:Shared}
theorem nw{i j:Nat}{au:SortSt}{Q:Unit->SortSt->Prop}(h:Q () (setArr au (mirror (arrOf au) i j ((j-i)/2)))):wpS (model prog w) A E s (reverseSlice' i j) Q au:=by
 rw[reverseSlice'_eq];exact l9 h
theorem Il{i j:Nat}{au:SortSt}{Q:Unit->SortSt->Prop}(h:Q () (setArr au (bubble (arrOf au) i (i-j)))):wpS (model prog w) A E s (moveDown' i j) Q au:=by
 rw[moveDown'_eq];exact l9 h
end
theorem kC{lo x n N:Nat}(h:x<n)(a:lo+n<=N):lo+x<N:=da (nc h lo) a
theorem kD{lo x n N:Nat}(h:x<n)(a:lo+n<=N):lo+x-1<N:=jl (lB _ _) (kC h a)
theorem DH{lo n:Nat}(h:1<=n):lo+n-1<lo+n:=n0 (da h (N4 _ _)) Nat.one_pos
theorem nO{j lo n:Nat}(h:j<lo+(n+1))(e:¬j=lo+n):j<lo+n:=jD (h7 h) e
theorem wc(a:k<j):i<=i+j-1-k:=Nat.le_sub_of_add_le (kP (nc a i))
theorem wb(a:i<=k)(b:k<j):i+j-1-k<j:=jl (tX a _) (by rw[Nat.sub_right_comm,lM];exact n0 (CT b) Nat.one_pos)
theorem EG{a:Array Keyed}(b:j<=a.size)(k:Nat):kA R (mirror a i j ((j-i)/2)) k=if i<=k/\k<j then kA R a (i+j-1-k) else kA R a k:=by
 have e:=getElem?_mirror_all (i:=i) b k;split
 ·rename_i c;rw[if_pos c] at e;exact nG e
 ·rename_i c;rw[if_neg c] at e;exact nG e
noncomputable def dX(d c:Array Keyed) (a b:Nat):Prop:=∀k,k<a\/b<=k->d[k]?=c[k]?
theorem dX.refl(c:Array Keyed)(a b:Nat):dX c c a b:=λ_ _=>rfl
theorem dX.trans(d:dX xs ys a b)(e:dX ys zs a b):dX xs zs a b:=λk c=>(d k c).trans (e k c)
theorem dX.mirror{c:Array Keyed}(d:j<=c.size)(g:a<=i)(e:j<=b):dX (mirror c i j ((j-i)/2)) c a b:=λk f=>by
 rw[getElem?_mirror_all (i:=i) d k,if_neg λz=>f.elim (λh=>mh (ay g z.1) h) λh=>mh (ay e h) z.2]
theorem dX.bubble{c:Array Keyed}(j:src<c.size)(i:d<=src)(e:a<=src-d)(f:src<b):dX (bubble c src d) c a b:=λk g=>by
 rw[getElem?_bubble j d i k,if_neg λz=>g.elim (λh=>mh (ay e (gQ z.symm)) h) λh=>mh h (jl (ay (gQ z) (lB _ _)) f),if_neg λz=>g.elim (λh=>mh (ay e (dj z.1)) h) λh=>mh h (jl z.2 f)]
structure Sm (au st':SortSt) (a b:Nat):Prop where
 out:dX (arrOf st') (arrOf au) a b
 pend:pendingOf st'=pendingOf au
section
variable {prog:Program}{w:World}{A:Around}{E:Value->Shared->Prop}{s:Shared}{κ:SortKind}{a₀:Array Keyed}{R:Keyed->Nat}
theorem l6{lo a d:Nat}{au:SortSt}{Q:Option (Option Nat)×Nat->SortSt->Prop}(O:kt prog w A s κ a₀ R)(b:B κ a₀ au)(o:lo+d<=a₀.size)(t:1<=a)(l:a<=d)(v:eP R (arrOf au) lo (lo+a))
  (h:∀n,a<=n->n<=d->eP R (arrOf au) lo (lo+n)->(n=d\/kA R (arrOf au) (lo+n)<kA R (arrOf au) (lo+n-1))->Q (none,n) au):
  wpS (model prog w) A E s (forIn [a:d] ((none,a):Option (Option Nat)×Nat) λ_ r=>do
   let x ←ltAt' (lo+r.2) (lo+r.2-1)
   match x with
   |some smaller=>if smaller=true then pure (ForInStep.done (none,r.2)) else pure (ForInStep.yield (none,r.2+1))
   |_=>pure (ForInStep.done (some none,r.2))) Q au:=by
 refine iu (I:=λx c f=>f=au/\c=(none,x)/\eP R (arrOf au) lo (lo+x)) ?_ ?_ ⟨rfl,rfl,v⟩
 ·rintro x c f q m ⟨rfl,rfl,g⟩;dsimp only;refine bh (qh O b (kC m o) (kD m o) ?_);by_cases c:kA R (arrOf f) (lo+x)<kA R (arrOf f) (lo+x-1)
  ·simp only[c,pu,gr];exact bn (h x q (dj m) g (.inr c))
  ·simp only[c,px,jk,gP];refine bn ⟨rfl,rfl,λi j p k u=>?_⟩;by_cases e:j=lo+x
   ·subst e;by_cases e2:i=lo+x
    ·rw[e2];exact br _
    ·exact ay (g i (lo+x-1) p (kP (jD k e2)) (DH (ay t q))) (fG c)
   ·exact g i j p k (nO u e)
 ·rintro c f ⟨rfl,rfl,g⟩;rw[Oa l] at g ⊢;exact h d l (br _) g (.inl rfl)
end
theorem Sr{xs:Array Keyed}{i j:Nat}(b:j<=xs.size)(a:∀k,i<=k->k<j->kA R xs k=kA R xs (j-1))(k:Nat):kA R (mirror xs i j ((j-i)/2)) k=kA R xs k:=by
 rw[EG b];split
 ·rename_i c;rw[a _ (wc c.2) (wb c.1 c.2),a k c.1 c.2]
 ·rfl
structure Fl (κ:SortKind) (a₀:Array Keyed) (R:Keyed->Nat) (st₀ au:SortSt) (lo n neq b:Nat):Prop where
 base:B κ a₀ au
 same:Sm st₀ au lo b
 dn:sF R (arrOf au) lo (lo+n)
 hq:neq+1<=n
 eqs:∀i,lo+n-(neq+1)<=i->i<lo+n->kA R (arrOf au) i=kA R (arrOf au) (lo+n-1)
section
variable {κ:SortKind}{a₀:Array Keyed}{R:Keyed->Nat}
theorem Fl.turn{c d:SortSt}{lo n a b:Nat}(h:Fl κ a₀ R c d lo n a b)(m:lo+n<=b)(o:b<=a₀.size):
  Fl κ a₀ R c (setArr d (mirror (arrOf d) (lo+n-(a+1)) (lo+n) ((lo+n-(lo+n-(a+1)))/2))) lo n a b/\∀k,kA R (mirror (arrOf d) (lo+n-(a+1)) (lo+n) ((lo+n-(lo+n-(a+1)))/2)) k=kA R (arrOf d) k:=by
 have p:=h.base.size;have r:=h.hq;have f:lo+n<=(arrOf d).size:=by rw[p];exact ay m o
 have e:=Sr (R:=R) (xs:=arrOf d) (i:=lo+n-(a+1)) (j:=lo+n) f h.eqs;refine⟨⟨h.base.set (mirror_perm _ _ _ _),⟨(dX.mirror f (Nat.le_sub_of_add_le (hD r lo)) m).trans h.same.out,h.same.pend⟩,λi j l g q=>?_,h.hq,λi l g=>?_⟩,e⟩
 ·show kA R (mirror _ _ _ _) j<=kA R (mirror _ _ _ _) i;rw[e,e];exact h.dn i j l g q
 ·show kA R (mirror _ _ _ _) i=kA R (mirror _ _ _ _) _;rw[e,e];exact h.eqs i l g
theorem Fl.less{a f:SortSt}{lo n d b:Nat}(h:Fl κ a₀ R a f lo n d b)(c:kA R (arrOf f) (lo+n)<=kA R (arrOf f) (lo+n-1)):sF R (arrOf f) lo (lo+(n+1)):=λi j k g l=>by
 have m:=h.hq;by_cases e:j=lo+n
 ·subst e;by_cases e2:i=lo+n
  ·rw[e2];exact br _
  ·exact ay c (h.dn i (lo+n-1) k (kP (jD g e2)) (DH (ay (N4 1 d) m)))
 ·exact h.dn i j k g (nO l e)
theorem Fl.fresh{a d:SortSt}{lo n e b:Nat}(h:Fl κ a₀ R a d lo n e b)(c:kA R (arrOf d) (lo+n)<=kA R (arrOf d) (lo+n-1)):Fl κ a₀ R a d lo (n+1) 0 b:=⟨h.base,h.same,h.less c,n9 (gX _),λi f g=>by
 have:i=lo+(n+1)-1:=j7 (h7 g) f
 rw[this]⟩
theorem Fl.more{a f:SortSt}{lo n d b:Nat}(h:Fl κ a₀ R a f lo n d b)(c:kA R (arrOf f) (lo+n)=kA R (arrOf f) (lo+n-1)):Fl κ a₀ R a f lo (n+1) (d+1) b:=by
 have k:=h.hq;refine⟨h.base,h.same,h.less (gQ c),n9 k,λi g j=>?_⟩;rw[show lo+(n+1)-1=lo+n from rfl];by_cases e:i=lo+n
 ·rw[e]
 ·rw[c];exact h.eqs i (ay (gQ (Nat.succ_sub_succ (lo+n) (d+1)).symm) g) (nO j e)
end
section
variable {prog:Program}{w:World}{A:Around}{E:Value->Shared->Prop}{s:Shared}{κ:SortKind}{a₀:Array Keyed}{R:Keyed->Nat}
theorem Kx{lo nrem:Nat}{au:SortSt}{Q:Option Nat->SortSt->Prop}(O:kt prog w A s κ a₀ R)(b:B κ a₀ au)(p:lo+nrem<=a₀.size)(h1:1<=nrem)
  (h:∀m a,1<=m->m<=nrem->B κ a₀ a->Sm au a lo (lo+nrem)->eP R (arrOf a) lo (lo+m)->Q (some m) a):wpS (model prog w) A E s (countRun' lo nrem) Q au:=by
 have Y:Sm au au lo (lo+nrem):=⟨dX.refl _ _ _,rfl⟩
 have a5:∀P:Array Keyed,eP R P lo (lo+1):=λP i j l g S=>by
  have:i=j:=j7 g (ay (h7 S) l);subst this;exact br _
 have a8:∀P:Array Keyed,sF R P lo (lo+1):=λP i j l g S=>by
  have:i=j:=j7 g (ay (h7 S) l);subst this;exact br _
 rw[countRun'_eq];dsimp only;refine bh (l6 O b p (br _) h1 (a5 _) λn n1 n2 hu a0=>?_);dsimp only;split
 ·exact bn (h n au n1 n2 b Y hu)
 rename_i a6;have X:n≠nrem:=λz=>a6 (by simp[z])
 have C:n<nrem:=jD n2 X;have hl:kA R (arrOf au) (lo+n)<kA R (arrOf au) (lo+n-1):=by
  rcases a0 with z|z
  ·exact absurd z X
  ·exact z
 have hz:=b.size;have G:∀(n:Nat) (o:SortSt),B κ a₀ o->Sm au o lo (lo+nrem)->1<=n->n<=nrem->sF R (arrOf o) lo (lo+n) ->
   B κ a₀ (setArr o (mirror (arrOf o) lo (lo+n) ((lo+n-lo)/2)))/\Sm au (setArr o (mirror (arrOf o) lo (lo+n) ((lo+n-lo)/2))) lo (lo+nrem)/\eP R (mirror (arrOf o) lo (lo+n) ((lo+n-lo)/2)) lo (lo+n):=λn o b1 r U J u=>by
  have hz:=b1.size;have hm:=hD J lo;have t:lo+n<=(arrOf o).size:=by rw[hz];exact ay hm p
  refine⟨b1.set (mirror_perm _ _ _ _),⟨(dX.mirror t (br _) hm).trans r.out,r.pend⟩,λi j l g S=>?_⟩;have hi:=jl g S;rw[EG t,EG t,if_pos ⟨l,hi⟩,if_pos ⟨ay l g,S⟩];exact u _ _ (wc S) (tX g _) (wb l hi)
 have H:¬ kA R (arrOf au) lo<kA R (arrOf au) (lo+n-1)->∀k,lo<=k->k<lo+n->kA R (arrOf au) k=kA R (arrOf au) (lo+n-1):=λc k k1 k2=>by
  have g1:=hu lo k (br _) k1 k2;have g2:=hu k (lo+n-1) k1 (kP k2) (DH n1);exact j7 g2 (ay (fG c) g1)
 have a4:∀P:Array Keyed,(∀k,kA R P k=kA R (arrOf au) k)->¬ kA R (arrOf au) lo<kA R (arrOf au) (lo+n-1)->sF R P lo (lo+(n+1)):=λP e c i j l g S=>by
  rw[e,e];by_cases e2:j=lo+n
  ·subst e2;by_cases e3:i=lo+n
   ·rw[e3];exact br _
   ·rw[H c i l (jD g e3)];exact dj hl
  ·have jn:=nO S e2;rw[H c i l (jl g jn),H c j (ay l g) jn];exact br _
 split
 ·have t:lo+n<=(arrOf au).size:=by rw[hz];exact ay (hD n2 lo) p
  refine bh (qh O b (da (Db h1) p) (kD C p) ?_);by_cases c:kA R (arrOf au) lo<kA R (arrOf au) (lo+n-1)
  ·simp only[c,pu,gr];exact bn (h n au n1 n2 b Y hu)
  ·simp only[c,px,jk,gP];refine bh (nw ?_);have b1:B κ a₀ (setArr au (mirror (arrOf au) lo (lo+n) ((lo+n-lo)/2))):=b.set (mirror_perm _ _ _ _);have r:Sm au (setArr au (mirror (arrOf au) lo (lo+n) ((lo+n-lo)/2))) lo (lo+nrem):=⟨dX.mirror t (br _) (hD n2 lo),rfl⟩
   have u:sF R (arrOf (setArr au (mirror (arrOf au) lo (lo+n) ((lo+n-lo)/2)))) lo (lo+(n+1)):=a4 _ (Sr t (H c)) c;generalize (setArr au (mirror (arrOf au) lo (lo+n) ((lo+n-lo)/2)))=o at b1 r u ⊢;refine bh (pr (nZ ⟨rfl,?_⟩));refine bh (iR (iu (I:=λx c a=>∃d,c=(none,x,d)/\Fl κ a₀ R au a lo x d (lo+nrem)) (Q:=λc a=>∃m d,c=(none,m,d)/\n+1<=m/\m<=nrem/\Fl κ a₀ R au a lo m d (lo+nrem)) ?_ ?_ ?_) ?_)
   ·rintro x c a l g ⟨d,rfl,f⟩;dsimp only;refine bh (qh O f.base (kC g p) (kD g p) ?_);by_cases c:kA R (arrOf a) (lo+x)<kA R (arrOf a) (lo+x-1)
    ·simp only[c,pu,gr];split
     ·obtain⟨y,e⟩:=f.turn (hD (dj g) lo) p;refine bh (nw (bn ⟨0,rfl,y.fresh ?_⟩));refine dj (?_:kA R (mirror _ _ _ _) _<kA R (mirror _ _ _ _) _);rw[e,e];exact c
     ·exact bn ⟨0,rfl,f.fresh (dj c)⟩
    ·simp only[c,px,jk,gP];refine bh (qh O f.base (kD g p) (kC g p) ?_);by_cases c2:kA R (arrOf a) (lo+x-1)<kA R (arrOf a) (lo+x)
     ·simp only[c2,pu,gr];exact bn ⟨x,d,rfl,l,dj g,f⟩
     ·simp only[c2,px,jk,gP];exact bn ⟨d+1,rfl,f.more (j7 (fG c2) (fG c))⟩
   ·rintro c a ⟨d,rfl,f⟩;rw[Oa C] at f ⊢;exact⟨nrem,d,rfl,C,br _,f⟩
   ·exact⟨0,rfl,b1,r,u,n9 (gX _),λi g1 g2=>by
     have:i=lo+(n+1)-1:=j7 (h7 g2) g1
     rw[this]⟩
   ·rintro c a ⟨m,d,rfl,l,g,f⟩;dsimp only;split
    ·obtain⟨y,e⟩:=f.turn (hD g lo) p;refine bh (nw (bh (nw ?_)));obtain⟨v,s3,u3⟩:=G m _ y.base y.same (lJ l) g y.dn;exact bh (l6 O v p (lJ l) g u3 λm' U J q _=>bn (h m' _ (ay (lJ l) U) J v s3 q))
    ·refine bh (nw ?_);obtain⟨v,s3,u3⟩:=G m _ f.base f.same (lJ l) g f.dn;exact bh (l6 O v p (lJ l) g u3 λm' U J q _=>bn (h m' _ (ay (lJ l) U) J v s3 q))
 ·rename_i a7;have b1:=b;have r:=Y
  have u:sF R (arrOf au) lo (lo+(n+1)):=a4 _ (λ_=>rfl) (by
   have:n=1:=j7 (fG a7) n1;subst this
   simp)
  refine bh (pr (nZ ⟨rfl,?_⟩));refine bh (iR (iu (I:=λx c a=>∃d,c=(none,x,d)/\Fl κ a₀ R au a lo x d (lo+nrem)) (Q:=λc a=>∃m d,c=(none,m,d)/\n+1<=m/\m<=nrem/\Fl κ a₀ R au a lo m d (lo+nrem)) ?_ ?_ ?_) ?_)
  ·rintro x c a l g ⟨d,rfl,f⟩;dsimp only;refine bh (qh O f.base (kC g p) (kD g p) ?_);by_cases c:kA R (arrOf a) (lo+x)<kA R (arrOf a) (lo+x-1)
   ·simp only[c,pu,gr];split
    ·obtain⟨y,e⟩:=f.turn (hD (dj g) lo) p;refine bh (nw (bn ⟨0,rfl,y.fresh ?_⟩));refine dj (?_:kA R (mirror _ _ _ _) _<kA R (mirror _ _ _ _) _);rw[e,e];exact c
    ·exact bn ⟨0,rfl,f.fresh (dj c)⟩
   ·simp only[c,px,jk,gP];refine bh (qh O f.base (kD g p) (kC g p) ?_);by_cases c2:kA R (arrOf a) (lo+x-1)<kA R (arrOf a) (lo+x)
    ·simp only[c2,pu,gr];exact bn ⟨x,d,rfl,l,dj g,f⟩
    ·simp only[c2,px,jk,gP];exact bn ⟨d+1,rfl,f.more (j7 (fG c2) (fG c))⟩
  ·rintro c a ⟨d,rfl,f⟩;rw[Oa C] at f ⊢;exact⟨nrem,d,rfl,C,br _,f⟩
  ·exact⟨0,rfl,b1,r,u,n9 (gX _),λi g1 g2=>by
    have:i=lo+(n+1)-1:=j7 (h7 g2) g1
    rw[this]⟩
  ·rintro c a ⟨m,d,rfl,l,g,f⟩;dsimp only;split
   ·obtain⟨y,e⟩:=f.turn (hD g lo) p;refine bh (nw (bh (nw ?_)));obtain⟨v,s3,u3⟩:=G m _ y.base y.same (lJ l) g y.dn;exact bh (l6 O v p (lJ l) g u3 λm' U J q _=>bn (h m' _ (ay (lJ l) U) J v s3 q))
   ·refine bh (nw ?_);obtain⟨v,s3,u3⟩:=G m _ f.base f.same (lJ l) g f.dn;exact bh (l6 O v p (lJ l) g u3 λm' U J q _=>bn (h m' _ (ay (lJ l) U) J v s3 q))
end
theorem Ra{a:Array Keyed}(g:src<a.size)(f:d<=src)(k:Nat):kA R (bubble a src d) k=if k=src-d then kA R a src else if src-d<k/\k<=src then kA R a (k-1) else kA R a k:=by
 have e:=getElem?_bubble g d f k;split
 ·rename_i c;rw[if_pos c] at e;exact nG e
 ·rename_i c;rw[if_neg c] at e;split
  ·rename_i b;rw[if_pos b] at e;exact nG e
  ·rename_i b;rw[if_neg b] at e;exact nG e
theorem EI(c:a<=b)(h:b-a<=n-max 0 n):b=a:=by
 rw[Nat.zero_max,tM] at h;exact j7 (Nat.le_of_sub_eq_zero (Nat.le_zero.mp h)) c
theorem qG(h:¬l ≥ r):l<=(l+r)/2:=(Nat.le_div_iff_mul_le Cr).mpr (by rw[Nat.mul_two];exact hD (dj (pF h)) l)
theorem nN(h:¬l ≥ r):(l+r)/2<r:=(Nat.div_lt_iff_lt_mul Cr).mpr (by rw[Nat.mul_two];exact Nat.add_lt_add_right (pF h) r)
theorem Po(h:¬l ≥ r)(g:r-l<=k-x):(l+r)/2-l<=k-(x+1):=ay (kP (om (qG h) (nN h))) (rG g 1)
theorem Pn(h:¬l ≥ r)(g:r-l<=k-x):r-((l+r)/2+1)<=k-(x+1):=ay (tX (n9 (qG h)) r) (rG g 1)
theorem qY(h:p<j)(a:j<=q):j-1<q:=da (n0 (CT h) Nat.one_pos) a
section
variable {prog:Program}{w:World}{A:Around}{E:Value->Shared->Prop}{s:Shared}{κ:SortKind}{a₀:Array Keyed}{R:Keyed->Nat}
theorem F2{lo n G:Nat}{au:SortSt}{Q:Bool->SortSt->Prop}(O:kt prog w A s κ a₀ R)(b:B κ a₀ au)(hn:lo+n<=a₀.size)(h1:1<=G)(h2:G<=n)(up:eP R (arrOf au) lo (lo+G))
  (h:∀a,B κ a₀ a->Sm au a lo (lo+n)->eP R (arrOf a) lo (lo+n)->Q true a):wpS (model prog w) A E s (binarySort' lo n G) Q au:=by
 rw[binarySort'_eq]
 refine bh (iR (iu (I:=λk c a=>c=(none,())/\B κ a₀ a/\Sm au a lo (lo+n)/\eP R (arrOf a) lo (lo+min k n))
  (Q:=λc a=>c=(none,())/\B κ a₀ a/\Sm au a lo (lo+n)/\eP R (arrOf a) lo (lo+n)) ?_ ?_ ?_) ?_)
 ·rintro k c a k1 S ⟨rfl,p,f,up1⟩;rw[j6 (dj S)] at up1;have hz:=p.size;have hk:lo+k<a₀.size:=da (nc S lo) hn
  refine bh (iR (iu (I:=λx c d=>d=a/\∃l r,c=(none,l,r)/\l<=r/\r<=k/\r-l<=k-x/\(∀i,i<l->kA R (arrOf a) (lo+i)<=kA R (arrOf a) (lo+k))/\(∀i,r<=i->i<k->kA R (arrOf a) (lo+k)<=kA R (arrOf a) (lo+i)))
   (Q:=λc d=>d=a/\∃l r,c=(none,l,r)/\l<=k/\(∀i,i<l->kA R (arrOf a) (lo+i)<=kA R (arrOf a) (lo+k))/\(∀i,l<=i->i<k->kA R (arrOf a) (lo+k)<=kA R (arrOf a) (lo+i))) ?_ ?_ ?_) ?_)
  ·rintro x c d x1 x2 ⟨rfl,l,r,rfl,v,o,y,H,J⟩;dsimp only;by_cases hge:l ≥ r
   ·rw[if_pos hge];have e:l=r:=j7 v hge;subst e;exact bn ⟨rfl,l,l,rfl,o,H,J⟩
   ·have hm:lo+(l+r)/2<lo+k:=nc (da (nN hge) o) lo;rw[if_neg hge];refine bh (qh O p hk (rh hm hk) ?_);by_cases c:kA R (arrOf d) (lo+k)<kA R (arrOf d) (lo+(l+r)/2)
    ·simp only[c,pu,gr];exact bn ⟨rfl,l,(l+r)/2,rfl,qG hge,ay (dj (nN hge)) o,Po hge y,H,λi m g=>ay (dj c) (up1 _ _ (ft _ _) (hD m lo) (nc g lo))⟩
    ·simp only[c,px,jk,gP];exact bn ⟨rfl,(l+r)/2+1,r,rfl,nN hge,o,Pn hge y,λi m=>ay (up1 (lo+i) (lo+(l+r)/2) (ft _ _) (hD (h7 m) lo) hm) (fG c),J⟩
  ·rintro c d ⟨rfl,l,r,rfl,v,o,y,H,J⟩;have e:=EI v y;subst e;exact⟨rfl,_,_,rfl,o,H,J⟩
  ·exact⟨rfl,0,k,rfl,gX _,br _,br _,λi hi=>absurd hi (Nat.not_lt_zero _),λi m g=>absurd g (mh m)⟩
  ·rintro c d ⟨rfl,l,r,rfl,v,o,y⟩;dsimp only;have hd:lo+k-(lo+k-(lo+l))=lo+l:=Nat.sub_sub_self (hD v lo);have X:lo+k<(arrOf d).size:=by rw[hz];exact hk
   refine bh (Il (bn ⟨rfl,p.set (bubble_perm _ _ _),⟨(dX.bubble X (lB _ _) (by rw[hd];exact ft _ _) (nc S lo)).trans f.out,f.pend⟩,λi j m g P=>?_⟩));show kA R (bubble (arrOf d) (lo+k) (lo+k-(lo+l))) i<=kA R (bubble (arrOf d) (lo+k) (lo+k-(lo+l))) j;rw[Ra X (lB _ _),Ra X (lB _ _),hd];rw[j6 S] at P;have u:j<=lo+k:=h7 P;have a0:∀q,lo<=q->q<lo+l->kA R (arrOf d) q<=kA R (arrOf d) (lo+k):=λq C Y=>by
    have:=o (q-lo) (ou C Y);rw[gS C] at this;exact this
   have U:∀q,lo+l<=q->q<lo+k->kA R (arrOf d) (lo+k)<=kA R (arrOf d) q:=λq C Y=>by
    have q0:=ay (ft _ _) C;have:=y (q-lo) (pO C) (ou q0 Y);rw[gS q0] at this;exact this
   by_cases i1:i=lo+l
   ·rw[if_pos i1];by_cases j1:j=lo+l
    ·rw[if_pos j1];exact br _
    ·have t:=jD (i1 ▸ g) (fX j1);rw[if_neg j1,if_pos ⟨t,u⟩];exact U _ (kP t) (qY t u)
   ·rw[if_neg i1];by_cases i2:lo+l<i/\i<=lo+k
    ·have t:=da i2.1 g;rw[if_pos i2,if_neg (tN t),if_pos ⟨t,u⟩];exact up1 _ _ (ay (ft lo l) (kP i2.1)) (rG g 1) (qY t u)
    ·have il:i<lo+l:=jD (fG λz=>i2 ⟨z,ay g u⟩) i1;rw[if_neg i2];by_cases j1:j=lo+l
     ·rw[if_pos j1];exact a0 i m il
     ·rw[if_neg j1];by_cases j2:lo+l<j/\j<=lo+k
      ·rw[if_pos j2];exact up1 _ _ m (kP (rh il j2.1)) (qY j2.1 u)
      ·rw[if_neg j2];exact up1 _ _ m g (da (jD (fG λz=>j2 ⟨z,u⟩) j1) (hD v lo))
 ·rintro c a ⟨rfl,p,f,up1⟩;rw[yp (Nat.le_max_right _ _)] at up1;exact⟨rfl,p,f,up1⟩
 ·refine⟨rfl,b,⟨dX.refl _ _ _,rfl⟩,λi j m g P=>up i j m g (da P (hD (ay (rx _ _) (gQ (Nat.max_eq_left h1))) lo))⟩
 ·rintro c a ⟨rfl,p,f,up1⟩;exact bn (h a p f up1)
end
noncomputable def oN:Bool->Keyed->Array Keyed->Nat->Nat->Nat->StateT SortSt Sem (Option Nat):=sortPriv% PySem.Builtin.gallop
def nv(left:Bool) (R:Keyed->Nat) (a:Keyed) (b:Array Keyed) (base n h:Nat):Prop:=h<=n/\(∀i,i<h->if left then kA R b (base+i)<R a else kA R b (base+i)<=R a)/\(∀i,h<=i->i<n->if left then R a<=kA R b (base+i) else R a<kA R b (base+i))
def ahead(left:Bool) (R:Keyed->Nat) (a:Keyed) (b:Array Keyed) (base i:Nat):Bool:=if left then decide (kA R b (base+i)<R a) else decide (kA R b (base+i)<=R a)
section
variable {prog:Program}{w:World}{A:Around}{E:Value->Shared->Prop}{s:Shared}{κ:SortKind}{a₀:Array Keyed}{R:Keyed->Nat}
theorem uI{left:Bool}{a:Keyed}{b:Array Keyed}{base i:Nat}{au:SortSt}{Q:Option Bool->SortSt->Prop}(O:kt prog w A s κ a₀ R)(f:kindOf au=κ)(d:a∈a₀.toList)(g:∃x,b[base+i]?=some x/\x∈a₀.toList)(h:Q (some (ahead left R a b base i)) au):
  wpS (model prog w) A E s (do
   let x ←elem' b (base+i)
   if left=true then lt' x a else do
    let y ←lt' a x
    pure (Option.map (λx=>!x) y)) Q au:=by
 obtain⟨x,e,m⟩:=g;refine bh (o5 e ?_);unfold ahead at h;rw[iP e] at h;cases left with
 |true=>
  rw[if_pos rfl] at h ⊢;exact w_lt O f m d h
 |false=>
  rw[if_neg (by decide)] at h ⊢;refine bh (w_lt O f d m (bn ?_));have q:(!decide (R a<R x))=decide (R x<=R a):=by
   by_cases c:R a<R x
   ·rw[cI c,cO (Nat.not_le_of_lt c)];rfl
   ·rw[cO c,cI (fG c)];rfl
  show Q (some (!decide (R a<R x))) au;rw[q];exact h
end
theorem Tv(up:eP R arr base (base+n))(a:i<=j)(b:j<n)(h:ahead left R key arr base j=true):ahead left R key arr base i=true:=by
 have:=up (base+i) (base+j) (ft _ _) (hD a _) (nc b _);unfold ahead at h ⊢;cases left with
 |true=>rw[if_pos rfl] at h ⊢;exact cI (jl this (gR h))
 |false=>rw[if_neg (by decide)] at h ⊢;exact cI (ay this (gR h))
theorem vR(d:h<=n)(f:∀i,i<h->ahead left R key arr base i=true)(c:∀i,h<=i->i<n->ahead left R key arr base i=false):nv left R key arr base n h:=by
 refine⟨d,λi e=>?_,λi b a=>?_⟩
 ·have:=f i e;unfold ahead at this;cases left with
  |true=>rw[if_pos rfl] at this ⊢;exact gR this
  |false=>rw[if_neg (by decide)] at this ⊢;exact gR this
 ·have:=c i b a;unfold ahead at this;cases left with
  |true=>rw[if_pos rfl] at this ⊢;exact fG (Om this)
  |false=>rw[if_neg (by decide)] at this ⊢;exact pF (Om this)
theorem xc(c:¬a ≥ b):(b-a)/2<b-a:=Nat.div_lt_self (pI (pF c)) (br 2)
theorem qH(c:¬a ≥ b):a+(b-a)/2<b:=nj (xc c)
theorem kH(c:¬a ≥ b)(h:b<=n):a+(b-a)/2<n:=da (qH c) h
theorem v9(h:b-a<=n-x):b-(a+(b-a)/2+1)<=n-(x+1):=ay (tX (n9 (ft a _)) b) (rG h 1)
theorem wa(c:¬a ≥ b)(h:b-a<=n-x):a+(b-a)/2-a<=n-(x+1):=by
 rw[lM];exact ay (kP (xc c)) (rG h 1)
theorem vV(o:Nat):o<2*o+1:=Ol (OH o Cr)
theorem vU(h:x+1<=o):x+1+1<=2*o+1:=n9 (ay h (OH o Cr))
theorem wz{a b n:Nat}(h:a+b<n):b<n-a:=Nat.lt_sub_of_add_lt (yd a b ▸ h)
inductive GI (f:Nat->Bool) (n:Nat) (au:SortSt) (x:Nat):Option (Option Nat)×Nat×Nat->SortSt->Prop where
 |mk {a b:Nat}(q1:a<=b) (q2:b<=n) (q3:b-a<=n-x) (q4:∀i,i<a->f i=true) (q5:∀i,b<=i->i<n->f i=false):GI f n au x (none,a,b) au
inductive GE (f:Nat->Bool) (n:Nat) (au:SortSt):Option (Option Nat)×Nat×Nat->SortSt->Prop where
 |mk {b:Nat}(q2:b<=n) (q4:∀i,i<b->f i=true) (q5:∀i,b<=i->i<n->f i=false):GE f n au (none,b,b) au
inductive GU (f:Nat->Bool) (n hint:Nat) (P:Nat->Prop) (au:SortSt):Option (Option Nat)×Nat×Nat->SortSt->Prop where
 |mk {l o:Nat}(g1:l<o) (g2:hint+l<n) (g3:f (hint+l)=true) (g4:P o):GU f n hint P au (none,l,o) au
inductive GD (f:Nat->Bool) (hint:Nat) (P:Nat->Prop) (au:SortSt):Option (Option Nat)×Nat×Nat->SortSt->Prop where
 |mk {l o:Nat}(g1:l<o) (g2:l<=hint) (g3:f (hint-l)=false) (g4:P o):GD f hint P au (none,l,o) au
section
variable {prog:Program}{w:World}{A:Around}{E:Value->Shared->Prop}{s:Shared}{κ:SortKind}{a₀:Array Keyed}{R:Keyed->Nat}
theorem sW{left:Bool}{m:Keyed}{f:Array Keyed}{base n d:Nat}{au:SortSt}{Q:Option Nat->SortSt->Prop}(O:kt prog w A s κ a₀ R)(hk:kindOf au=κ)(p:m∈a₀.toList)(ma:∀i,i<n->∃x,f[base+i]?=some x/\x∈a₀.toList)(Y:d<n)
  (up:eP R f base (base+n))(h:∀k,nv left R m f base n k->Q (some k) au):wpS (model prog w) A E s (oN left m f base n d) Q au:=by
 have t:∀i j,i<=j->j<n->ahead left R m f base j=true->ahead left R m f base i=true:=λi j v J=>Tv up v J
 have r:∀i j,i<=j->j<n->ahead left R m f base i=false->ahead left R m f base j=false:=λi j v J e=>by
  cases c:ahead left R m f base j with
  |false=>rfl
  |true=>rw[t i j v J c] at e;cases e
 refine bh (uI O hk p (ma d Y) ?_);dsimp only;cases hr:ahead left R m f base d with
 |true=>
  rw[if_pos rfl];refine bh (iR (iu (I:=λx=>GU (ahead left R m f base) n d (x+1<=·) au) (Q:=GU (ahead left R m f base) n d (λo=>n-d<=o\/(d+o<n/\ahead left R m f base (d+o)=false)) au) ?_ ?_ ?_) ?_)
  ·rintro x c U x1 x2 @⟨l,o,y,u,G,z⟩;dsimp only;by_cases c:o ≥ n-d
   ·rw[if_pos c];exact bn (.mk y u G (.inl c))
   ·have c3:d+o<n:=nj (pF c);rw[if_neg c];refine bh (uI O hk p (ma (d+o) c3) ?_);dsimp only;cases c2:ahead left R m f base (d+o) with
    |true=>exact bn (.mk (vV o) c3 c2 (vU z))
    |false=>exact bn (.mk y u G (.inr ⟨c3,c2⟩))
  ·rintro c U @⟨l,o,y,u,G,z⟩;rw[Nat.zero_max] at z;exact .mk y u G (.inl (ay (lB _ _) (jB z)))
  ·exact .mk Nat.one_pos Y hr (br _)
  ·rintro c U @⟨l,o,y,u,G,z⟩;dsimp only;have f1:∀i,i<d+l+1->ahead left R m f base i=true:=λi P=>t i (d+l) (h7 P) u G
   have f2:∀i,d+min o (n-d)<=i->i<n->ahead left R m f base i=false:=λi v J=>by
    rcases z with g|⟨ga,gb⟩
    ·rw[yp g,gS (dj Y)] at v;exact absurd J (mh v)
    ·rw[j6 (dj (wz ga))] at v;exact r (d+o) i v J gb
   have f3:d+l+1<=d+min o (n-d):=hD (Nat.le_min.mpr ⟨y,wz u⟩) d;have f4:d+min o (n-d)<=n:=ay (hD (rA _ _) d) (gQ (gS (dj Y)));generalize d+l+1=lo at f1 f3 ⊢;generalize d+min o (n-d)=P at f2 f3 f4 ⊢;refine bh (iR (iu (I:=GI (ahead left R m f base) n au) (Q:=GE (ahead left R m f base) n au) ?_ ?_ (.mk f3 f4 (ay (lB _ _) f4) f1 f2)) ?_)
   ·rintro x c S x1 x2 @⟨a,b,q1,q,X,C,H⟩;dsimp only;by_cases c:a ≥ b
    ·rw[if_pos c];have e:b=a:=j7 c q1;subst e;exact bn (.mk q C H)
    ·rw[if_neg c];refine bh (uI O hk p (ma (a+(b-a)/2) (kH c q)) ?_);dsimp only;cases c2:ahead left R m f base (a+(b-a)/2) with
     |true=>exact bn (.mk (qH c) q (v9 X) (λi P=>t i (a+(b-a)/2) (h7 P) (kH c q) c2) H)
     |false=>exact bn (.mk (ft _ _) (dj (kH c q)) (wa c X) C λi v J=>r (a+(b-a)/2) i v J c2)
   ·rintro c S @⟨a,b,q1,q,X,C,H⟩;have e:=EI q1 X;subst e;exact .mk q C H
   ·rintro c S @⟨b,q,C,H⟩;exact bn (h b (vR q C H))
 |false=>
  rw[if_neg (by decide)];refine bh (iR (iu (I:=λx=>GD (ahead left R m f base) d (x+1<=·) au) (Q:=GD (ahead left R m f base) d (λo=>d+1<=o\/(o<=d/\ahead left R m f base (d-o)=true)) au) ?_ ?_ ?_) ?_)
  ·rintro x c U x1 x2 @⟨l,o,y,u,G,z⟩;dsimp only;by_cases c:o ≥ d+1
   ·rw[if_pos c];exact bn (.mk y u G (.inl c))
   ·rw[if_neg c];refine bh (uI O hk p (ma (d-o) (jl (lB _ _) Y)) ?_);dsimp only;cases c2:ahead left R m f base (d-o) with
    |true=>exact bn (.mk y u G (.inr ⟨h7 (pF c),c2⟩))
    |false=>exact bn (.mk (vV o) (h7 (pF c)) c2 (vU z))
  ·rintro c U @⟨l,o,y,u,G,z⟩;rw[Nat.zero_max] at z;exact .mk y u G (.inl (ay Y (jB z)))
  ·exact .mk Nat.one_pos (gX _) hr (br _)
  ·rintro c U @⟨l,o,y,u,G,z⟩;dsimp only;have f1:∀i,i<d+1-min o (d+1)->ahead left R m f base i=true:=λi P=>by
    rcases z with g|⟨ga,gb⟩
    ·rw[yp g,tM] at P;exact absurd P (Nat.not_lt_zero _)
    ·rw[j6 (oi ga),Nat.succ_sub ga] at P;exact t i (d-o) (h7 P) (jl (lB _ _) Y) gb
   have f2:∀i,d-l<=i->i<n->ahead left R m f base i=false:=λi v J=>r (d-l) i v J G
   have f3:d+1-min o (d+1)<=d-l:=ay (tX (Nat.le_min.mpr ⟨y,n9 u⟩) _) (gQ (Nat.succ_sub_succ d l));have f4:d-l<=n:=ay (lB _ _) (dj Y);generalize d+1-min o (d+1)=lo at f1 f3 ⊢;generalize d-l=P at f2 f3 f4 ⊢;refine bh (iR (iu (I:=GI (ahead left R m f base) n au) (Q:=GE (ahead left R m f base) n au) ?_ ?_ (.mk f3 f4 (ay (lB _ _) f4) f1 f2)) ?_)
   ·rintro x c S x1 x2 @⟨a,b,q1,q,X,C,H⟩;dsimp only;by_cases c:a ≥ b
    ·rw[if_pos c];have e:b=a:=j7 c q1;subst e;exact bn (.mk q C H)
    ·rw[if_neg c];refine bh (uI O hk p (ma (a+(b-a)/2) (kH c q)) ?_);dsimp only;cases c2:ahead left R m f base (a+(b-a)/2) with
     |true=>exact bn (.mk (qH c) q (v9 X) (λi P=>t i (a+(b-a)/2) (h7 P) (kH c q) c2) H)
     |false=>exact bn (.mk (ft _ _) (dj (kH c q)) (wa c X) C λi v J=>r (a+(b-a)/2) i v J c2)
   ·rintro c S @⟨a,b,q1,q,X,C,H⟩;have e:=EI q1 X;subst e;exact .mk q C H
   ·rintro c S @⟨b,q,C,H⟩;exact bn (h b (vR q C H))
end
noncomputable abbrev Ord(R:Keyed->Nat) (l:List Keyed):Prop:=l.Pairwise λx y=>R x<=R y
structure je (au st':SortSt):Prop where
 arr:arrOf st'=arrOf au
 pend:pendingOf st'=pendingOf au
 kind:kindOf st'=kindOf au
 failed:failedOf st'=failedOf au
theorem je.refl(au:SortSt):je au au:=⟨rfl,rfl,rfl,rfl⟩
theorem je.trans(x:je a b)(y:je b c):je a c:=⟨y.arr.trans x.arr,y.pend.trans x.pend,y.kind.trans x.kind,y.failed.trans x.failed⟩
noncomputable def mE:Array Keyed->Array Keyed->StateT SortSt Sem (Array Keyed):=sortPriv% PySem.Builtin.mergeLo
noncomputable def mF:Array Keyed->Array Keyed->StateT SortSt Sem (Array Keyed):=sortPriv% PySem.Builtin.mergeHi
structure ML (R:Keyed->Nat) (all out rest:List Keyed):Prop where
 perm:(out++rest).Perm all
 ord:Ord R out
 le:∀x∈out,∀y∈rest,R x<=R y
theorem ML.grow{a:List Keyed}(m:ML R all out a)(p:a.Perm (c++rest'))(o:Ord R c)(h:∀x∈c,∀y∈rest',R x<=R y):ML R all (out++c) rest':=by
 refine⟨?_,rF.mpr ⟨m.ord,o,λx hx y b=>m.le x hx y (p.mem_iff.mpr (ub _ b))⟩,λx hx y b=>?_⟩
 ·rw[ff];exact(ud out p.symm).trans m.perm
 ·rcases dk.mp hx with hx|hx
  ·exact m.le x hx y (p.mem_iff.mpr (lK _ b))
  ·exact h x hx y b
theorem ML.fin{b a:List Keyed}(m:ML R all out b)(p:a.Perm b)(o:Ord R a):(out++a).Perm all/\Ord R (out++a):=
 ⟨(ud out p).trans m.perm,rF.mpr ⟨m.ord,o,λx d y c=>m.le x d y (p.mem_iff.mp c)⟩⟩
theorem Ord.at(h:Ord R l){i j:Nat}(g:l[i]?=some x)(e:l[j]?=some y)(a:i<=j):R x<=R y:=by
 obtain⟨k,b⟩:=db.mp g;obtain⟨f,d⟩:=db.mp e;by_cases c:i=j
 ·subst c;rw[←b,←d];exact br _
 ·rw[←b,←d];exact ue.mp h i j k f (jD a c)
theorem Ord.drop(h:Ord R l)(n:Nat):Ord R (l.drop n):=uc (Oi _ _) h
theorem Ord.take(h:Ord R l)(n:Nat):Ord R (l.take n):=uc (CV _ _) h
theorem nR{l:List Keyed}(h:y∈l.drop n):∃j,n<=j/\l[j]?=some y:=by
 obtain⟨i,a,e⟩:=nh h;refine⟨n+i,ft _ _,?_⟩;rw[←e,Oh];exact bV _
theorem zu{l:List Keyed}(h:y∈l.take n):∃j,j<n/\l[j]?=some y:=by
 obtain⟨i,b,e⟩:=nh h;have a:i<n/\i<l.length:=by rw[g9] at b;exact Nat.lt_min.mp b
 refine⟨i,a.1,?_⟩;rw[←e,Og];exact bV _
theorem Sl{l:List Keyed}{i:Nat}{x:Keyed}(h:l[i]?=some x):l.drop i=x::l.drop (i+1):=by
 obtain⟨a,rfl⟩:=db.mp h;exact lN a
theorem RI(l:List Keyed)(i k:Nat):l.drop i=(l.drop i).take k++l.drop (i+k):=by
 rw[←CD,j9]
structure sj (R:Keyed->Nat) (la lb:List Keyed):Prop where
 oa:Ord R la
 ob:Ord R lb
 last:∀x,la[la.length-1]?=some x->∀y∈lb,R y<=R x
def Fin(R:Keyed->Nat) (a b:List Keyed) (r:Array Keyed):Prop:=r.toList.Perm (a++b)/\Ord R r.toList
section
variable {la:List Keyed}{lb:List Keyed}{out:Array Keyed}{ia:Nat}{ib:Nat}
theorem ML.pushB{R:Keyed->Nat}{a:List Keyed}(T:sj R la lb)(m:ML R a out.toList (la.drop ia++lb.drop ib)){y:Keyed}(b:lb[ib]?=some y)(h:∀z∈la.drop ia,R y<=R z):ML R a (out.push y).toList (la.drop ia++lb.drop (ib+1)):=by
 rw[mZ];refine m.grow ?_ (ON _ _) λx c z hz=>?_
 ·rw[Sl b];exact N9
 ·simp at c;subst c
  rcases dk.mp hz with hz|hz
  ·exact h z hz
  ·obtain⟨j,d,e⟩:=nR hz;exact T.ob.at b e (jB d)
end
section
variable {w:World}{la:List Keyed}{lb:List Keyed}{out:Array Keyed}{ia:Nat}{ib:Nat}
theorem ML.pushA{R:Keyed->Nat}{a:List Keyed}(T:sj R la lb)(m:ML R a out.toList (la.drop ia++lb.drop ib)){x:Keyed}(b:la[ia]?=some x)(h:∀z∈lb.drop ib,R x<=R z):ML R a (out.push x).toList (la.drop (ia+1)++lb.drop ib):=by
 rw[mZ];refine m.grow ?_ (ON _ _) λw c z hz=>?_
 ·rw[Sl b];exact .refl _
 ·simp at c;subst c
  rcases dk.mp hz with hz|hz
  ·obtain⟨j,d,e⟩:=nR hz;exact T.oa.at b e (jB d)
  ·exact h z hz
end
theorem ky(a:Array Keyed)(i j:Nat):(a.extract i j).toList=(a.toList.drop i).take (j-i):=by
 rw[OC,List.extract_eq_take_drop]
theorem AV(a:Array Keyed)(i:Nat):(a.extract i).toList=a.toList.drop i:=by
 rw[ky];exact ka (by simp)
theorem im{a:Array Keyed}(h:a.toList[i]?=some x):kA R a i=R x:=iP (by rw[←gU];exact h)
section
variable {a:Array Keyed}{b:Array Keyed}{out:Array Keyed}{ia:Nat}{ib:Nat}{k:Nat}
theorem ML.galA(T:sj R a.toList b.toList)(m:ML R all out.toList (a.toList.drop ia++b.toList.drop ib))(n:b.toList[ib]?=some y)(c:nv false R y a ia (a.size-ia) k):ML R all (out++a.extract ia (ia+k)).toList (a.toList.drop (ia+k)++b.toList.drop ib)/\∀z∈a.toList.drop (ia+k),R y<=R z:=by
 have up:∀z∈a.toList.drop (ia+k),R y<=R z:=λz f=>by
  obtain⟨j,d,e⟩:=nR f;have i:j<a.size:=by have:=(db.mp e).1;simpa using this
  have l:=ay (ft _ _) d;have:=c.2.2 (j-ia) (pO d) (om l i);rw[gS l,im e] at this;exact dj this
 have g:∀z∈(a.toList.drop ia).take k,R z<=R y:=λz f=>by
  obtain⟨j,d,e⟩:=zu f;rw[oj] at e;have:=c.2.1 j d;rw[im e] at this;exact this
 refine⟨?_,up⟩;rw[kO,ky,lM];refine m.grow ?_ ((T.oa.drop ia).take k) λz f v hv=>?_
 ·conv=>lhs;rw[RI a.toList ia k]
  rw[ff]
 ·rcases dk.mp hv with hv|hv
  ·exact ay (g z f) (up v hv)
  ·obtain⟨j,d,e⟩:=nR hv;exact ay (g z f) (T.ob.at n e d)
theorem ML.galB(T:sj R a.toList b.toList)(m:ML R all out.toList (a.toList.drop ia++b.toList.drop ib))(n:a.toList[ia]?=some x)(c:nv true R x b ib (b.size-ib) k):ML R all (out++b.extract ib (ib+k)).toList (a.toList.drop ia++b.toList.drop (ib+k))/\∀z∈b.toList.drop (ib+k),R x<=R z:=by
 have up:∀z∈b.toList.drop (ib+k),R x<=R z:=λz f=>by
  obtain⟨j,d,e⟩:=nR f;have i:j<b.size:=by have:=(db.mp e).1;simpa using this
  have l:=ay (ft _ _) d;have:=c.2.2 (j-ib) (pO d) (om l i);rw[gS l,im e] at this;exact this
 have g:∀z∈(b.toList.drop ib).take k,R z<=R x:=λz f=>by
  obtain⟨j,d,e⟩:=zu f;rw[oj] at e;have:=c.2.1 j d;rw[im e] at this;exact dj this
 refine⟨?_,up⟩;rw[kO,ky,lM];refine m.grow ?_ ((T.ob.drop ib).take k) λz f v hv=>?_
 ·conv=>lhs;rw[RI b.toList ib k]
  rw[←ff,←ff];exact Da _ yx
 ·rcases dk.mp hv with hv|hv
  ·obtain⟨j,d,e⟩:=nR hv;exact ay (g z f) (T.oa.at n e d)
  ·exact ay (g z f) (up v hv)
end
theorem ML.done{a:Array Keyed}{b:Array Keyed}{c:Array Keyed}{e:Nat}{d:Nat}(T:sj R a.toList b.toList)(m:ML R (a.toList++b.toList) c.toList (a.toList.drop e++b.toList.drop d))(h:e=a.size\/d=b.size):Fin R a.toList b.toList (c++a.extract e++b.extract d):=by
 unfold Fin;rw[kO,kO,AV,AV,ff];refine m.fin (.refl _) ?_;rcases h with rfl|rfl
 ·rw[C9 (by simp),N3];exact T.ob.drop _
 ·rw[C9 (as:=b.toList) (by simp),jA];exact T.oa.drop _
theorem ML.lastA{a:Array Keyed}{b:Array Keyed}{c:Array Keyed}{d:Nat}{g:Nat}(T:sj R a.toList b.toList)(m:ML R (a.toList++b.toList) c.toList (a.toList.drop d++b.toList.drop g))(h:d+1=a.size):Fin R a.toList b.toList (c++b.extract g++a.extract d):=by
 unfold Fin;rw[kO,kO,AV,AV,ff];refine m.fin yx (rF.mpr ⟨T.ob.drop _,T.oa.drop _,λv k z l=>?_⟩);obtain⟨j,i,e⟩:=nR l;have f:j<a.size:=by have:=(db.mp e).1;simpa using this
 have:j=a.toList.length-1:=j7 (kP (by rw[fZ];exact f)) (by rw[fZ,←h];exact i);subst this;exact T.last z e v (pM k)
noncomputable def yO:Nat->StateT SortSt Sem Unit:=sortPriv% PySem.Builtin.setMinGallop
section
variable {prog:Program}{w:World}{A:Around}{E:Value->Shared->Prop}{s:Shared}
theorem AL{g:Nat}{au:SortSt}{Q:Unit->SortSt->Prop}(h:∀a,je au a->Q () a):wpS (model prog w) A E s (yO g) Q au:=
 l9 (h _ ⟨rfl,rfl,rfl,rfl⟩)
end
section
variable {prog:Program}{w:World}{A:Around}{E:Value->Shared->Prop}{s:Shared}{y:Keyed}{x:Keyed}
theorem vC{a:Type}{K:Nat->StateT SortSt Sem a}{Q:a->SortSt->Prop}{au:SortSt}(h:∀v,wpS (model prog w) A E s (K v) Q au):∀y x:Nat,wpS (model prog w) A E s (if y > 1 then K x else K y) Q au:=λy x=>by
 by_cases e:y > 1
 ·rw[if_pos e];exact h x
 ·rw[if_neg e];exact h y
end
section
variable {prog:Program}{w:World}{A:Around}{E:Value->Shared->Prop}{s:Shared}
theorem vA{f:Type}{c a:Prop}[Decidable c][Decidable a]{X Y b:StateT SortSt Sem f}{Q:f->SortSt->Prop}{au:SortSt}(g:¬c->b=Y)(h:c->a->wpS (model prog w) A E s X Q au)(d:(c->¬a)->wpS (model prog w) A E s Y Q au):wpS (model prog w) A E s (if c then(if a then X else Y) else b) Q au:=by
 by_cases e:c
 ·rw[if_pos e];by_cases e2:a
  ·rw[if_pos e2];exact h e e2
  ·rw[if_neg e2];exact d λ_=>e2
 ·rw[if_neg e,g e];exact d λz=>absurd z e
theorem wD{h:Type}{c a b:Prop}[Decidable c][Decidable a][Decidable b]{X f Y d:StateT SortSt Sem h}{Q:h->SortSt->Prop}{au:SortSt}(i:¬c->d=Y)(k:c->a->wpS (model prog w) A E s X Q au)(j:c->b->wpS (model prog w) A E s f Q au)(g:(c->¬a/\¬b)->wpS (model prog w) A E s Y Q au):wpS (model prog w) A E s (if c then(if a then X else if b then f else Y) else d) Q au:=by
 by_cases e:c
 ·rw[if_pos e];by_cases e2:a
  ·rw[if_pos e2];exact k e e2
  ·rw[if_neg e2];by_cases e3:b
   ·rw[if_pos e3];exact j e e3
   ·rw[if_neg e3];exact g λ_=>⟨e2,e3⟩
 ·rw[if_neg e,i e];exact g λz=>absurd z e
theorem vB{d:Type}{c a:Prop}[Decidable c][Decidable a]{X b Y:StateT SortSt Sem d}{Q:d->SortSt->Prop}{au:SortSt}(h:c->wpS (model prog w) A E s X Q au)(f:a->wpS (model prog w) A E s b Q au)(g:¬c->¬a->wpS (model prog w) A E s Y Q au):wpS (model prog w) A E s (if c then X else if a then b else Y) Q au:=by
 by_cases e:c
 ·rw[if_pos e];exact h e
 ·rw[if_neg e];by_cases e2:a
  ·rw[if_pos e2];exact f e2
  ·rw[if_neg e2];exact g e e2
theorem fy{a:Type}{c:Prop}[Decidable c]{X Y:StateT SortSt Sem a}{Q:a->SortSt->Prop}{au:SortSt}(b:c->wpS (model prog w) A E s X Q au)(d:¬c->wpS (model prog w) A E s Y Q au):wpS (model prog w) A E s (if c then X else Y) Q au:=by
 by_cases e:c
 ·rw[if_pos e];exact b e
 ·rw[if_neg e];exact d e
theorem eM{b:Type}{a:Array Keyed}{i:Nat}{x:Keyed}{f:Keyed->StateT SortSt Sem b}{Q:b->SortSt->Prop}{au:SortSt}(e:a[i]?=some x)(h:wpS (model prog w) A E s (f x) Q au):wpS (model prog w) A E s (elem' a i >>= f) Q au:=bh (o5 e h)
end
section
variable {prog:Program}{w:World}{A:Around}{E:Value->Shared->Prop}{s:Shared}{κ:SortKind}{a₀:Array Keyed}{R:Keyed->Nat}
theorem wE{a:Type}{x y:Keyed}{f:Option Bool->StateT SortSt Sem a}{Q:a->SortSt->Prop}{au:SortSt}(O:kt prog w A s κ a₀ R)(e:kindOf au=κ)(g:x∈a₀.toList)(b:y∈a₀.toList)(h:R x<R y->wpS (model prog w) A E s (f (some true)) Q au)(d:R y<=R x->wpS (model prog w) A E s (f (some false)) Q au):wpS (model prog w) A E s (lt' x y >>= f) Q au:=by
 refine bh (w_lt O e g b ?_);by_cases c:R x<R y
 ·rw[cI c];exact h c
 ·rw[cO c];exact d (fG c)
end
inductive Dn {β:Type}(R:Keyed->Nat) (a b:Array Keyed) (au:SortSt):Option (Array Keyed)×β->SortSt->Prop where
 |mk {r:Array Keyed}{z:β}{st':SortSt}(sm:je au st') (f:Fin R a.toList b.toList r):Dn R a b au (some r,z) st'
section
variable {out:Array Keyed}{ia:Nat}{ib:Nat}
inductive L1 (R:Keyed->Nat) (a b:Array Keyed) (au:SortSt) (x:Nat):Option (Array Keyed)×Array Keyed×Nat×Nat×Nat->SortSt->Prop where
 |mk {out:Array Keyed}{ia ib g:Nat}{st':SortSt}(sm:je au st') (m:ML R (a.toList++b.toList) out.toList (a.toList.drop ia++b.toList.drop ib)) (ha:ia+1<a.size) (hb:ib<b.size) (hx:x<ia+ib):L1 R a b au x (none,out,ia,ib,g) st'
inductive PN (R:Keyed->Nat) (a b:Array Keyed) (au:SortSt) (x:Nat):Option (Array Keyed)×Array Keyed×Nat×Nat×Nat×Nat->SortSt->Prop where
 |mk {out:Array Keyed}{ia ib ac bc:Nat}{st':SortSt}(sm:je au st') (m:ML R (a.toList++b.toList) out.toList (a.toList.drop ia++b.toList.drop ib)) (ha:ia+1<a.size) (hb:ib<b.size) (hx:x<=ia+ib):PN R a b au x (none,out,ia,ib,ac,bc) st'
inductive L3 (R:Keyed->Nat) (a b:Array Keyed) (au:SortSt) (x:Nat):Option (Array Keyed)×Array Keyed×Nat×Nat×Nat×Nat×Nat->SortSt->Prop where
 |mk {out:Array Keyed}{ia ib g ac bc:Nat}{st':SortSt}(sm:je au st') (m:ML R (a.toList++b.toList) out.toList (a.toList.drop ia++b.toList.drop ib)) (ha:ia+1<a.size) (hb:ib<b.size) (hx:x<=ia+ib):L3 R a b au x (none,out,ia,ib,g,ac,bc) st'
end
section
variable {prog:Program}{w:World}{A:Around}{E:Value->Shared->Prop}{s:Shared}{κ:SortKind}{a₀:Array Keyed}{R:Keyed->Nat}{a:Array Keyed}{b:Array Keyed}{out:Array Keyed}{ia:Nat}{ib:Nat}{k:Nat}{y:Keyed}{x:Keyed}
theorem Tq{au:SortSt}{Q:Array Keyed->SortSt->Prop}(O:kt prog w A s κ a₀ R)(hk:kindOf au=κ)(ma:∀x∈a.toList,x∈a₀.toList)(mb:∀x∈b.toList,x∈a₀.toList)(T:sj R a.toList b.toList)(ha:1<=a.size)(hb:1<=b.size)
  (b6:∀y,b.toList[0]?=some y->∀x∈a.toList,R y<=R x)(h:∀r C,je au C->Fin R a.toList b.toList r->Q r C):wpS (model prog w) A E s (mE a b) Q au:=by
 have u:∀(i:Nat) (J:i<a.size),a[i]?=some a[i]/\a.toList[i]?=some a[i]/\a[i]∈a₀.toList:=λi J=>⟨getElem?_pos a i J,by rw[gU];exact getElem?_pos a i J,ma _ (by simp)⟩
 have o:∀(i:Nat) (J:i<b.size),b[i]?=some b[i]/\b.toList[i]?=some b[i]/\b[i]∈a₀.toList:=λi J=>⟨getElem?_pos b i J,by rw[gU];exact getElem?_pos b i J,mb _ (by simp)⟩
 have b9:∀i,eP R a i (i+(a.size-i)):=λi p q a1 a2 a3=>by
  have hq:q<a.size:=by lia
  have e1:=(u p (by lia)).2.1;have e2:=(u q hq).2.1;rw[im e1,im e2];exact T.oa.at e1 e2 a2
 have b7:∀i,eP R b i (i+(b.size-i)):=λi p q a1 a2 a3=>by
  have hq:q<b.size:=by lia
  have e1:=(o p (by lia)).2.1;have e2:=(o q hq).2.1;rw[im e1,im e2];exact T.ob.at e1 e2 a2
 obtain⟨y0,f0,f1⟩:∃x,b[0]?=some x/\b.toList[0]?=some x:=⟨_,(o 0 hb).1,(o 0 hb).2.1⟩
 have start:ML R (a.toList++b.toList) (#[y0]:Array Keyed).toList (a.toList.drop 0++b.toList.drop 1):=by
  have z:ML R (a.toList++b.toList) (#[]:Array Keyed).toList (a.toList.drop 0++b.toList.drop 0):=⟨by simp,List.Pairwise.nil,by simp⟩
  exact z.pushB T f1 λx hx=>b6 y0 f1 x (pM hx)
 refine bh (pr (nZ ⟨rfl,bh (o5 f0 (vB (λc1=>?_) (λc2=>?_) λc1 c2=>?_))⟩))
 ·exact bn (h _ _ (.refl _) (start.done T (.inr (by simpa using c1))))
 ·exact bn (h _ _ (.refl _) (start.lastA T (by simpa using c2)))
 simp only[md] at c1 c2;refine bh (kJ ?_);refine bh (iR (iu (I:=L1 R a b au) (Q:=Dn R a b au) ?_ ?_ (.mk (.refl _) start (by lia) (by lia) (by lia))) ?_)
 ·rintro x c a0 x1 x2 @⟨out,ia,ib,g,a0,a5,m,b4,b3,hx⟩;dsimp only;refine bh (iR (iu (I:=λ_=>PN R a b au (ia+ib)) (Q:=λc C=>Dn R a b au c C\/PN R a b au (ia+ib) c C) ?_ ?_ (.mk a5 m b4 b3 (br _))) ?_)
  ·rintro x' c a4 _ _ @⟨out,l,ib',ac,bc,a4,t,m,n,d,hp⟩;dsimp only;have ea:=(u l (oh n)).1;have H:=(u l (oh n)).2.1;have a6:=(u l (oh n)).2.2;have eb:=(o ib' d).1;have P:=(o ib' d).2.1;have a8:=(o ib' d).2.2;refine eM eb (eM ea (wE O (t.kind.trans hk) a8 a6 (λcw=>eM eb ?_) λcw=>eM ea ?_))
   ·skip
    have m2:=m.pushB T P λz hz=>by
     obtain⟨j,hj,e⟩:=nR hz;exact ay (dj cw) (T.oa.at H e hj)
    refine fy (λc5=>bn (.inl (.mk t (m2.done T (.inr (eq_of_beq c5)))))) λc5=>?_
    rw[md] at c5;have b1:ib'+1<b.size:=jD d c5;have U:ia+ib<=l+(ib'+1):=oi hp;exact fy (λ_=>bn (.inr (.mk t m2 n b1 U))) λ_=>bn (.mk t m2 n b1 U)
   ·skip
    have m2:=m.pushA T H λz hz=>by
     obtain⟨j,hj,e⟩:=nR hz;exact ay cw (T.ob.at P e hj)
    refine fy (λc5=>bn (.inl (.mk t (m2.lastA T (eq_of_beq c5))))) λc5=>?_
    rw[md] at c5;have b2:l+1+1<a.size:=jD n c5;have U:ia+ib<=l+1+ib':=Nat.succ_add l ib' ▸ oi hp
    exact fy (λ_=>bn (.inr (.mk t m2 b2 d U))) λ_=>bn (.mk t m2 b2 d U)
  ·exact λc a4 k=>.inr k
  ·rintro c a4 (⟨t,f⟩|@⟨out,l,ib',ac,bc,a4,t,m,n,d,hp⟩)
   ·exact bn (.mk t f)
   ·dsimp only;refine bh (pr (nZ ⟨rfl,?_⟩));refine bh (iR (iu (I:=λx'=>L3 R a b au (ia+ib+x')) (Q:=λc C=>Dn R a b au c C\/L3 R a b au (ia+ib+1) c C) ?_ ?_ (.mk t m n d hp)) ?_)
    ·rintro x' c a7 _ c3 @⟨out,l,ib',g',ac,bc,a7,G,m,n,d,hp⟩;dsimp only;have eb:=(o ib' d).1;have P:=(o ib' d).2.1;have a8:=(o ib' d).2.2;generalize g'-1=g1;generalize g'=y;revert g1;revert y
     refine vC ?_;intro gg;refine bh (AL λb8 sg=>?_);have v:=G.trans sg;refine eM eb (bh (sW O (v.kind.trans hk) a8 (λi J=>⟨_,(u (l+i) (nj J)).1,(u (l+i) (nj J)).2.2⟩) (pI (oh n)) (b9 l) λk1 Y=>?_));have m5:=(m.galA T P Y).1;have u5:=(m.galA T P Y).2;have d0:=Y.1;dsimp only;refine wD (λc6=>?_) (λc6 c7=>?_) (λc6 c8=>?_) λhh=>?_
     ·have z:k1=0:=Nat.le_zero.mp (fG c6);subst z;simp only[tL,OS (rx _ _),Oq]
     ·exact bn (.inl (.mk v (m5.lastA T (eq_of_beq c7))))
     ·exact bn (.inl (.mk v (m5.done T (.inl (eq_of_beq c8)))))
     have S:l+k1+1<a.size:=by
      by_cases c6:k1 > 0
      ·have:=hh c6;simp at this;lia
      ·lia
     have c0:ia+ib+x'<=l+k1+ib':=ay hp (Nat.add_le_add_right (ft _ _) _);clear hh;generalize l+k1=ia5 at m5 u5 S c0 ⊢;generalize out++a.extract l ia5=out5 at m5 ⊢;have m6:=m5.pushB T P u5;have ea:=(u _ (oh S)).1;have H:=(u _ (oh S)).2.1;have a6:=(u _ (oh S)).2.2;refine eM eb (fy (λc9=>bn (.inl (.mk v (m6.done T (.inr (eq_of_beq c9)))))) λc9=>eM ea ?_);rw[md] at c9;refine bh (sW O (v.kind.trans hk) a6 (λi J=>⟨_,(o (ib'+1+i) (nj J)).1,(o (ib'+1+i) (nj J)).2.2⟩) (pI (jD d c9)) (b7 (ib'+1)) λk2 X=>?_);have m7:=(m6.galB T H X).1;have u7:=(m6.galB T H X).2;have d1:=X.1;dsimp only;refine vA (λd6=>?_) (λd6 d7=>?_) λhh=>?_
     ·have z2:k2=0:=Nat.le_zero.mp (fG d6);subst z2;simp only[tL,OS (rx _ _),Oq]
     ·exact bn (.inl (.mk v (m7.done T (.inr (eq_of_beq d7)))))
     have c4:ib'+1+k2≠b.size:=by
      by_cases d6:k2 > 0
      ·have:=hh d6;simp at this;lia
      ·lia
     have m8:=m7.pushA T H u7;refine eM ea (fy (λd8=>bn (.inl (.mk v (m8.lastA T (eq_of_beq d8))))) λd8=>?_);rw[md] at d8;have a9:ia5+1+1<a.size:=jD S d8;have b5:ib'+1+k2<b.size:=by lia
     have b0:ia+ib+(x'+1)<=ia5+1+(ib'+1+k2):=by lia
     exact fy (λ_=>bn (.inr (.mk v m8 a9 b5 (ay (hD (N4 1 x') _) b0)))) λ_=>bn (.mk v m8 a9 b5 b0)
    ·rintro c a7 ⟨G,m,n,d,hp⟩;exact .inr (.mk G m n d (by lia))
    ·rintro c a7 (⟨G,f⟩|⟨G,m,n,d,hp⟩)
     ·exact bn (.mk G f)
     ·exact bh (AL λb8 sg=>bn (.mk (G.trans sg) m n d (da (Nat.succ_lt_succ hx) hp)))
 ·rintro c a0 ⟨a5,m,b4,b3,hx⟩;lia
 ·rintro c a0 ⟨a5,f⟩;exact bn (h _ a0 a5 f)
end
structure MH (R:Keyed->Nat) (all out rest:List Keyed):Prop where
 perm:(rest++out.reverse).Perm all
 ord:Ord R out.reverse
 le:∀x∈rest,∀y∈out,R x<=R y
theorem MH.grow{a c:List Keyed}(m:MH R all out a)(p:a.Perm (rest'++c.reverse))(o:Ord R c.reverse)(h:∀x∈rest',∀y∈c,R x<=R y):MH R all (out++c) rest':=by
 refine⟨?_,?_,λx b y hy=>?_⟩
 ·rw[List.reverse_append,←ff];exact(Da _ p.symm).trans m.perm
 ·rw[List.reverse_append];exact rF.mpr ⟨o,m.ord,λx b y hy=>m.le x (p.mem_iff.mpr (lK _ b)) y (CL.mp hy)⟩
 ·rcases dk.mp hy with hy|hy
  ·exact m.le x (p.mem_iff.mpr (ub _ b)) y hy
  ·exact h x b y hy
theorem MH.fin{b a:List Keyed}(m:MH R all out b)(p:a.Perm b)(o:Ord R a):(a++out.reverse).Perm all/\Ord R (a++out.reverse):=
 ⟨(Da _ p).trans m.perm,rF.mpr ⟨o,m.ord,λx d y c=>m.le x (p.mem_iff.mp d) y (CL.mp c)⟩⟩
theorem Ss{l:List Keyed}{i:Nat}{x:Keyed}(h:l[i]?=some x):l.take (i+1)=l.take i++[x]:=by
 obtain⟨a,rfl⟩:=db.mp h;exact OV a
structure jQ (R:Keyed->Nat) (la lb:List Keyed):Prop where
 oa:Ord R la
 ob:Ord R lb
 first:∀y,lb[0]?=some y->∀x∈la,R y<=R x
section
variable {R:Keyed->Nat}{la:List Keyed}{lb:List Keyed}{all:List Keyed}{out:Array Keyed}{na:Nat}{nb:Nat}
theorem MH.pushB(T:jQ R la lb)(m:MH R all out.toList (la.take na++lb.take (nb+1))){y:Keyed}(b:lb[nb]?=some y)(h:∀z∈la.take na,R z<=R y):MH R all (out.push y).toList (la.take na++lb.take nb):=by
 rw[mZ];refine m.grow ?_ (by simp) λz hz w a=>?_
 ·rw[Ss b];simp
 ·simp at a;subst a
  rcases dk.mp hz with hz|hz
  ·exact h z hz
  ·obtain⟨j,c,e⟩:=zu hz;exact T.ob.at e b (by lia)
theorem MH.pushA(T:jQ R la lb)(m:MH R all out.toList (la.take (na+1)++lb.take nb)){x:Keyed}(a:la[na]?=some x)(h:∀z∈lb.take nb,R z<=R x):MH R all (out.push x).toList (la.take na++lb.take nb):=by
 rw[mZ];refine m.grow ?_ (by simp) λz hz w b=>?_
 ·rw[Ss a];simp only[List.reverse_singleton,ff];exact ud _ yx
 ·simp at b;subst b
  rcases dk.mp hz with hz|hz
  ·obtain⟨j,c,e⟩:=zu hz;exact T.oa.at e a (by lia)
  ·exact h z hz
end
theorem P7(l:List Keyed) (h:k<=n):l.take n=l.take k++(l.drop k).take (n-k):=by
 conv=>lhs;rw[show n=k+(n-k) by lia,List.take_add]
section
variable {a:Array Keyed}{b:Array Keyed}{out:Array Keyed}{na:Nat}{nb:Nat}{k:Nat}
theorem MH.galA(T:jQ R a.toList b.toList)(m:MH R all out.toList (a.toList.take na++b.toList.take (nb+1)))(i:b.toList[nb]?=some y)(l:na<=a.size)(c:nv false R y a 0 na k):MH R all (out++(a.extract k na).reverse).toList (a.toList.take k++b.toList.take (nb+1))/\∀z∈a.toList.take k,R z<=R y:=by
 have f:∀z∈a.toList.take k,R z<=R y:=λz d=>by
  obtain⟨j,h,e⟩:=zu d;have:=c.2.1 j h;rw[iS,im e] at this;exact this
 have up:∀z∈(a.toList.drop k).take (na-k),R y<=R z:=λz d=>by
  obtain⟨j,h,e⟩:=zu d;rw[oj] at e;have:=c.2.2 (k+j) (by lia) (by lia);rw[iS,im e] at this;exact dj this
 refine⟨?_,f⟩;rw[kO,C5,ky];refine m.grow ?_ (by rw[C4];exact(T.oa.drop k).take _) λv hv z d=>?_
 ·rw[C4,P7 a.toList c.1,ff,ff];exact ud _ yx
 ·have d:=up z (CL.mp d);rcases dk.mp hv with hv|hv
  ·exact ay (f v hv) d
  ·obtain⟨j,h,e⟩:=zu hv;exact ay (T.ob.at e i (by lia)) d
theorem MH.galB(T:jQ R a.toList b.toList)(m:MH R all out.toList (a.toList.take (na+1)++b.toList.take nb))(i:a.toList[na]?=some x)(l:nb<=b.size)(c:nv true R x b 0 nb k):MH R all (out++(b.extract k nb).reverse).toList (a.toList.take (na+1)++b.toList.take k)/\∀z∈b.toList.take k,R z<=R x:=by
 have f:∀z∈b.toList.take k,R z<=R x:=λz d=>by
  obtain⟨j,h,e⟩:=zu d;have:=c.2.1 j h;rw[iS,im e] at this;exact dj this
 have up:∀z∈(b.toList.drop k).take (nb-k),R x<=R z:=λz d=>by
  obtain⟨j,h,e⟩:=zu d;rw[oj] at e;have:=c.2.2 (k+j) (by lia) (by lia);rw[iS,im e] at this;exact this
 refine⟨?_,f⟩;rw[kO,C5,ky];refine m.grow ?_ (by rw[C4];exact(T.ob.drop k).take _) λv hv z d=>?_
 ·rw[C4,P7 b.toList c.1,ff]
 ·have d:=up z (CL.mp d);rcases dk.mp hv with hv|hv
  ·obtain⟨j,h,e⟩:=zu hv;exact ay (T.oa.at e i (by lia)) d
  ·exact ay (f v hv) d
end
theorem BE(a:Array Keyed)(n:Nat):(a.extract 0 n).toList=a.toList.take n:=by
 rw[ky,List.drop_zero,Nat.sub_zero]
theorem MH.done{a:Array Keyed}{b:Array Keyed}{c:Array Keyed}{d:Nat}{nb:Nat}(T:jQ R a.toList b.toList)(m:MH R (a.toList++b.toList) c.toList (a.toList.take d++b.toList.take nb))(h:d=0\/nb=0):Fin R a.toList b.toList (a.extract 0 d++b.extract 0 nb++c.reverse):=by
 unfold Fin;rw[kO,kO,BE,BE,C5];refine m.fin (.refl _) ?_;rcases h with rfl|rfl
 ·rw[CC,N3];exact T.ob.take _
 ·rw[CC,jA];exact T.oa.take _
theorem MH.firstB{a:Array Keyed}{b:Array Keyed}{c:Array Keyed}{d:Nat}{nb:Nat}(T:jQ R a.toList b.toList)(m:MH R (a.toList++b.toList) c.toList (a.toList.take d++b.toList.take nb))(h:nb=1):Fin R a.toList b.toList (b.extract 0 nb++a.extract 0 d++c.reverse):=by
 unfold Fin;rw[kO,kO,BE,BE,C5];refine m.fin yx (rF.mpr ⟨T.ob.take _,T.oa.take _,λv f z g=>?_⟩);obtain⟨j,i,e⟩:=zu f;have:j=0:=by lia
 subst this;exact T.first v e z (ml g)
section
variable {out:Array Keyed}{na:Nat}{nb:Nat}
inductive H1 (R:Keyed->Nat) (a b:Array Keyed) (au:SortSt) (x:Nat):Option (Array Keyed)×Nat×Nat×Array Keyed×Nat->SortSt->Prop where
 |mk {na nb:Nat}{out:Array Keyed}{g:Nat}{st':SortSt}(sm:je au st') (m:MH R (a.toList++b.toList) out.toList (a.toList.take na++b.toList.take nb)) (a1:1<=na) (a2:na<=a.size) (b1:2<=nb) (b2:nb<=b.size) (hx:x+na+nb<a.size+b.size):H1 R a b au x (none,na,nb,out,g) st'
inductive H2 (R:Keyed->Nat) (a b:Array Keyed) (au:SortSt) (x:Nat):Option (Array Keyed)×Nat×Nat×Array Keyed×Nat×Nat->SortSt->Prop where
 |mk {na nb:Nat}{out:Array Keyed}{ac bc:Nat}{st':SortSt}(sm:je au st') (m:MH R (a.toList++b.toList) out.toList (a.toList.take na++b.toList.take nb)) (a1:1<=na) (a2:na<=a.size) (b1:2<=nb) (b2:nb<=b.size) (hx:na+nb<=x):H2 R a b au x (none,na,nb,out,ac,bc) st'
inductive H3 (R:Keyed->Nat) (a b:Array Keyed) (au:SortSt) (x y:Nat):Option (Array Keyed)×Nat×Nat×Array Keyed×Nat×Nat×Nat->SortSt->Prop where
 |mk {na nb:Nat}{out:Array Keyed}{g ac bc:Nat}{st':SortSt}(sm:je au st') (m:MH R (a.toList++b.toList) out.toList (a.toList.take na++b.toList.take nb)) (a1:1<=na) (a2:na<=a.size) (b1:2<=nb) (b2:nb<=b.size) (hx:y+na+nb<=x):H3 R a b au x y (none,na,nb,out,g,ac,bc) st'
end
section
variable {prog:Program}{w:World}{A:Around}{E:Value->Shared->Prop}{s:Shared}{κ:SortKind}{a₀:Array Keyed}{R:Keyed->Nat}{a:Array Keyed}{b:Array Keyed}{out:Array Keyed}{na:Nat}{nb:Nat}{k:Nat}{y:Keyed}{x:Keyed}
theorem Tp{au:SortSt}{Q:Array Keyed->SortSt->Prop}(O:kt prog w A s κ a₀ R)(hk:kindOf au=κ)(ma:∀x∈a.toList,x∈a₀.toList)(mb:∀x∈b.toList,x∈a₀.toList)(T:jQ R a.toList b.toList)(ha:1<=a.size)(hb:1<=b.size)
  (c3:∀x,a.toList[a.size-1]?=some x->∀y∈b.toList,R y<=R x)(h:∀r C,je au C->Fin R a.toList b.toList r->Q r C):wpS (model prog w) A E s (mF a b) Q au:=by
 have d:∀(i:Nat) (hi:i<a.size),a[i]?=some a[i]/\a.toList[i]?=some a[i]/\a[i]∈a₀.toList:=λi hi=>⟨getElem?_pos a i hi,by rw[gU];exact getElem?_pos a i hi,ma _ (by simp)⟩
 have o:∀(i:Nat) (hi:i<b.size),b[i]?=some b[i]/\b.toList[i]?=some b[i]/\b[i]∈a₀.toList:=λi hi=>⟨getElem?_pos b i hi,by rw[gU];exact getElem?_pos b i hi,mb _ (by simp)⟩
 have b9:∀n,n<=a.size->eP R a 0 (0+n):=λn hn p q a1 a2 Y=>by
  have hq:q<a.size:=da Y (ay (gQ (iS n)) hn);have e1:=(d p (jl a2 hq)).2.1;have e2:=(d q hq).2.1;rw[im e1,im e2];exact T.oa.at e1 e2 a2
 have b7:∀n,n<=b.size->eP R b 0 (0+n):=λn hn p q a1 a2 Y=>by
  have hq:q<b.size:=da Y (ay (gQ (iS n)) hn);have e1:=(o p (jl a2 hq)).2.1;have e2:=(o q hq).2.1;rw[im e1,im e2];exact T.ob.at e1 e2 a2
 obtain⟨x0,f0,f1⟩:∃x,a[a.size-1]?=some x/\a.toList[a.size-1]?=some x:=⟨_,(d (a.size-1) (n0 ha Nat.one_pos)).1,(d (a.size-1) (n0 ha Nat.one_pos)).2.1⟩
 have start:MH R (a.toList++b.toList) (#[x0]:Array Keyed).toList (a.toList.take (a.size-1)++b.toList.take b.size):=by
  have z:MH R (a.toList++b.toList) (#[]:Array Keyed).toList (a.toList.take (a.size-1+1)++b.toList.take b.size):=by
   refine⟨?_,List.Pairwise.nil,by simp⟩;rw[tW ha,ka (by simp),ka (by simp)];simp
  exact z.pushA T f1 λy hy=>c3 x0 f1 y (ml hy)
 refine bh (pr (nZ ⟨rfl,bh (o5 f0 (vB (λc1=>?_) (λc2=>?_) λc1 c2=>?_))⟩))
 ·exact bn (h _ _ (.refl _) (start.done T (.inl (by simpa using c1))))
 ·exact bn (h _ _ (.refl _) (start.firstB T (by simpa using c2)))
 simp only[md] at c1 c2;refine bh (kJ ?_);refine bh (iR (iu (I:=H1 R a b au) (Q:=Dn R a b au) ?_ ?_ (.mk (.refl _) start (by lia) (by lia) (by lia) (br _) (by lia))) ?_)
 ·rintro x c a7 x1 x2 @⟨na,nb,out,g,a7,b0,m,a1,a2,b1,b2,hx⟩;dsimp only;refine bh (iR (iu (I:=λ_=>H2 R a b au (na+nb)) (Q:=λc C=>Dn R a b au c C\/H2 R a b au (na+nb) c C) ?_ ?_ (.mk b0 m a1 a2 b1 b2 (br _))) ?_)
  ·rintro x' c a9 _ _ @⟨na',G,out,ac,bc,a9,l,m,U,v,X,t,hp⟩;obtain⟨p,rfl⟩:∃p,na'=p+1:=⟨na'-1,(tW U).symm⟩
   obtain⟨q,rfl⟩:∃q,G=q+1:=⟨G-1,(tW (jB X)).symm⟩
   dsimp only;have ea:=(d p v).1;have P:=(d p v).2.1;have b3:=(d p v).2.2;have eb:=(o q t).1;have S:=(o q t).2.1;have b4:=(o q t).2.2;refine eM eb (eM ea (wE O (l.kind.trans hk) b4 b3 (λcw=>eM ea ?_) λcw=>eM eb ?_))
   ·skip
    have m2:=m.pushA T P λz hz=>by
     obtain⟨j,hj,e⟩:=zu hz;exact ay (T.ob.at e S (h7 hj)) (dj cw)
    refine fy (λc5=>bn (.inl (.mk l (m2.done T (.inl (eq_of_beq c5)))))) λc5=>?_
    rw[md] at c5;have Y:1<=p:=Op c5;have a4:p<=a.size:=jB v;have a5:p+(q+1)<=na+nb:=ay (Nat.add_le_add_right (tJ p) _) hp;exact fy (λ_=>bn (.inr (.mk l m2 Y a4 X t a5))) λ_=>bn (.mk l m2 Y a4 X t a5)
   ·skip
    have m2:=m.pushB T S λz hz=>by
     obtain⟨j,hj,e⟩:=zu hz;exact ay (T.oa.at e P (h7 hj)) cw
    refine fy (λc5=>bn (.inl (.mk l (m2.firstB T (eq_of_beq c5))))) λc5=>?_
    rw[md] at c5;have Y:2<=q:=jD (Nat.le_of_succ_le_succ X) (fX c5);have a4:q<=b.size:=jB t;have a5:p+1+q<=na+nb:=jB hp;exact fy (λ_=>bn (.inr (.mk l m2 U v Y a4 a5))) λ_=>bn (.mk l m2 U v Y a4 a5)
  ·exact λc a9 k=>.inr k
  ·rintro c a9 (⟨l,f⟩|@⟨na',G,out,ac,bc,a9,l,m,U,v,X,t,hp⟩)
   ·exact bn (.mk l f)
   ·dsimp only;refine bh (pr (nZ ⟨rfl,?_⟩));refine bh (iR (iu (I:=H3 R a b au (na+nb)) (Q:=λc C=>Dn R a b au c C\/H3 R a b au (na+nb) 1 c C) ?_ ?_ (.mk l m U v X t (by rw[iS];exact hp))) ?_)
    ·rintro x' c a8 _ c4 @⟨na',G,out,g',ac,bc,a8,H,m,U,v,X,t,hp⟩;obtain⟨q,rfl⟩:∃q,G=q+1:=⟨G-1,(tW (jB X)).symm⟩
     dsimp only;have eb:=(o q t).1;have S:=(o q t).2.1;have b4:=(o q t).2.2;generalize g'-1=U;generalize g'=y;revert U;revert y
     refine vC ?_;intro gg;refine bh (AL λb8 sg=>?_);have u:=H.trans sg;refine eM eb (bh (sW O (u.kind.trans hk) b4 (λi hi=>⟨_,(d (0+i) (by lia)).1,(d (0+i) (by lia)).2.2⟩) (by lia) (b9 na' v) λk1 J=>?_));have m5:=(m.galA T S v J).1;have u5:=(m.galA T S v J).2;have b6:=J.1;dsimp only;refine vA (λc6=>?_) (λc6 c7=>?_) λhh=>?_
     ·have z:k1=na':=by lia
      subst z;rw[show out++(a.extract k1 k1).reverse=out by simp[rx]]
     ·exact bn (.inl (.mk u (m5.done T (.inl (eq_of_beq c7)))))
     have g5:1<=k1:=by
      by_cases c6:na'-k1 > 0
      ·have:=hh c6;simp at this;lia
      ·lia
     have g6:k1<=a.size:=ay b6 v;have c8:x'+k1+(q+1)<=na+nb:=by lia
     clear hh b6 J;generalize out++(a.extract k1 na').reverse=out5 at m5 ⊢;obtain⟨p,rfl⟩:∃p,k1=p+1:=⟨k1-1,(tW g5).symm⟩
     simp only[Nat.add_sub_cancel];have m6:=m5.pushB T S u5;have ea:=(d p g6).1;have P:=(d p g6).2.1;have b3:=(d p g6).2.2;refine eM eb (fy (λc9=>bn (.inl (.mk u (m6.firstB T (eq_of_beq c9))))) λc9=>eM ea ?_);rw[md] at c9;refine bh (sW O (u.kind.trans hk) b3 (λi hi=>⟨_,(o (0+i) (by lia)).1,(o (0+i) (by lia)).2.2⟩) (by lia) (b7 q (jB t)) λk2 a0=>?_);have m7:=(m6.galB T P (jB t) a0).1;have u7:=(m6.galB T P (jB t) a0).2;have c0:=a0.1;dsimp only;refine wD (λd6=>?_) (λd6 d7=>?_) (λd6 d9=>?_) λhh=>?_
     ·have z2:k2=q:=by lia
      subst z2;simp only[OS (ay (rx _ _) (br _)),Array.reverse_empty,Oq]
     ·exact bn (.inl (.mk u (m7.firstB T (eq_of_beq d7))))
     ·exact bn (.inl (.mk u (m7.done T (.inr (eq_of_beq d9)))))
     have b5:2<=k2:=by
      by_cases d6:q-k2 > 0
      ·have:=hh d6;simp at this;lia
      ·lia
     have m8:=m7.pushA T P u7;refine eM ea (fy (λd8=>bn (.inl (.mk u (m8.done T (.inl (eq_of_beq d8)))))) λd8=>?_);rw[md] at d8;have Y:1<=p:=Op d8;have a4:p<=a.size:=jB g6;have a5:k2<=b.size:=ay c0 (jB t);have a6:x'+1+p+k2<=na+nb:=by lia
     exact fy (λ_=>bn (.inr (.mk u m8 Y a4 b5 a5 (by lia)))) λ_=>bn (.mk u m8 Y a4 b5 a5 a6)
    ·rintro c a8 ⟨H,m,U,v,X,t,hp⟩;exact .inr (.mk H m U v X t (by lia))
    ·rintro c a8 (⟨H,f⟩|@⟨na',G,out,g',ac,bc,a8,H,m,U,v,X,t,hp⟩)
     ·exact bn (.mk H f)
     ·have h9:x+1+na'+G<a.size+b.size:=by lia
      exact bh (AL λb8 sg=>bn (.mk (H.trans sg) m U v X t h9))
 ·rintro c a7 ⟨b0,m,a1,a2,b1,b2,hx⟩;lia
 ·rintro c a7 ⟨b0,f⟩;exact bn (h _ a7 b0 f)
end
theorem DY:∀(l:List Keyed) (n b:Nat) (d:Array Keyed),b+n+l.length<=d.size->∀i,((l.zipIdx n).foldl (λa p=>a.setIfInBounds (b+p.2) p.1) d)[i]?=if b+n<=i/\i<b+n+l.length then l[i-(b+n)]? else d[i]?
 |[],n,b,d,h,i=>by
  rw[if_neg (by simp)]
  rfl
 |x::l,n,b,d,h,i=>by
  rw[List.zipIdx_cons,lC];rw[dw] at h;have e:b+(n+1)+l.length=b+n+(l.length+1):=Nat.succ_add_eq_add_succ (b+n) l.length;rw[DY l (n+1) b _ (by rw[Array.size_setIfInBounds];exact ay (gQ e) h) i];rw[dw];by_cases c:b+(n+1)<=i/\i<b+(n+1)+l.length
  ·rw[if_pos c,if_pos ⟨jB c.1,rD c.2 e⟩,show i-(b+n)=i-(b+(n+1))+1 from(tW (pI c.1)).symm,yC]
  ·rw[if_neg c];by_cases c2:i=b+n
   ·rw[if_pos ⟨gQ c2.symm,jl (gQ c2) (Db (Nat.succ_pos _))⟩,c2,tM,OM];exact SN (da (Db (Nat.succ_pos l.length)) h)
   ·rw[if_neg λz=>c ⟨jD z.1 (fX c2),rD z.2 e.symm⟩];exact SM (λz=>c2 z.symm)
theorem Ms{m b:Array Keyed}(h:off+m.size<=b.size):(m.toList.zipIdx.foldl (λa p=>a.setIfInBounds (off+p.2) p.1) b).toList=b.toList.take off++m.toList++b.toList.drop (off+m.size):=by
 apply tT;intro i;rw[gU,DY m.toList 0 off b (by simpa using h) i];simp only[tL,fZ];have d:(b.toList.take off).length=off:=by rw[g9,fZ];exact j6 (ay (ft _ _) h)
 by_cases c:off<=i/\i<off+m.size
 ·rw[if_pos c,ff,kQ (ay (gQ d) c.1),d,gv (by rw[fZ];exact ou c.1 c.2)]
 ·rw[if_neg c];by_cases c2:i<off
  ·rw[ff,gv (rD c2 d.symm),List.getElem?_take,if_pos c2,gU]
  ·have e:off+m.size<=i:=fG λz=>c ⟨fG c2,z⟩
   rw[kQ (by rw[cQ,d,fZ];exact e),oj];simp only[cQ,d,fZ];rw[gS e,gU]
theorem xE(up:eP R xs i j)(d:j<=xs.size):Ord R (xs.extract i j).toList:=by
 rw[ky];refine ue.mpr λp q c b a=>?_
 simp only[g9,mY,fZ] at c b;simp only[Og,Oh,Array.getElem_toList];have:=up (i+p) (i+q) (ft _ _) (hD (dj a) i) (nj (da b (rx _ _)));rw[iP (getElem?_pos xs (i+p) (nj (da c (rA _ _)))),iP (getElem?_pos xs (i+q) (nj (da b (rA _ _))))] at this;exact this
theorem sN{a:Array Keyed}(h:x∈(a.extract i j).toList):∃q,i<=q/\q<j/\a[q]?=some x:=by
 rw[ky] at h;obtain⟨q,b,e⟩:=zu h;rw[oj,gU] at e;exact⟨i+q,ft _ _,nj b,e⟩
theorem vY{a:Array Keyed}(h:q<j-i):(a.extract i j).toList[q]?=a[i+q]?:=by
 rw[ky,List.getElem?_take,if_pos h,oj,gU]
structure Mg (R:Keyed->Nat) (xs ys:Array Keyed) (lo hi:Nat):Prop where
 perm:ys.Perm xs
 out:dX ys xs lo hi
 up:eP R ys lo hi
theorem NA{d:Array Keyed}{b sb ea k nb':Nat}(Y:sb<=ea)(s:ea<=d.size)(x:b+k<sb)(n:sb+nb'<=ea)(a5:1<=nb')(H:eP R d b sb)(I:eP R d sb ea)
  (e0:d[sb]?=some y0)(el:d[sb-1]?=some xl)(c1:nv false R y0 d b (sb-b) k)(c2:nv true R xl d sb (ea-sb) nb')
  (f:Fin R (d.extract (b+k) sb).toList (d.extract sb (sb+nb')).toList m):Mg R d (m.toList.zipIdx.foldl (λa p=>a.setIfInBounds (b+k+p.2) p.1) d) b ea:=by
 have lx:(d.extract (b+k) sb).toList.length=sb-(b+k):=by rw[ky,g9,mY,fZ];exact j6 (rG (ay Y s) _)
 have ly:(d.extract sb (sb+nb')).toList.length=nb':=by rw[ky,g9,mY,fZ,lM];exact j6 (pO (ay n s))
 have Q:m.size=sb+nb'-(b+k):=by
  have:=f.1.length_eq;rw[cQ,lx,ly,fZ] at this;exact this.trans (Nat.sub_add_comm (dj x)).symm
 have he:b+k+m.size=sb+nb':=by rw[Q];exact gS (ay (dj x) (ft _ _))
 have G:b+k+m.size<=d.size:=by rw[he];exact ay n s
 have A:=kP x;have s1:sb-1<sb:=n0 (CT x) Nat.one_pos;have g:∀i,(m.toList.zipIdx.foldl (λa p=>a.setIfInBounds (b+k+p.2) p.1) d)[i]?=if b+k<=i/\i<sb+nb' then m.toList[i-(b+k)]? else d[i]?:=λi=>by
  have:=DY m.toList 0 (b+k) d (by simpa using G) i;simp only[tL,fZ] at this;rw[he] at this;exact this
 have E:∀v∈m.toList,R y0<=R v/\R v<=R xl:=λv hv=>by
  rcases dk.mp (f.1.mem_iff.mp hv) with hv|hv
  ·obtain⟨q,w,C,e⟩:=sN hv;have q0:=ay (ft _ _) w;have o:=c1.2.2 (q-b) (pO w) (om q0 C);rw[gS q0,iP e] at o;have t:=H q (sb-1) q0 (kP C) s1;rw[iP e,iP el] at t;have a4:R y0<R v:=o;exact⟨dj a4,t⟩
  ·obtain⟨q,w,C,e⟩:=sN hv;have o:=I sb q (br _) w (da C n);rw[iP e,iP e0] at o;have t:=c2.2.1 (q-sb) (ou w C);rw[gS w,iP e] at t;have S:R v<R xl:=t;exact⟨o,dj S⟩
 have a0:∀i,b<=i->i<b+k->kA R d i<=R y0:=λi r l=>by
  have:=c1.2.1 (i-b) (ou r l);rw[gS r] at this;exact this
 have y:∀i,sb+nb'<=i->i<ea->R xl<=kA R d i:=λi r l=>by
  have i0:=ay (ft _ _) r;have:=c2.2.2 (i-sb) (pO r) (om i0 l);rw[gS i0] at this;exact this
 have kk:∀i,kA R (m.toList.zipIdx.foldl (λa p=>a.setIfInBounds (b+k+p.2) p.1) d) i=if b+k<=i/\i<sb+nb' then kA R m (i-(b+k)) else kA R d i:=λi=>by
  have:=g i;split
  ·rename_i c;rw[if_pos c,gU] at this;exact nG this
  ·rename_i c;rw[if_neg c] at this;exact nG this
 have X:∀i,i<m.size->∃v,m.toList[i]?=some v/\v∈m.toList:=λi U=>⟨m.toList[i]'(by simpa using U),bV _,gf _⟩
 refine⟨?_,λi U=>?_,λi j r l a3=>?_⟩
 ·refine uf.mpr ?_;rw[Ms G,he];have split:d.toList=d.toList.take (b+k)++((d.extract (b+k) sb).toList++(d.extract sb (sb+nb')).toList)++d.toList.drop (sb+nb'):=by
   rw[ky,ky];rw[lM]
   conv=>lhs;rw[←j9 (b+k) d.toList,←j9 (sb-(b+k)) (d.toList.drop (b+k)),CD,gS (dj x),←j9 nb' (d.toList.drop sb),CD]
   simp only[ff]
  conv=>rhs;rw[split]
  exact Da _ (ud _ f.1)
 ·rw[g i,if_neg λz=>U.elim (λh=>mh (ay (ft b k) z.1) h) λh=>mh h (da z.2 n)]
 ·rw[kk,kk];by_cases ci:b+k<=i/\i<sb+nb'
  ·rw[if_pos ci];obtain⟨v,ev,mv⟩:=X (i-(b+k)) (by rw[Q];exact om ci.1 ci.2);rw[im ev];by_cases cj:b+k<=j/\j<sb+nb'
   ·rw[if_pos cj];obtain⟨u,P,mu⟩:=X (j-(b+k)) (by rw[Q];exact om cj.1 cj.2);rw[im P];exact f.2.at ev P (rG l _)
   ·rw[if_neg cj];exact ay (E v mv).2 (y j (fG λz=>cj ⟨ay ci.1 l,z⟩) a3)
  ·rw[if_neg ci];by_cases ci2:i<b+k
   ·have o:=a0 i r ci2;by_cases cj:b+k<=j/\j<sb+nb'
    ·rw[if_pos cj];obtain⟨u,P,mu⟩:=X (j-(b+k)) (by rw[Q];exact om cj.1 cj.2);rw[im P];exact ay o (E u mu).1
    ·rw[if_neg cj];by_cases cj2:j<b+k
     ·exact H i j r l (rh cj2 x)
     ·have t:=y j (fG λz=>cj ⟨fG cj2,z⟩) a3;have h3:R y0<=R xl:=by
       have s0:=ay (ft _ _) A;have h4:=c1.2.2 (sb-1-b) (pO A) (om s0 s1);rw[gS s0,iP el] at h4;exact dj h4
      exact ay o (ay h3 t)
   ·have J:sb+nb'<=i:=fG λz=>ci ⟨fG ci2,z⟩
    rw[if_neg λz=>mh (ay J l) z.2];exact I i j (ay (ft _ _) J) l a3
section
variable {prog:Program}{w:World}{A:Around}{E:Value->Shared->Prop}{s:Shared}
theorem F3{x au:SortSt}{Q:Unit->SortSt->Prop}(h:Q () x):wpS (model prog w) A E s (set x:StateT SortSt Sem PUnit) Q au:=by
 unfold wpS;rw[StateT.run_set];exact aW ⟨rfl,h⟩
end
section
variable {prog:Program}{w:World}{A:Around}{E:Value->Shared->Prop}{s:Shared}{κ:SortKind}{a₀:Array Keyed}{R:Keyed->Nat}
theorem To{i d U pw sb nb b1:Nat}{au:SortSt}{Q:Bool->SortSt->Prop}(O:kt prog w A s κ a₀ R)(b:B κ a₀ au)(p1:(pendingOf au)[i]?=some (d,U,pw))(p2:(pendingOf au)[i+1]?=some (sb,nb,b1))(j:sb=d+U)(b2:1<=U)(a5:1<=nb)(hz:sb+nb<=a₀.size)
  (r:eP R (arrOf au) d sb)(t:eP R (arrOf au) sb (sb+nb))
  (h:∀C,B κ a₀ C->pendingOf C=((pendingOf au).setIfInBounds i (d,U+nb,pw)).eraseIdxIfInBounds (i+1)->dX (arrOf C) (arrOf au) d (sb+nb)->eP R (arrOf C) d (sb+nb)->Q true C):wpS (model prog w) A E s (mergeAt' i) Q au:=by
 have a6:=b.size;have bs:sb<a₀.size:=da (Db a5) hz;refine bh (kJ ?_);dsimp only;have J:(sortPriv% PySem.Builtin.SortState.pending) au=pendingOf au:=rfl;rw[J,p1,p2];dsimp only;refine bh (F3 ?_);obtain⟨y0,e0,b0⟩:=b.mem (i:=sb) bs;have u:∀q,q<a₀.size->∃x,(arrOf au)[q]?=some x/\x∈a₀.toList:=λq hq=>b.mem hq
 refine bh (o5 e0 ?_);refine bh (sW O b.kind b0 (λq hq=>u (d+q) (rh (rD (nc hq d) j.symm) bs)) b2 (by rw[←j];exact r) λk c1=>?_);dsimp only;have hk:=c1.1;have b3:nv false R y0 (arrOf au) d (sb-d) k:=by rw[show sb-d=U from by rw[j,lM]];exact c1
 by_cases d1:U-k=0
 ·rw[if_pos (by simpa using d1)];refine bn (h _ ⟨b.perm,b.kind,b.failed⟩ rfl (dX.refl _ _ _) λp q G o I=>?_);by_cases z1:q<sb
  ·exact r p q G o z1
  ·by_cases z2:p<sb
   ·have h1:=c1.2.1 (p-d) (da (ou G (rD z2 j)) (Nat.le_of_sub_eq_zero d1));rw[gS G] at h1;have h2:=t sb q (br _) (fG z1) I;rw[iP e0] at h2;exact ay h1 h2
   ·exact t p q (fG z2) o I
 ·rw[if_neg (by simpa using d1)];have l:d+k<sb:=rD (nc (pF λz=>d1 (Nat.sub_eq_zero_of_le z)) d) j.symm;have s1:sb-1<sb:=n0 (CT l) Nat.one_pos;obtain⟨xl,el,b6⟩:=u (sb-1) (rh s1 bs);have a9:(arrOf au)[d+k+(U-k)-1]?=some xl:=by rw[Cz,gS hk,←j];exact el
  refine bh (o5 a9 ?_);refine bh (sW O b.kind b6 (λq hq=>u (sb+q) (da (nc hq sb) hz)) (n0 a5 Nat.one_pos) t λnb' c2=>?_);dsimp only;have b5:=c2.1;have b4:nv true R xl (arrOf au) sb (sb+nb-sb) nb':=by rw[lM];exact c2
  by_cases d2:nb'=0
  ·rw[if_pos (by simpa using d2)];refine bn (h _ ⟨b.perm,b.kind,b.failed⟩ rfl (dX.refl _ _ _) λp q G o I=>?_);subst d2;by_cases z1:q<sb
   ·exact r p q G o z1
   ·by_cases z2:p<sb
    ·have h1:=r p (sb-1) G (kP z2) s1;rw[iP el] at h1;have h2:=c2.2.2 (q-sb) (gX _) (ou (fG z1) I);rw[gS (fG z1)] at h2;exact ay h1 h2
    ·exact t p q (fG z2) o I
  ·rw[if_neg (by simpa using d2)];have P:1<=nb':=Op d2;have a8:sb<=(arrOf au).size:=by rw[a6];exact dj bs
   have a0:sb+nb<=(arrOf au).size:=by rw[a6];exact hz
   have v:sb+nb'<=sb+nb:=hD b5 sb;have oa:Ord R ((arrOf au).extract (d+k) sb).toList:=xE (λp q G o I=>r p q (ay (ft _ _) G) o I) a8;have ob:Ord R ((arrOf au).extract sb (sb+nb')).toList:=xE (λp q G o I=>t p q G o (da I v)) (ay v a0);have ma:∀x∈((arrOf au).extract (d+k) sb).toList,x∈a₀.toList:=λx n=>by
    obtain⟨q,J,Y,e⟩:=sN n;obtain⟨x',e',m'⟩:=u q (rh Y bs);rw[e] at e';cases e';exact m'
   have mb:∀x∈((arrOf au).extract sb (sb+nb')).toList,x∈a₀.toList:=λx n=>by
    obtain⟨q,J,Y,e⟩:=sN n;obtain⟨x',e',m'⟩:=u q (da Y (ay v hz));rw[e] at e';cases e';exact m'
   have sx:((arrOf au).extract (d+k) sb).size=sb-(d+k):=by rw[Array.size_extract,j6 a8]
   have sy:((arrOf au).extract sb (sb+nb')).size=nb':=by rw[Array.size_extract,j6 (ay v a0),lM]
   have a7:∀y,((arrOf au).extract sb (sb+nb')).toList[0]?=some y->∀x∈((arrOf au).extract (d+k) sb).toList,R y<=R x:=λy hy x n=>by
    rw[vY (by rw[lM];exact P),tL,e0] at hy;cases hy;obtain⟨q,J,Y,e⟩:=sN n;have q0:=ay (ft _ _) J;have:=c1.2.2 (q-d) (pO J) (ou q0 (rD Y j));rw[gS q0,iP e] at this;exact dj this
   have a4:∀x,((arrOf au).extract (d+k) sb).toList[sb-(d+k)-1]?=some x->∀y∈((arrOf au).extract sb (sb+nb')).toList,R y<=R x:=λx n y hy=>by
    rw[vY (n0 (pI l) Nat.one_pos),show d+k+(sb-(d+k)-1)=sb-1 from by rw[←Nat.add_sub_assoc (pI l),gS (dj l)],el] at n;cases n;obtain⟨q,J,Y,e⟩:=sN hy;have:=c2.2.1 (q-sb) (ou J Y);rw[gS J,iP e] at this;exact dj this
   have S:∀m g,je au g\/True->Fin R ((arrOf au).extract (d+k) sb).toList ((arrOf au).extract sb (sb+nb')).toList m->Mg R (arrOf au) (m.toList.zipIdx.foldl (λa p=>a.setIfInBounds (d+k+p.2) p.1) (arrOf au)) d (sb+nb):=λm _ _ f=>
    NA (ft _ _) a0 l v P r t e0 el b3 b4 f
   by_cases d3:U-k<=nb'
   ·rw[if_pos d3];refine bh (Tq O b.kind ma mb ⟨oa,ob,λx n=>a4 x (by rw[fZ,sx] at n;exact n)⟩ (by show 1<=((arrOf au).extract (d+k) sb).size;rw[sx];exact pI l) (by show 1<=((arrOf au).extract sb (sb+nb')).size;rw[sy];exact P) a7 λm g H f=>?_);have X:=S m g (.inr trivial) f;refine bh (l9 (bh (kJ ?_)));have o:arrOf g=arrOf au:=H.arr;have f2:failedOf g=none:=H.failed.trans b.failed;refine bn (?_:Q ((failedOf g).isNone) (setArr g (m.toList.zipIdx.foldl (λa p=>a.setIfInBounds (d+k+p.2) p.1) (arrOf g))));rw[f2,o];exact h _ ⟨X.perm.trans b.perm,H.kind.trans b.kind,f2⟩ H.pend X.out X.up
   ·rw[if_neg d3];refine bh (Tp O b.kind ma mb ⟨oa,ob,a7⟩ (by show 1<=((arrOf au).extract (d+k) sb).size;rw[sx];exact pI l) (by show 1<=((arrOf au).extract sb (sb+nb')).size;rw[sy];exact P) (λx n=>a4 x (by rw[sx] at n;exact n)) λm g H f=>?_);have X:=S m g (.inr trivial) f;refine bh (l9 (bh (kJ ?_)));have o:arrOf g=arrOf au:=H.arr;have f2:failedOf g=none:=H.failed.trans b.failed;refine bn (?_:Q ((failedOf g).isNone) (setArr g (m.toList.zipIdx.foldl (λa p=>a.setIfInBounds (d+k+p.2) p.1) (arrOf g))));rw[f2,o];exact h _ ⟨X.perm.trans b.perm,H.kind.trans b.kind,f2⟩ H.pend X.out X.up
end
def bq(R:Keyed->Nat) (a:Array Keyed):Nat->List (Nat×Nat×Nat)->Nat->Prop
 |s,[],e=>s=e
 |s,p::r,e=>p.1=s/\1<=p.2.1/\eP R a s (s+p.2.1)/\bq R a (s+p.2.1) r e
theorem bq.le:∀{l:List (Nat×Nat×Nat)}{s e:Nat},bq R xs s l e->s+l.length<=e
 |[],s,e,h=>by cases h;simp
 |p::r,s,e,h=>by
  have:=bq.le h.2.2.2;have:=h.2.1;simp;lia
theorem bq.append:∀{l m:List (Nat×Nat×Nat)}{s e:Nat},bq R xs s (l++m) e↔∃k,bq R xs s l k/\bq R xs k m e
 |[],m,s,e=>⟨λh=>⟨s,rfl,h⟩,λ⟨k,b,a⟩=>by cases b;exact a⟩
 |p::r,m,s,e=>by
  constructor
  ·rintro⟨b,a,f,d⟩;obtain⟨k,g,c⟩:=bq.append.mp d;exact⟨k,⟨b,a,f,g⟩,c⟩
  ·rintro⟨k,⟨b,a,f,d⟩,c⟩;exact⟨b,a,f,bq.append.mpr ⟨k,d,c⟩⟩
theorem eP.same(h:eP R xs a b)(e:∀i,a<=i->i<b->ys[i]?=xs[i]?):eP R ys a b:=λi j f c d=>by
 rw[nG (e i f (jl c d)),nG (e j (ay f c) d)];exact h i j f c d
theorem bq.same:∀{l:List (Nat×Nat×Nat)}{s e:Nat},bq R xs s l e->(∀i,s<=i->i<e->ys[i]?=xs[i]?)->bq R ys s l e
 |[],s,e,h,_=>h
 |p::r,s,e,h,k=>by
  have:=bq.le h.2.2.2;exact⟨h.1,h.2.1,h.2.2.1.same λi b a=>k i b (da a (ay (ft _ _) this)),bq.same h.2.2.2 λi b a=>k i (ay (ft _ _) b) a⟩
theorem bq.power:∀{l m:List (Nat×Nat×Nat)},l.map (λp=>(p.1,p.2.1))=m.map (λp=>(p.1,p.2.1))->bq R xs s l e->bq R xs s m e:=by
 intro l
 induction l generalizing s with
 |nil=>intro m h k;cases m with
  |nil=>exact k
  |cons=>cases h
 |cons p r ih=>intro m h k;cases m with
  |nil=>cases h
  |cons q t=>
   rw[cr,cr] at h;obtain⟨j,i⟩:=List.cons.inj h;obtain⟨f,g⟩:=Prod.mk.inj j;obtain⟨d,c,a,b⟩:=k;rw[g] at c a b;exact⟨f.symm.trans d,c,a,ih i b⟩
theorem LK{l:List (Nat×Nat×Nat)}(h:i+1<l.length):∃b p q a,l=b++p::q::a/\b.length=i:=by
 refine⟨l.take i,l[i],l[i+1],l.drop (i+2),?_,by rw[g9];exact j6 (dj (oh h))⟩
 conv=>lhs;rw[←j9 i l,lN (oh h),lN h]
section
variable {prog:Program}{w:World}{A:Around}{E:Value->Shared->Prop}{s:Shared}{κ:SortKind}{a₀:Array Keyed}{R:Keyed->Nat}
theorem rK{i e:Nat}{au:SortSt}{Q:Bool->SortSt->Prop}(O:kt prog w A s κ a₀ R)(b:B κ a₀ au)(G:bq R (arrOf au) 0 (pendingOf au).toList e)(he:e<=a₀.size)(U:i+1<(pendingOf au).size)
  (h:∀a,B κ a₀ a->bq R (arrOf a) 0 (pendingOf a).toList e->(pendingOf a).size+1=(pendingOf au).size->(∀k,e<=k->(arrOf a)[k]?=(arrOf au)[k]?)->Q true a):wpS (model prog w) A E s (mergeAt' i) Q au:=by
 obtain⟨t,p,q,post,m,f⟩:=LK (l:=(pendingOf au).toList) (i:=i) (by simpa using U);obtain⟨d,g,H⟩:=p;obtain⟨sb,nb,r⟩:=q;rw[m] at G;obtain⟨k,y,g2⟩:=bq.append.mp G;obtain⟨x,I,C,n,z,v,o⟩:=g2;dsimp only at x I C n z v o;subst x;have l7:=bq.le o;have l1:=bq.le y;have X:(pendingOf au)[i]?=some (d,g,H):=by rw[←gU,m,kQ (gQ f),f,tM];rfl
 have p2:(pendingOf au)[i+1]?=some (sb,nb,r):=by rw[←gU,m,kQ (ay (gQ f) (ft i 1)),f,lM];rfl
 refine To O b X p2 n I z (by lia) (by rw[n];exact C) (by rw[n];exact v) λa Y pe S up=>?_
 have J:(pendingOf a).toList=t++(d,g+nb,H)::post:=by
  rw[pe];rw[Array.toList_eraseIdxIfInBounds,Array.toList_setIfInBounds,m];rw[List.set_append_right _ _ (gQ f),f,tM,List.set_cons_zero,List.eraseIdx_append_of_length_le (ay (gQ f) (ft i 1)),f,lM]
  rfl
 have c:∀j,j<d\/sb+nb<=j->(arrOf a)[j]?=(arrOf au)[j]?:=S
 refine h a Y ?_ ?_ λj hj=>c j (.inr (by lia))
 ·rw[J];refine bq.append.mpr ⟨d,y.same λj a1 u=>c j (.inl u),rfl,by show 1<=g+nb;lia,?_,?_⟩
  ·show eP R (arrOf a) d (d+(g+nb));rw[show d+(g+nb)=sb+nb by lia];exact up
  ·show bq R (arrOf a) (d+(g+nb)) post e;rw[show d+(g+nb)=d+g+nb by lia];exact o.same λj a1 u=>c j (.inr (by lia))
 ·have e1:(pendingOf a).size=(pendingOf a).toList.length:=by simp
  have P:(pendingOf au).size=(pendingOf au).toList.length:=by simp
  rw[e1,P,J,m];simp only[cQ,dw];lia
end
theorem Ha [Decidable c] (d:a+1<n)(e:b+1<n):(if c then a else b)+1<n:=by split<;>assumption
theorem xn(h:∀x,g (f x)=g x):∀(l:List (Nat×Nat×Nat)) (i:Nat),(l.modify i f).map g=l.map g
 |[],i=>by simp
 |x::l,0=>by simp[h]
 |x::l,i+1=>by simp[xn h l i]
theorem bq.mod(h:bq R xs s l e)(i c:Nat):bq R xs s (l.modify i λx=>(x.1,x.2.1,c)) e:=
 h.power (xn (g:=λp=>(p.1,p.2.1)) (f:=λx=>(x.1,x.2.1,c)) (λ_=>rfl) l i).symm
section
variable {prog:Program}{w:World}{A:Around}{E:Value->Shared->Prop}{s:Shared}{κ:SortKind}{a₀:Array Keyed}{R:Keyed->Nat}
theorem Im{au:SortSt}{Q:Unit->SortSt->Prop}(O:kt prog w A s κ a₀ R)(b:B κ a₀ au)(pe:pendingOf au=#[])(h2:2<=a₀.size)
  (h:∀a,B κ a₀ a->eP R (arrOf a) 0 a₀.size->Q () a):wpS (model prog w) A E s sortRuns' Q au:=by
 have hz:=b.size;rw[sortRuns'_eq];refine bh (kJ ?_);dsimp only;rw[hz]
 refine bh (iR (iu (I:=λx c a=>∃lo,c=(none,lo)/\B κ a₀ a/\bq R (arrOf a) 0 (pendingOf a).toList lo/\lo<=a₀.size/\x<=lo)
  (Q:=λc a=>c=(none,a₀.size)/\B κ a₀ a/\bq R (arrOf a) 0 (pendingOf a).toList a₀.size) ?_ ?_ ⟨0,rfl,b,by rw[pe];rfl,by lia,by lia⟩) ?_)
 ·rintro x c X x1 x2 ⟨lo,rfl,J,q,H,hx⟩;dsimp only;by_cases c1:lo ≥ a₀.size
  ·rw[if_pos c1];have:lo=a₀.size:=by lia
   subst this;exact bn ⟨rfl,J,q⟩
  rw[if_neg c1];refine bh (Kx O J (by lia) (by lia) λm g m1 m2 z S Y=>?_);dsimp only;have e:bq R (arrOf g) 0 (pendingOf g).toList lo:=by
   rw[S.pend];exact q.same λi U P=>S.out i (.inl P)
  by_cases c2:m<minRun' a₀.size a₀.size 0
  ·rw[if_pos c2];refine bh (pr (nZ ⟨rfl,?_⟩));refine bh (F2 O z (by lia) m1 (by lia) Y λk y G l=>?_);have o:bq R (arrOf k) 0 (pendingOf k).toList lo:=by
    rw[G.pend];exact e.same λi U P=>G.out i (.inl P)
   have u:1<=min (a₀.size-lo) (minRun' a₀.size a₀.size 0):=by lia
   have v:lo+min (a₀.size-lo) (minRun' a₀.size a₀.size 0)<=a₀.size:=by lia
   simp only[Bool.not_true,jk,gP];generalize min (a₀.size-lo) (minRun' a₀.size a₀.size 0)=n at l u v G ⊢;refine bh (kJ ?_);cases hb:(pendingOf k).back? with
   |none=>
    dsimp only;refine bh (l9 (bn ⟨lo+n,rfl,⟨y.perm,y.kind,y.failed⟩,?_,v,by lia⟩));show bq R (arrOf k) 0 ((pendingOf k).push (lo,n,0)).toList (lo+n);rw[mZ];exact bq.append.mpr ⟨lo,o,rfl,u,l,rfl⟩
   |some p=>
    obtain⟨s1,n1,p1⟩:=p;dsimp only;refine bh (iR (iu (I:=λ_ c a=>c=(none,())/\B κ a₀ a/\bq R (arrOf a) 0 (pendingOf a).toList lo/\eP R (arrOf a) lo (lo+n)) (Q:=λc a=>c=(none,())/\B κ a₀ a/\bq R (arrOf a) 0 (pendingOf a).toList lo/\eP R (arrOf a) lo (lo+n)) ?_ (λ_ _ hh=>hh) ⟨rfl,y,o,l⟩) ?_)
    ·rintro x' c d _ _ ⟨rfl,t,f,j⟩;refine bh (kJ ?_);by_cases hs:(pendingOf d).size > 1
     ·rw[if_pos hs,getElem?_pos (pendingOf d) ((pendingOf d).size-2) (by lia)];obtain⟨s2,n2,p2⟩:=(pendingOf d)[(pendingOf d).size-2]'(by lia);dsimp only;split
      ·exact bn ⟨rfl,t,f,j⟩
      ·refine bh (rK O t f H (by lia) λa3 b5 C _ k5=>?_);exact bn ⟨rfl,b5,C,j.same λi U P=>k5 i U⟩
     ·rw[if_neg hs];exact bn ⟨rfl,t,f,j⟩
    ·rintro c d ⟨rfl,t,f,j⟩;dsimp only;refine bh (l9 (bh (l9 (bn ⟨lo+n,rfl,⟨t.perm,t.kind,t.failed⟩,?_,v,by lia⟩))));refine(?_:bq R (arrOf d) 0 (((pendingOf d).modify ((pendingOf d).size-1) λx=>(x.1,x.2.1,_)).push (lo,n,0)).toList (lo+n));rw[mZ,Array.toList_modify];exact bq.append.mpr ⟨lo,f.mod _ _,rfl,u,j,rfl⟩
  ·rw[if_neg c2];have y:=z;have o:=e;have l:=Y;have u:=m1;have v:lo+m<=a₀.size:=by lia
   generalize g=k at y o l ⊢;generalize m=n at l u v ⊢;refine bh (kJ ?_);cases hb:(pendingOf k).back? with
   |none=>
    dsimp only;refine bh (l9 (bn ⟨lo+n,rfl,⟨y.perm,y.kind,y.failed⟩,?_,v,by lia⟩));show bq R (arrOf k) 0 ((pendingOf k).push (lo,n,0)).toList (lo+n);rw[mZ];exact bq.append.mpr ⟨lo,o,rfl,u,l,rfl⟩
   |some p=>
    obtain⟨s1,n1,p1⟩:=p;dsimp only;refine bh (iR (iu (I:=λ_ c a=>c=(none,())/\B κ a₀ a/\bq R (arrOf a) 0 (pendingOf a).toList lo/\eP R (arrOf a) lo (lo+n)) (Q:=λc a=>c=(none,())/\B κ a₀ a/\bq R (arrOf a) 0 (pendingOf a).toList lo/\eP R (arrOf a) lo (lo+n)) ?_ (λ_ _ hh=>hh) ⟨rfl,y,o,l⟩) ?_)
    ·rintro x' c d _ _ ⟨rfl,t,f,j⟩;refine bh (kJ ?_);by_cases hs:(pendingOf d).size > 1
     ·rw[if_pos hs,getElem?_pos (pendingOf d) ((pendingOf d).size-2) (by lia)];obtain⟨s2,n2,p2⟩:=(pendingOf d)[(pendingOf d).size-2]'(by lia);dsimp only;split
      ·exact bn ⟨rfl,t,f,j⟩
      ·refine bh (rK O t f H (by lia) λa3 b5 C _ k5=>?_);exact bn ⟨rfl,b5,C,j.same λi U P=>k5 i U⟩
     ·rw[if_neg hs];exact bn ⟨rfl,t,f,j⟩
    ·rintro c d ⟨rfl,t,f,j⟩;dsimp only;refine bh (l9 (bh (l9 (bn ⟨lo+n,rfl,⟨t.perm,t.kind,t.failed⟩,?_,v,by lia⟩))));refine(?_:bq R (arrOf d) 0 (((pendingOf d).modify ((pendingOf d).size-1) λx=>(x.1,x.2.1,_)).push (lo,n,0)).toList (lo+n));rw[mZ,Array.toList_modify];exact bq.append.mpr ⟨lo,f.mod _ _,rfl,u,j,rfl⟩
 ·rintro c X ⟨lo,rfl,J,q,H,hx⟩;have:lo=a₀.size:=by lia
  subst this;exact⟨rfl,J,q⟩
 ·rintro c X ⟨rfl,J,q⟩;dsimp only
  refine bh (iR (iu (I:=λx c a=>c=(none,())/\B κ a₀ a/\bq R (arrOf a) 0 (pendingOf a).toList a₀.size/\(pendingOf a).size+x<=a₀.size)
   (Q:=λc a=>c=(none,())/\B κ a₀ a/\bq R (arrOf a) 0 (pendingOf a).toList a₀.size/\(pendingOf a).size<=1) ?_ ?_ ⟨rfl,J,q,by have:=q.le;simp at this;lia⟩) ?_)
  ·rintro x c g x1 x2 ⟨rfl,z,e,hp⟩;refine bh (kJ ?_);by_cases c1:(pendingOf g).size<=1
   ·rw[if_pos c1];exact bn ⟨rfl,z,e,c1⟩
   rw[if_neg c1];refine bh (rK O z e (br _) ?_ λk y o p3 _=>bn ⟨rfl,y,o,by lia⟩);exact Ha (by lia) (by lia)
  ·rintro c g ⟨rfl,z,e,hp⟩;exact⟨rfl,z,e,by lia⟩
  ·rintro c g ⟨rfl,z,e,hp⟩;refine bn (h g z ?_);cases hl:(pendingOf g).toList with
   |nil=>rw[hl] at e;have:0=a₀.size:=e;lia
   |cons p r=>
    have:r=[]:=by
     have e2:(pendingOf g).size=(pendingOf g).toList.length:=by simp
     rw[e2,hl,dw] at hp;exact yB.mp (by lia)
    subst this;rw[hl] at e;obtain⟨_,_,g3,g4⟩:=e;have a0:0+p.2.1=a₀.size:=g4;rw[a0] at g3;exact g3
end
end TS
namespace Srt
open PySem.W PyProof.Rows
theorem UC{j n:Type}(f:j->n):∀{l d:List n},l.Perm d->∀m:List j,d=m.map f->∃p:List j,p.Perm m/\l=p.map f:=by
 intro l d h
 induction h with
 |nil=>exact λm e=>⟨[],by rw[List.map_eq_nil_iff.mp e.symm],rfl⟩
 |cons x _ ih=>
  intro m e;cases m with
  |nil=>cases e
  |cons y m=>
   rw[cr] at e;injection e with g c
   obtain⟨p,k,i⟩:=ih m c;exact⟨y::p,k.cons y,by rw[cr,←i,g]⟩
 |swap x y l=>
  intro m e
  match m,e with
  |a::b::m,e=>
   rw[cr,cr] at e;injection e with g c
   injection c with c s
   exact⟨b::a::m,.swap _ _ _,by rw[cr,cr,g,c,s]⟩
 |trans _ _ ih1 ih2=>
  intro m e;obtain⟨p,k,i⟩:=ih2 m e;obtain⟨q,o,r⟩:=ih1 p i;exact⟨q,o.trans k,r⟩
noncomputable def sG(r:Nat->Nat) (a:List Value):Prop:=∀i j,i<a.length->j<a.length->a.getD i Value.none=a.getD j Value.none->r i=r j
open Classical in
noncomputable def kf(r:Nat->Nat) (a:List Value) (x:Keyed):Nat:=if h:∃i,i<a.length/\a.getD i Value.none=x.1 then r h.choose else 0
theorem Et(a:sG r xs) (b:i<xs.length)(e:xs.getD i Value.none=x.1):kf r xs x=r i:=by
 have h:∃i,i<xs.length/\xs.getD i Value.none=x.1:=⟨i,b,e⟩
 unfold kf;rw[dif_pos h];exact a _ _ h.choose_spec.1 b (h.choose_spec.2.trans e.symm)
theorem QN(a:List Value):(a.toArray.zip a.toArray).toList=(List.range a.length).map λi=>((a.getD i Value.none,a.getD i Value.none):Keyed):=by
 rw[Array.toList_zip];apply CN
 ·simp
 ·intro i d c;have b:i<a.length:=by simpa using c
  simp[cJ,b]
theorem LL{xs:List Value}(I:2<=xs.length)(f:sG r xs)
  (s:∀i j C,i<xs.length->j<xs.length->C (lt r i j) sg->kas_ask P w B κ xs i j C sg):
  wpAny (model P w) B ((sortRuns').run (SortSt.mk' κ (xs.toArray.zip xs.toArray) #[] 7 none)) (λy z=>∃p:Array Nat,(p.Perm (List.toArray (List.range xs.length))/\Up r p xs.length)/\(arrOf y.2).map (·.2)=cT xs p/\failedOf y.2=none/\z=sg) E sg:=by
 have A:(xs.toArray.zip xs.toArray).size=xs.length:=by simp
 have O:TS.kt P w B sg κ (xs.toArray.zip xs.toArray) (kf r xs):=λx G y u C v=>by
  rw[QN] at G u;obtain⟨i,t,rfl⟩:=bS.mp G;obtain⟨j,g,rfl⟩:=bS.mp u;rw[bR] at t g;rw[Et f t rfl,Et f g rfl] at v;exact s i j C t g v
 have run:=TS.Im (E:=E) (Q:=λ_ y=>∃p:Array Nat,(p.Perm (List.toArray (List.range xs.length))/\Up r p xs.length)/\(arrOf y).map (·.2)=cT xs p/\failedOf y=none) O (au:=SortSt.mk' κ (xs.toArray.zip xs.toArray) #[] 7 none) ⟨.refl _,rfl,rfl⟩ rfl (by rw[A];exact I) λy b up=>by
  obtain⟨l,n,H⟩:=UC (λi=>((xs.getD i Value.none,xs.getD i Value.none):Keyed)) (uf.mp b.perm) _ (QN xs);have S:l.length=xs.length:=by rw[n.length_eq,pH]
  have q:∀k,(o:k<l.length)->l[k]<xs.length:=λk o=>bR.mp (n.mem_iff.mp (gf o))
  have h:∀k,k<xs.length->TS.kA (kf r xs) (arrOf y) k=At r l.toArray k:=λk o=>by
   have d:k<l.length:=by lia
   have e:(arrOf y)[k]?=some (xs.getD l[k] Value.none,xs.getD l[k] Value.none):=by
    rw[←gU,H,fM,bV d]
    rfl
   rw[TS.iP e,Et f (q k d) rfl];unfold At;simp[d]
  refine⟨l.toArray,⟨?_,λi j m g=>?_⟩,?_,b.failed⟩
  ·exact uf.mpr (by simpa using n)
  ·rw[←h i (by lia),←h j g];exact up i j (gX _) m (by rw[A];exact g)
  ·unfold cT;apply Array.toList_inj.mp;rw[Array.toList_map,H,eS]
   rfl
 exact ir run (λy z J=>by
  obtain⟨rfl,p,a,b,c⟩:=J
  exact⟨p,a,b,c,rfl⟩) λ_ _ x=>x
theorem RV{au:Shared}(r:Nat->Nat) {a:List Value}{W:Fin->Shared->Prop}(o:au.heap.get? d=some (seqObj "list" a.toArray k))(b:a.length<=sizeLine)(l:sG r a)
  (ask:2<=a.length->Answers P w B r a {au with heap:=eI au.heap d a})
  (g:∀p:Array Nat,p.Perm (List.toArray (List.range a.length))->Up r p a.length->W (.done (.ret .none)) {au with heap:=sortedHeap au.heap d a (cT a p)}):
  wpAny (model P w) B (Builtin.«list.sort» ⟨[.ref d],[]⟩) W E au:=by
 obtain⟨c,v⟩:∃ c,(au.heap.update d (Obj.mapSeq λ_=>(#[]:Array Value))).get? d=some (seqObj "list" #[] c):=⟨_,get?_update_seq o λ_=>#[]⟩
 have h:(eI au.heap d a).get? d=some (seqObj "list" #[] c):=dY _ (dY _ v)
 have e:a.toArray.size=a.length:=eE;rw[list_sort_plain];refine ag (listItems_at o rfl (ag (listUpdate_at o rfl (ag (seqEpoch_at v rfl (ag (wpAny_newTuple (ag (wpAny_newList (jz ?_) (gX _))) (b))))) (by rw[e];exact b) (gX _))));show wpAny (model P w) B _ W E {au with heap:=eI au.heap d a};dsimp only;by_cases two:a.toArray.size<2
 ·rw[if_pos two,if_pos two];rw[e] at two;have t:((arrOf (SortSt.mk' general' (a.toArray.zip a.toArray) #[] 7 none)).map (·.2))=cT a (List.toArray (List.range a.length)):=Ta two
  refine ag (aW (by
   rw[StateT.run_pure];refine ag (aW (ag (seqEpoch_at h rfl (ag (listUpdate_at h rfl ?_ (gX _) ?_)))))
   ·rw[if_neg (by simp)];refine aW ?_;rw[t];exact g _ (.refl _) λi j G I=>gQ (congrArg (At r _) (by lia))
   ·rw[t];refine oi (ay (gQ ?_) (b));unfold cT
    simp))
 ·rw[if_neg two,if_neg two];rw[e] at two;obtain⟨A,H,q⟩:=ask (by lia);refine ag (ir (H (λf z=>f=A/\z={au with heap:=eI au.heap d a}) ⟨rfl,rfl⟩) (λf z s=>?_) λ_ _ x=>x.elim);obtain⟨rfl,rfl⟩:=s;have run:=LL (E:=E) (r:=r) (xs:=a) (κ:=f) (sg:={au with heap:=eI au.heap d a}) (by lia) l q;refine ag (ir run (λC z s=>?_) λ_ _ x=>x);obtain⟨⟨⟩,y⟩:=C;obtain⟨p,n,m,u,rfl⟩:=s;dsimp only at m u ⊢;refine ag (seqEpoch_at h rfl (ag (listUpdate_at h rfl ?_ (gX _) ?_)))
  ·rw[u,if_neg (by simp),m];exact aW (g p n.1 n.2)
  ·rw[m];refine oi (ay (gQ ?_) (b));unfold cT;rw[eE,bj,fZ,n.1.size_eq];simp
theorem U1{B:Around}{au:Shared}(r:Nat->Nat) {a:List Value}{W:Value->Shared->Prop}(i:au.heap.IsList d a.toArray)(c:a.length<=sizeLine)(j:sG r a)
  (ask:2<=a.length->∀g:Heap,(∀b ob,au.heap.get? b=some ob->g.get? b=some ob)->Answers P w B.in1.in1 r a {au with heap:=g})
  (h:∀p:Array Nat,p.Perm (List.toArray (List.range a.length))->Up r p a.length->W (.ref (au.heap.objs.size+1)) {au with heap:=sortedAll au.heap a (cT a p)}):
  wpAny (model P w) B (call (.builtin "sorted") [.ref d]) W E au:=by
 let g0:Heap:=(au.heap.push (seqObj "list" #[] 0)).update au.heap.objs.size (Obj.mapSeq (·++a.toArray))
 have l:g0.objs.size=au.heap.objs.size+1:=(Heap.size_update ..).trans (size_push' _ _);have f:(g0.push (seqObj "list" a.toArray 0)).get? (au.heap.objs.size + 1)=some (seqObj "list" a.toArray 0):=by
  have z:=fY g0 (o:=seqObj "list" a.toArray 0) rfl
  rw[l] at z;exact z
 have k:∀ b ob,au.heap.get? b=some ob->(g0.push (seqObj "list" a.toArray 0)).get? b=some ob:=λb ob e=>by
  have lt:=cZ e;exact dY _ ((Heap.get?_update_ne _ _ _ _ (dJ lt)).trans (dY _ e))
 have q:argsOk "sorted" ⟨[.ref d],[]⟩:=args_sorted1 _
 refine Calls.call_function_entry kind_sorted plain_sorted entry_sorted q ?_;unfold Builtin.«sorted»;refine ag (m:=checkCount "sorted" 1 1 _) (aW (ag (collect_list i (ag (wpAny_newList ?_ (c))) (c))))
 show wpAny _ _ _ _ _ { au with heap:=g0.push (seqObj "list" a.toArray 0) }
 have s:(Value.ref g0.objs.size)=Value.ref (au.heap.objs.size+1):=by rw[l]
 rw[show((au.heap.push (seqObj "list" #[] 0)).update au.heap.objs.size (Obj.mapSeq (·++a.toArray))).objs.size=au.heap.objs.size + 1 from l]
 refine ag (jz (lE slot_list_sort ⟨_,f,rfl⟩ entry_list_sort (RV r (au:={ au with heap:=g0.push (seqObj "list" a.toArray 0) }) f c j (λtwo=>?_) λp t n=>⟨_,rfl,aW ⟨_,rfl,h p t n⟩⟩) (args_list_sort _)))
 exact ask two _ λb ob e=>Sc (dJ (tS (cZ e))) (k b ob e)
theorem Sg{B:Around}{au:Shared}{T:String}{It:Nat->Value->Prop}(S:KdlSrc P w T a d n It OK)(C:B.handled=none)(y:OK au.heap)(l:n<=sizeLine){W:Value->Shared->Prop}
  (ask:∀s:List Value,s.length=n->(∀(j:Nat) (v:Value),s[j]?=some v->It j v)->∃r:Nat->Nat,sG r s/\(2<=n->∀(g:Heap) (h:Nat),(∀b ob,au.heap.get? b=some ob->g.get? b=some ob)->Answers P w B.in1.in1 r s {au with heap:=g,toks:=h}) /\
   ∀(p:Array Nat) (q:Addr) (g:Heap) (h c:Nat),p.Perm (List.toArray (List.range s.length))->Up r p s.length->(∀ b ob,au.heap.get? b=some ob->g.get? b=some ob)->(∀ b ob,au.heap.get? b=some ob->b≠q)->g.get? q=some (seqObj "list" (cT s p) c)->W (.ref q) { au with heap:=g,toks:=h }):
  wpAny (model P w) B (call (.builtin "sorted") [.ref a]) W E au:=by
 have G:argsOk "sorted" ⟨[.ref a],[]⟩:=args_sorted1 _
 refine Calls.call_function_entry kind_sorted plain_sorted entry_sorted G ?_;unfold Builtin.«sorted»;refine ag (m:=checkCount "sorted" 1 1 _) (aW (ag (kdu_collect (A:=B.in1) S C y (l) λg h acc i f=>?_)))
 have k:acc.toList.length=n:=by rw[fZ];exact f.1
 obtain⟨r,x,I,u⟩:=ask acc.toList k (λj v e=>f.2 j v (by rw[←gU];exact e));refine ag (wpAny_newList ?_ (by rw[k];exact l));have o:(g.push (seqObj "list" acc.toList.toArray 0)).get? g.objs.size=some (seqObj "list" acc.toList.toArray 0):=fY g rfl
 have t:∀ b ob,au.heap.get? b=some ob->(g.push (seqObj "list" acc.toList.toArray 0)).get? b=some ob:=λb ob e=>dY _ (i b ob e)
 have lt:∀b ob,au.heap.get? b=some ob->b≠g.objs.size:=λb ob e=>dJ (cZ (i b ob e))
 show wpAny _ _ _ _ _ { au with heap:=g.push (seqObj "list" acc.toList.toArray 0),toks:=h }
 refine ag (jz (lE slot_list_sort ⟨_,o,rfl⟩ entry_list_sort (RV r (au:={ au with heap:=g.push (seqObj "list" acc.toList.toArray 0),toks:=h }) o (by rw[k]; exact l) x (λtwo=>?_) λp J z=>⟨_,rfl,aW ⟨_,rfl,?_⟩⟩) (args_list_sort _)))
 ·exact I (by lia) _ h λb ob e=>Sc (lt b ob e) (t b ob e)
 ·obtain⟨c,H⟩:=sortedHeap_at (n:=0) (vs:=acc.toList) (out:=cT acc.toList p) o;refine u p g.objs.size _ h c J z (λb ob e=>?_) ?_ H
  ·rw[sortedHeap_old (lt b ob e) (cZ (t b ob e))];exact t b ob e
  ·exact lt
end Srt
namespace L2
open Spec PyProof.Rows PySem.W
theorem cM(h:n<=1000000):n<=sizeLine:=ay h (by rw[me];lia)
theorem R9:∀{c:List Value}{a b:List Int},IntsAre c a->IntsAre c b->a=b
 |_,_,_,.nil,.nil=>rfl
 |_,_,_,.cons x t r,.cons _ _ r'=>by rw[R9 r r']
theorem P5(a:fC g ps):Srt.sG (Srt.dL (ps.map (·.2))) (ps.map λp=>Value.ref p.1):=λi j k f e=>by
 rw[bj] at k f;have l:ps[i]?=some ps[i]:=bV k;have m:ps[j]?=some ps[j]:=bV f;rw[zn (λp:Addr×List Int=>Value.ref p.1) _ l,zn (λp:Addr×List Int=>Value.ref p.1) _ m] at e;injection e with e
 obtain⟨us,o,n,t,c,x,b⟩:=a _ (gf k);obtain⟨h,y,v,s,r,w,u⟩:=a _ (gf f);rw[e,r] at c;injection c with c
 subst c;rw[u] at b;injection b with b _
 have q:h=us:=by simpa using b
 subst q;have d:=R9 t s;unfold Srt.dL;rw[zn (λp:Addr×List Int=>p.2) _ l,zn (λp:Addr×List Int=>p.2) _ m,d]
def fP(K:Fg):List V->Hp->VK->Prop:=λe H Q=>∃(l:Addr) (c:List (Addr×List Int)),e=[.ref l]/\dr K H l (c.map λp=>V.ref p.1)/\c.length<=1000000/\sk K H c /\
 ∀(q:Addr) (d:List (Addr×List Int)),H q=none->d.Perm c->(d.map (·.2)).Pairwise (λa b=>HT.lexLt b a=false)->Q (.ref q) (bf H q (.lst (d.map λp=>V.ref p.1)))
def fh:List V->Hp->VK->Prop:=λe H Q=>∃(a:Addr) (b:List (List cA×V)) (d:List (List Int)),e=[.ref a]/\Rd H a (.dT b)/\b.map (·.1)=d.map (λf=>f.map Sum.inl)/\d.length<=1000000 /\
 ∀(q:Addr) (c:List (Addr×List Int)),H q=none->(c.map (·.2)).Perm d->(c.map (·.2)).Pairwise (λx y=>HT.lexLt y x=false)->(∀p∈c,H p.1=some (.tup (p.2.map V.int)))->Q (.ref q) (bf H q (.lst (c.map λp=>V.ref p.1)))
theorem U3{X:Cx}(hu:X.A.units + 64<cLine):bN X (.builtin "sorted") (fP X.K):=by
 intro aU s σ H xs v Q I r h;obtain⟨l,ps,rfl,hl,k,U,q⟩:=h;obtain⟨u,rfl,G⟩:=vals1 r;cases G;obtain⟨j,m,pl,hz⟩:=I.list hl;have d:j=ps.map λp=>Value.ref p.1:=by
  have e:(ps.map λp=>V.ref p.1)=(ps.map (·.1)).map V.ref:=by rw[eS];rfl
  rw[e] at m;rw[Rz m,eS]
  rfl
 subst d;have f:∀g:Heap,(∀b o,s.heap.get? b=some o->g.get? b=some o)->fC g ps:=λg c p J=>by
  obtain⟨v,i,⟨o,P,E,n,Y⟩,_⟩:=I.tuple (U p J);exact⟨v,o,n,vb i,c _ _ P,E,Y⟩
 refine Srt.U1 (Srt.dL (ps.map (·.2))) pl.isList (by rw[bj];exact cM k) (P5 (f s.heap λ_ _ z=>z)) (λx g c=>wO (by show X.A.units+1+1<cLine;lia) (by rw[bj] at x;exact x) (f g c)) (λp t C=>?_);rw[bj] at t C;obtain⟨w,y,S,q3⟩:=Qw t C;obtain⟨e,A⟩:=sortedAll_at s.heap (ps.map λp=>Value.ref p.1) (Srt.cT (ps.map λp=>Value.ref p.1) p);rw[q3] at A ⊢;refine⟨.ref (s.heap.objs.size+1),_,I.laid (a:=s.heap.objs.size+1) (o:=.lst (w.map λp=>V.ref p.1)) (t':=s.toks) (λ_ _ z=>sortedAll_old z) (tJ _) ⟨?_,_,e,Su w,A⟩,rfl,q _ _ (I.hok.fresh (tJ _)) y S⟩;rw[bj,y.length_eq];exact cM (by lia)
theorem U9{X:Cx}(hc:X.calm=true)(hu:X.A.units + 64<cLine):bN X (.builtin "sorted") fh:=by
 intro aU s σ H xs S Q I r h;obtain⟨a,m,ks,rfl,hd,ek,a5,q⟩:=h;obtain⟨u,rfl,ru⟩:=vals1 r;cases ru;obtain⟨z,ns,ys,y,ob,j,ep,e1,e2,e3,e4,e5⟩:=(show ba X.prog X.w H s.heap a (.dT m) from hd.ok I.hok)
 obtain⟨ps,U,C,a3⟩:=RH (P:=X.prog) (w:=X.w) y ek;have a0:ps.length=ks.length:=by rw[←U,bj]
 have f:j.toList.map (·.key)=ps.map λp=>Value.ref p.1:=by rw[e4,eS];exact a3
 have a4:j.size=ps.length:=by
  have:=congrArg List.length f;rw[bj,bj,fZ] at this;exact this
 have e:∀g:Heap,(∀b o,s.heap.get? b=some o->g.get? b=some o)->fC g ps:=λg d p l=>by
  obtain⟨S,rv,⟨o,b2,b3,n,b4⟩,_⟩:=I.tuple (cH.of (C p l));exact⟨S,o,n,vb rv,d _ _ b2,b3,b4⟩
 refine Srt.Sg (Dct.Ki ns j ep) (I.ok.hd hc) ⟨ob,e1,e2,e3⟩ (cM (by lia)) λk hl hv=>?_
 have v:k=ps.map λp=>Value.ref p.1:=by
  rw[←f];apply tT;intro i;by_cases hi:i<j.size
  ·have J:k[i]?=some k[i]:=bV (by lia);obtain⟨en,h2,h3⟩:=hv i _ J;rw[J,h3,fM,gU,h2]
   rfl
  ·rw[oq (by lia),oq (by rw[bj,fZ];lia)]
 subst v;refine⟨Srt.dL (ps.map (·.2)),P5 (e s.heap λ_ _ z=>z),λh2 g tk d=>wO (by show X.A.units+1+1<cLine;lia) (by lia) (e g d),λp t g tk c G p2 d Y E=>?_⟩;rw[bj] at G p2;obtain⟨x,A,q2,q3⟩:=Qw G p2;rw[q3] at E;refine⟨.ref t,_,I.laidN (o:=.lst (x.map λp=>V.ref p.1)) d Y ⟨?_,_,c,Su x,E⟩,rfl,q t x (I.away Y) ((A.map _).trans (by rw[U])) q2 λp l=>C p (A.mem_iff.mp l)⟩;rw[bj,A.length_eq];exact cM (by lia)
end L2
namespace L2
open Spec PyProof.Rows
theorem So{b d:Type}[DecidableEq b]{k:b}:∀{a:List (b×d)}{j:Nat}{p:d},(a.map (·.1)).Nodup->a[j]?=some (k,p)->a.eraseIdx j=a.filter λx=>decide (x.1≠k)
 |[],_,_,_,e=>by simp at e
 |x::r,0,p,nd,e=>by
  simp at e;subst e;rw[cr,g7] at nd;rw[List.eraseIdx_cons_zero,hE (by simp)]
  symm
  rw[Ou];intro y f;refine cI λz=>nd.1 ?_
  rw[←z];exact bS.mpr ⟨y,f,rfl⟩
 |x::r,j+1,p,nd,e=>by
  rw[cr,g7] at nd;have c:r[j]?=some (k,p):=by simpa using e
  have g:x.1≠k:=λz=>nd.1 (by rw[z];exact bS.mpr ⟨_,ew c,rfl⟩)
  rw[OL,gV (by simpa using g),So nd.2 c]
theorem Q5{a b:Type}(f:a->b):∀(l:List a) (j:Nat),(l.map f).eraseIdx j=(l.eraseIdx j).map f
 |[],_=>rfl
 |_::_,0=>rfl
 |x::l,j+1=>by rw[cr,OL,OL,cr,Q5 f l j]
section
variable {κ:Type}[DecidableEq κ]
section
variable {prog:Program}{w:World}{knd:HeapKind prog w κ}{A:Around}{E:Value->Shared->Prop}{s:Shared}{d:Addr}{a:Addr}{k:κ}{xs:List (κ×Addr×Value)}{p:Addr×Value}
theorem Th{W:Option DictEntry->Shared->Prop}(y:knd.room A)(b:knd.is s.heap k a)(H:s.heap.DictOfH knd d xs)(r:atKey xs k=some p)(J:xs.length<=sizeLine)
  (m:∀e t,e.val=p.2->t.DictOfH knd d (xs.filter λx=>decide (x.1≠k))->Heap.SameBut d s.heap t->W (some e) {s with heap:=t,toks:=s.toks+knd.draws k}):
  wpAny (model prog w) A (Builtin.Dict.takeOut d (.ref a)) W E s:=by
 obtain⟨o,C,P,f,Q,c,i,g,h⟩:=H;unfold Builtin.Dict.takeOut;refine jz ?_;refine ag (knd.pyHash y b ?_);refine ag (wpAny_dictFind_heap (s:={s with toks:=s.toks+knd.draws k}) y b f c i g h (λz=>?_) λj q u=>?_)
 ·rw[atKey_none_of_get z] at r;cases r
 ·have G:q=p:=by
   have z:=atKey_of_get h u;rw[r] at z;exact(g8 z).symm
  subst G;refine ag (yq (s:={s with toks:=s.toks+knd.draws k}) f c ?_);rw[entry_at i j,u];have v:C.size<=sizeLine:=by have:=size_of_entries i;lia
  refine ag (wpAny_updateDictKeys (hz:=v) (s:={s with toks:=s.toks+knd.draws k}) f c (aW (m _ _ rfl ⟨_,_,P+1,pQ _ f (Obj.isFreed_of_dict (Obj.data_mapDictKeys c _)),Q.mapDictKeys _,Obj.data_mapDictKeys c _,?_,λx I=>?_,?_⟩ (ng ..))))
  ·rw[←So h u];obtain⟨l⟩:=C;have n:l=xs.map (entryOfKey knd):=i;subst n;simp[Q5]
  ·exact knd.keeps (g x (dH.mp I).1) f c (ng ..)
  ·exact List.Sublist.nodup (List.Sublist.map (λx:κ×Addr×Value=>x.1) yw) h
end
theorem Mn{b:HeapKind prog w κ}{A:Around}{s:Shared}{W:Value->Shared->Prop}(y:b.room A.in1)(f:b.is s.heap k a)(h:s.heap.DictOfH b d xs)(m:atKey xs k=some p)(j:xs.length<=sizeLine)
  (i:∀c,c.DictOfH b d (xs.filter λx=>decide (x.1≠k))->Heap.SameBut d s.heap c->W p.2 {s with heap:=c,toks:=s.toks+b.draws k}):
  wpAny (model prog w) A (call (.builtin "dict.pop") [.ref d,.ref a]) W E s:=by
 have M:MeetsIn prog w (Builtin.«dict.pop» ⟨[.ref d,.ref a],[]⟩) (λB R g=>B=A/\g=s/\∀c,c.DictOfH b d (xs.filter λx=>decide (x.1≠k))->Heap.SameBut d s.heap c->R (.ok (.ret p.2)) {s with heap:=c,toks:=s.toks+b.draws k}):=
  .of_wp λB R g l=>by
   obtain⟨J,C,q⟩:=l;subst J C;unfold Builtin.«dict.pop» Builtin.Dict.keyAndDefault;refine ag (ag (wpAny_notOrdered_dict h.typeIs (aW ?_)));obtain⟨o,I,U,n,X,v,Q,u,S⟩:=id h;have H:I.isEmpty=false:=by
    have:=size_of_entries Q;cases xs with
    |nil=>cases m
    |cons x r=>
     rw[dw] at this;rw[Array.isEmpty_eq_false_iff];intro z;rw[z] at this;simp at this
   simp only[keyPart,Option.isSome_none,jk,gP];refine ag (yq n v (ag (aW ?_)));rw[H];simp only[jk,gP];refine ag (Th y f h m j λe c P G t=>?_);simp only[Option.isNone_some,jk,gP];exact ag (wpAny_letGo (aW ⟨e.val,rfl,by rw[P];exact q c G t⟩))
 exact ya C8 h.typeIs F.entry_dict_pop (F.args_dict_pop_2 _ _) M ⟨rfl,rfl,i⟩
end
theorem KT.drop(r:KT H kvs xs)(k:List cA):KT H (di kvs k) (xs.filter λx=>decide (x.1≠k)):=by
 unfold di
 induction r with
 |nil=>exact .nil
 |@cons p q ps qs h t ih=>
  by_cases e:p.1=k
  ·rw[hE (by simp[e]),hE (by simp[←h.1,e])];exact ih
  ·rw[gV (by simp[e]),gV (by simp[←h.1,e])];exact .cons h ih
theorem Gy{X:Cx}{k:List cA}(C:X.A.units+1<cLine)(I:Inv X aU σ H s)(e:H a=some (.dT kvs))(P:H b=some (.tup (k.map kV)))(l:cu kvs k=some v)
  (h:∀ w' m,Inv X aU σ (bf H a (.dT (di kvs k))) m->RelV v w'->Q w' m):wpAny (model X.prog X.w) X.A (call (.builtin "dict.pop") [.ref a,.ref b]) Q E s:=by
 obtain⟨z,y,t,d,G⟩:=vq I.hok e;obtain⟨w',f,j⟩:=fq.some_of (v:=v) (o:=(atKey t k).map (·.2)) (by rw[←l];exact d.val k);cases hp:atKey t k with
 |none=>rw[hp] at f;cases f
 |some p=>
  rw[hp] at f;have g:p.2=w':=g8 f;subst g;refine Mn (yt C) (sK I.hok P) G hp (by rw[←rj d];exact z) λh' i u=>h _ _ ?_ j
  obtain⟨q,J,A,n,S,x,U,_,w⟩:=i;refine uA I (by rw[e];exact True.intro) u ⟨q,n⟩ ⟨ay (pP _ _) z,y,_,(d.drop k).keeps λc Y r=>?_,q,J,A,n,S,x,U,w⟩;rw[zx (vt r e (λz=>nomatch z))];exact r
def rM(e f:TE):TE:=λd H Q=>e d H λx H1=>∃a,x=.ref a/\Dt H1 a/\f d H1 λy H2=>∃c k v b,H2 a=some (.dT c)/\y=.ref b/\H2 b=some (.tup (k.map kV))/\cu c k=some v/\Q v (bf H2 a (.dT (di c k)))
theorem Mh{X:Cx}(J:X.A.units + 1<cLine)(t:PE X o td)(Y:PE X e ty)(m:M1 X o "pop" apos e cpos):PE X (.Call (.Attribute o "pop" apos) [e] [] cpos) (rM td ty):=by
 intro g s i H Q I h;refine wpAny_Call_method m.base m.few m.line De C8 F.type_dict_pop (bw (t g s i H _ I h) λu n f=>?_);obtain⟨x,H1,j,p,a,ex,d,U⟩:=f;subst ex;obtain rfl:u=Value.ref a:=p;obtain⟨t1,P,_⟩:=v7 j d;refine⟨t1,P,?_⟩;rw[m.trees];refine OI rfl (OD (yv (bw (Y g n i H1 _ j U) λA s2 ⟨y,H2,E,r,w,k,v,b,q,z,S,l,C⟩=>CW ?_)));subst z;cases(show A=Value.ref b from r);exact Gy J E q S l λw' s3 G c=>⟨v,_,G,c,C⟩
def pY(K:Fg):R2:=λx y H Q=>∃a b c d,x=.ref a/\y=.ref b/\cH K H a c/\cH K H b d/\c.length+d.length<=sizeLine /\
 (c=[]->Q (.ref b) H)/\(c≠[]->d=[]->Q (.ref a) H)/\(c≠[]->d≠[]->∀p,H p=none->Q (.ref p) (bf H p (.tup (c++d))))
theorem JQ:dv X (binaryOp .Add) (pY X.K):=by
 intro G s σ H x y v u Q I m o h;obtain⟨a,b,r,J,rfl,rfl,C,l,hz,q0,q1,U⟩:=h;by_cases hx:r=[]
 ·cases m;cases o;obtain⟨f,Y,S,_⟩:=I.tuple C;obtain⟨g,r2,p2,_⟩:=I.tuple l;obtain⟨⟨P,dd,t,sl⟩,p,A,n,w⟩:=id S;obtain⟨⟨q,k,data2,j⟩,i,c,E,d⟩:=id p2;simp only at A w c d;subst A w c d;have e:f=[]:=Y.nil_iff.mpr hx;exact concat_meets ⟨_,p,rfl⟩ ⟨_,i,rfl⟩ noFill_tuple_add seq_tuple_add OJ OP (OR _ _)
   (tuple_addW0 a b f.toArray g.toArray n E dd k sl j (by simp[e])) ⟨p,i,⟨.ref b,H,I,rfl,q0 hx⟩⟩
 ·exact JR G s σ H _ _ v u Q I m o ⟨a,b,r,J,rfl,rfl,C,l,hx,hz,λz=>q1 hx z,λz=>U hx z⟩
theorem M7{s:Shared}{lo b:Option Int}{W:Value->Shared->Prop}(a:IsTup s.heap t its)(h:s.heap.IsSliceOf sl vl vu .none)(k:IsPart vl lo)(j:IsPart vu b)
  (l:HT.bW its.size 0 lo=0)(m:HT.bW its.size its.size b=its.size)(d:W (.ref t) s):wpAny (model prog w) A (getItem (.ref t) (.ref sl)) W E s:=by
 obtain⟨os,g,f,i⟩:=id h;unfold getItem
 try with_reducible refine jz ?_
 first|refine ag (aW ?_)|skip
 refine ag (wpAny_sequenceKey a.typeIs (by decide) ?_);refine ag (wpAny_callSpecial?_slot (name:=Str.ofString "__getitem__") a.typeIs CY (lE CY a.typeIs entry_tuple_getitem ?_ (args_tuple_getitem _ _)))
 show wpAny _ _ (Builtin.Tuple.tupleItemsOf (.ref t) >>= _) _ _ s;refine ag (tupleItemsOf_ a ?_);have c:s.TypeIs (.ref sl) "slice":=⟨os,g,f⟩
 refine ag (wpAny_typeOf c ?_);rw[if_pos (by decide)];refine ag (HT.SB h k j ?_);have e:(((HT.bW its.size 0 lo:Nat):Int)==0&&(1:Int)==1&&(HT.bW its.size its.size b-HT.bW its.size 0 lo)==its.size)=true:=by
  rw[l,m];simp
 show wpAny _ _ (if(((HT.bW its.size 0 lo:Nat):Int)==0&&(1:Int)==1&&(HT.bW its.size its.size b-HT.bW its.size 0 lo)==its.size)=true then _ else _) _ _ s;rw[if_pos e];refine ag (?_:wpAny _ _ (Builtin.Tuple.tupleIsExact (.ref t)) _ _ s);unfold Builtin.Tuple.tupleIsExact;refine ag (wpAny_typeOf a.typeIs (aW ?_));rw[if_pos (by decide)];exact ag (nZ (aW ⟨_,rfl,aW d⟩))
def Pc(K:Fg):V->Option Int->Option Int->Hp->VK->Prop:=λx lo c H Q=>∃a b,x=.ref a/\cH K H a b/\(gG b lo c=b->Q (.ref a) H)/\∀p,H p=none->Q (.ref p) (bf H p (.tup (gG b lo c)))
theorem Ko:qc X (Pc X.K):=by
 intro o s u H x v n q lo l m Q I i f j e h;obtain⟨a,c,rfl,k,t,p⟩:=h;by_cases hw:HT.bW c.length 0 lo=0/\HT.bW c.length c.length l=c.length
 ·cases i;obtain⟨d,r,g,w⟩:=I.tuple k;have b:d.toArray.size=c.length:=by rw[eE];exact r.length.symm
  refine⟨"tuple",_,CY.lookup,g.typeIs,?_⟩
  refine M7 g f j e (by rw[b];exact hw.1) (by rw[b];exact hw.2) ⟨.ref a,H,I,rfl,t ?_⟩;unfold gG;rw[hw.1,hw.2];simp
 ·exact Ia o s u H _ v n q lo l m Q I i f j e ⟨a,c,rfl,k,hw,p⟩
theorem Sd(a:List Int):∀k,k<=a.length->preSum (λi=>a.getD i 0) k=(a.take k).sum
 |0,_=>rfl
 |k+1,h=>by
  show preSum (λi=>a.getD i 0) k+a.getD k 0=_;rw[Sd a k (by lia),OV (by lia),gZ,cJ,bV (by lia)];simp
theorem DF:∀{a:List Int}{b:List Value}{i:Nat}{v:Value},am (a.map V.int) b->b[i]?=some v->∃t,v=.int (a.getD i 0) t
 |[],_,_,_,.nil,e=>by simp at e
 |n::a,_,0,_,.cons r _,e=>by
  simp at e;subst e
  obtain⟨t,rfl⟩:=r;exact⟨t,rfl⟩
 |n::a,_,i+1,v,.cons _ t,e=>by
  have:=DF (i:=i) t (by simpa using e)
  simpa using this
def yS(K:Fg):List V->Hp->VK->Prop:=λc H Q=>∃(a:Addr) (b:List Int),c=[.ref a]/\(dr K H a (b.map V.int)\/cH K H a (b.map V.int))/\Q (.int b.sum) H
theorem BP{X:Cx}(hc:X.calm=true):bN X (.builtin "sum") (yS X.K):=by
 intro aU s σ H xs us Q I r h;obtain⟨a,ns,rfl,hs,q⟩:=h;obtain⟨u,rfl,ru⟩:=vals1 r;cases ru;have key:∀{its:List Value}(h':Heap) (tk:Nat) (t':Tok) (nn:Nat),nn=ns.length->(∀b o,b≠s.heap.objs.size->s.heap.get? b=some o->h'.get? b=some o) ->
   EP X aU σ Q (.int (preSum (λi=>ns.getD i 0) nn) t') {s with heap:=h',toks:=tk}:=λh' tk t' nn hn hk=>by
  subst hn;rw[Sd ns _ (br _),dU];exact⟨.int ns.sum,H,I.kept (t':=tk) λb o e=>hk b o (dJ (cZ e)) e,⟨_,rfl⟩,q⟩
 refine call_sum_walkG ?_;rcases hs with hs|hs
 ·obtain⟨its,rv,pl,hz⟩:=I.list hs;have hlt:a<s.heap.objs.size:=by obtain⟨o,n,e,_⟩:=pl;exact cZ e
  have hl:=rv.length;rw[bj] at hl;refine CQ pl.isList ?_;refine⟨s.heap.objs.size,_,[s.heap.objs.size],_,_,_,λi=>ns.getD i 0,rfl,Walks.list (A:=X.A.in1) (I.ok.hd hc) _ a (dJ hlt) its.toArray,⟨⟨_,fY _ rfl,rfl,rfl⟩,pl.isList.push _⟩,?_,λi v e=>DF rv (by simpa using e),λh' tk t' hk=>?_⟩
  ·intro b hb;show b<(s.heap.push _).objs.size;rw[show ∀o:Obj,(s.heap.push o).objs.size=s.heap.objs.size+1 from λo=>by simp[Heap.push]];rcases ca.mp hb with rfl|hb
   ·exact yo _
   ·rcases ca.mp hb with rfl|hb
    ·exact tS hlt
    ·cases hb
  ·exact key (its:=its) h' tk t' _ (by simp[hl]) λb o hb e=>hk b o (by simpa using hb) (dY _ e)
 ·obtain⟨its,rv,pl,hz⟩:=I.tuple hs;have hlt:a<s.heap.objs.size:=pl.lt;have hl:=rv.length;rw[bj] at hl;have pt:s.heap.IsTuple a its.toArray:=pl;refine C0 pt ?_;refine⟨s.heap.objs.size,_,[s.heap.objs.size],_,_,_,λi=>ns.getD i 0,rfl,Walks.tuple (A:=X.A.in1) (I.ok.hd hc) _ a (dJ hlt) its.toArray,⟨⟨_,fY _ rfl,rfl,rfl⟩,pt.push _⟩,?_,λi v e=>DF rv (by simpa using e),λh' tk t' hk=>?_⟩
  ·intro b hb;show b<(s.heap.push _).objs.size;rw[show ∀o:Obj,(s.heap.push o).objs.size=s.heap.objs.size+1 from λo=>by simp[Heap.push]];rcases ca.mp hb with rfl|hb
   ·exact yo _
   ·rcases ca.mp hb with rfl|hb
    ·exact tS hlt
    ·cases hb
  ·exact key (its:=its) h' tk t' _ (by simp[hl]) λb o hb e=>hk b o (by simpa using hb) (dY _ e)
theorem Eu{A:Around}{s:Shared}(k:A.handled=none)(d:s.heap.IsTupleIter it t i)(r:s.heap.IsTuple t items)
  (p:∀x,items[i]?=some x->∀a,a.IsTupleIter it t (i+1)->Heap.SameBut it s.heap a->Q x {s with heap:=a})
  (h:items[i]?=none->∀ a e,Heap.ExtBut it s.heap a->(∃ o,a.get? e=some o/\o.cls=.type "StopIteration")->E (.ref e) { s with heap:=a }):wpAny (model prog w) A (Builtin.SmallTypes.nextOf (.ref it)) Q E s:=by
 rcases d with⟨o,b,f,c⟩
 rcases r with⟨u,l,_,n,j⟩
 refine ag (wpAny_callSpecial?_slot (name:=Str.ofString "__next__") ⟨o,b,f⟩ F.slot_tuple_iterator_next (lE F.slot_tuple_iterator_next ⟨o,b,f⟩ F.entry_tuple_iterator_next ?_ (F.args_tuple_iterator_next_1 _)))
 have m:(#[Value.ref t,.int i 0]:Array Value)[0]?=some (.ref t):=rfl;have q:(#[Value.ref t,.int i 0]:Array Value)[1]?=some (.int i 0):=rfl
 wp_walk using x3 b c m,x3 b c q,wpAny_seqItems l j
 rw[kL];cases hx:items[i]? with
 |some x=>
  exact ag (rk b c (by simp) (aW ⟨x,rfl,aW (p x hx _ ⟨_,pQ _ b (yy (rE c _)),(CU ..).trans f,by rw[rE c];simp[rawInt]⟩ (.update ..))⟩))
 |none=>
  have g:A.in1.handled=none:=k
  wp_walk using rk b c (by simp)
  unfold raiseNew;refine ag (wpAny_handled ?_);rw[g];exact ag (aW (wpAny_throw (h hx _ _ ((ng ..).extBut.push _ |>.push _) ⟨_,fY _ rfl,rfl⟩)))
theorem r8{A:Around}(n:A.handled=none)(d t:Addr)(k:t≠d)(c:Array Value):
  Draws prog w A d [d,t] (c.size+1) (λj v=>∃i,j=i+1/\c[i]?=some v) (λj h=>∃i,j=i+1/\h.IsTupleIter d t i/\h.IsTuple t c) where
 live:=λ_ _ ⟨_,_,⟨o,y,_⟩,_⟩=>⟨o,y⟩
 frame:=λ_ _ _ ⟨i,e,a,b⟩ p=>⟨i,e,a.at λo e=>p d (by simp) o e,b.at λo e=>p t (by simp) o e⟩
 item:=λj s Q E C l r=>by
  obtain⟨i,e,a,b⟩:=l;have G:i<c.size:=by lia
  refine Eu n a b (λx m u g f=>?_) λz=>absurd z (by simp;lia)
  exact r _ u s.toks ⟨i,e,m⟩ ⟨i+1,by lia,g,b.extBut f.extBut k⟩ f
 done:=λs Q E ⟨i,e,a,b⟩ q=>Eu n a b (λx m=>absurd m (by rw[yA (by lia)];simp)) λ_=>q
theorem r9{A:Around}(k:A.handled=none)(d t:Addr)(c:Array Value)(i:Nat)(m:c.size<=i):
  Draws prog w A d [d,t] (i+1) (λ_ _=>False) (λj h=>j=i+1/\h.IsTupleIter d t i/\h.IsTuple t c) where
 live:=λ_ _ ⟨_,⟨o,n,_⟩,_⟩=>⟨o,n⟩
 frame:=λ_ _ _ ⟨e,a,b⟩ f=>⟨e,a.at λo e=>f d (by simp) o e,b.at λo e=>f t (by simp) o e⟩
 item:=λj s Q E p ⟨e,_⟩ _=>absurd e (by lia)
 done:=λs Q E ⟨_,a,b⟩ g=>Eu k a b (λx l=>absurd l (by rw[yA m];simp)) λ_=>g
theorem Inv.turned2{h':Heap}(I:Inv X g σ H s)(k:∀b o,b≠e->b≠it->s.heap.get? b=some o->h'.get? b=some o)(l:H it=none)(i:it≠X.env.locals)
  (A:it∈X.ex\/X.s₀.heap.objs.size<=it)(U:∀x c,X.env.cells.lookup x=some c->c≠it)(J:∀p∈X.pn++g,p.1≠it)(j:H e=none)(h:e≠X.env.locals)
  (C:e∈X.ex\/X.s₀.heap.objs.size<=e)(E:∀x c,X.env.cells.lookup x=some c->c≠e)(Q:∀p∈X.pn++g,p.1≠e):Inv X g σ H {s with heap:=h',toks:=t'}:=by
 have d:∀b u,H b=some u->b≠it:=λb u e z=>by rw[z,l] at e;cases e
 have f:∀b u,H b=some u->b≠e:=λb u q z=>by rw[z,j] at q;cases q
 refine I.step (g':=s.gens) (d':=s.drawn) (ch:=[e,it]) (λb t=>?_) (λb o _ _ a e _=>k b o (λz=>a (by simp[z])) (λz=>a (by simp[z])) e) (λb o _ _ a e _=>⟨o.slots,k b o (λz=>a (by simp[z])) (λz=>a (by simp[z])) e⟩) (λ_ _ _ _ n=>n)
  (λb o a e=>⟨o,k b o (λz=>a (by simp[z])) (λz=>a (by simp[z])) e⟩) (λ_ _ e=>e) (λ_ _ _ e=>e) (λb Y e=>⟨#[],by rw[e];simp⟩) (λm y=>?_) (λb u e=>?_) I.bare
 ·rcases ca.mp t with z|z
  ·subst z;exact⟨C,h,E,Q⟩
  ·have G:b=it:=by simpa using z
   subst G;exact⟨A,i,U,J⟩
 ·obtain⟨o,S,P,w,r⟩:=y;exact⟨o,S,P,k _ o (fX h) (fX i) w,r⟩
 ·refine(I.hok b u e).stay (λc v a q=>k c v ?_ ?_ q) (λ_ q=>q) λ_ _ q=>q
  ·rcases a with z|z
   ·rw[z];exact f b u e
   ·exact f c _ z
  ·rcases a with z|z
   ·rw[z];exact d b u e
   ·exact d c _ z
def S1(K:Fg) (a:Addr):It:=
 ⟨λi H=>∃b x,cH K H a b/\b[i]?=some x,λi H y c=>∃p,H p=none/\y=.ref p/\∀b x,cH K H a b->b[i]?=some x->c=bf H p (.tup [.int ((i+1:Nat):Int),x]),λi H=>∃b,cH K H a b/\b.length<=i⟩
theorem Ug{P:Program}{w:World}{K:Fg}{a2:List Expr}{k:Nat}{a3:Pos}(e it a:Addr)(t:e≠it):
  jR P w K (.Tuple a2 k a3) (S1 K a) [e,it] e (λi h=>(∃f,IsEnum h e it ((i+1:Nat):Int) f)/\h.IsTupleIter it a i) where
 mem:=by simp
 obj:=λi h m b hb=>by
  obtain⟨⟨f,l⟩,o,e',c,d⟩:=m;rcases ca.mp hb with rfl|hb
  ·exact⟨_,l,λv z=>by
    have z':Data.fields _=Data.cell v:=z
    cases z'⟩
  ·have:b=it:=by simpa using hb
   subst this;exact⟨o,e',λv z=>by rw[d] at z;cases z⟩
 keep:=λi h h' m k=>⟨let ⟨f,l⟩:=m.1;⟨f,k e (by simp) _ l⟩,m.2.at λo z=>k it (by simp) o z⟩
 item:=by
  intro X hP hw hK hc i aU s σ H E I hf m hg;subst hP hw hK;obtain⟨xs,x,hq,hx⟩:=hg;obtain⟨⟨f,l⟩,j⟩:=m;obtain⟨g,rv,p,hz⟩:=I.tuple hq;have ht:s.heap.IsTuple a g.toArray:=p;obtain⟨u,hu,ru⟩:=rv.get hx;have a4:a≠e:=λz=>by
   obtain⟨o,C,n,_⟩:=ht;rw[z,l] at C;cases C;simp at n
  have a9:a≠it:=λz=>by
   obtain⟨o,C,n,_⟩:=ht;obtain⟨o',J,a0,_⟩:=j;rw[z,J] at C;cases C;rw[a0] at n;simp at n
  have hi:i<g.length:=(db.mp hu).1;have D:=r8 (prog:=X.prog) (w:=X.w) (A:=X.A.in1) (I.ok.hd hc) it a a9 g.toArray;refine wpAny_pyNext_enum_itemD D (i:=i+1) l ⟨i,rfl,j,ht⟩ (by simp;lia) t (by simp;exact⟨t,λz=>a4 z.symm⟩) λS h' r hP C a7 hT b0 hk=>?_
  obtain⟨i',e1,e2⟩:=hP;cases(show i'=i by lia);have eu:S=u:=by
   rw[List.getElem?_toArray,hu] at e2;exact(g8 e2).symm
  subst eu;refine⟨_,rfl,wpAny_letOwnedTupleGo_enum C λh2 a8 U=>?_⟩;obtain⟨f0,f1,f2,f3,f4,f5⟩:=hf e (by simp);obtain⟨g0,g1,g2,g3,g4,g5⟩:=hf it (by simp);have G:e<s.heap.objs.size:=cZ l;have a1:it<s.heap.objs.size:=by obtain⟨o',J,_⟩:=j;exact cZ J
  have I1:Inv X aU σ (bf H s.heap.objs.size (.tup [.int ((i + 1:Nat):Int),x])) { s with heap:=s.heap.push { cls:=.type "tuple",data:=.seq #[.int ((i + 1:Nat):Int) r,S] },toks:=s.toks }:=
   I.laid (λ_ _ q=>dY _ q) (br _) ⟨by simp;decide,[.int ((i+1:Nat):Int) r,S],.cons ⟨r,rfl⟩ (.cons ru .nil),⟨_,fY _ rfl,rfl,_,rfl⟩⟩
  have T2:h2.get? s.heap.objs.size=some { cls:=.type "tuple",data:=.seq #[.int ((i + 1:Nat):Int) r,S] }:=(U.2 _ (tN G)).trans hT
  have I2:Inv X aU σ (bf H s.heap.objs.size (.tup [.int ((i+1:Nat):Int),x])) {s with heap:=h2,toks:=r+1}:=by
   refine Inv.turned2 (s:={ s with heap:=s.heap.push { cls:=.type "tuple",data:=.seq #[.int ((i + 1:Nat):Int) r,S] },toks:=s.toks }) (h':=h2) (t':=r + 1) (e:=e) (it:=it) I1 (λb o Y a6 q=>?_) (by rw[zx (dJ a1)]; exact g0) g1 g3 g4 g5 (by rw[zx (dJ G)]; exact f0) f1 f3 f4 f5
   have q':(s.heap.push { cls:=.type "tuple",data:=.seq #[.int ((i + 1:Nat):Int) r,S] }).get? b=some o:=q
   rcases Heap.get?_push_cases q' with⟨z,z2⟩|z
   ·rw[z,z2];exact T2
   ·exact(U.2 _ Y).trans (hk b o Y a6 z)
  refine⟨.ref s.heap.objs.size,_,I2,rfl,⟨s.heap.objs.size,I.fresh,rfl,λys y hy e'=>?_⟩,⟨⟨S,?_⟩,?_⟩,λb hb=>?_⟩
  ·rw[I.tuple_inj hy hq,hx] at e';cases e'
   rfl
  ·have:(((i+1+1:Nat)):Int)=(((i+1:Nat)):Int)+1:=by push_cast;rfl
   rw[this];exact a8
  ·obtain⟨i',e3,e4,_⟩:=a7;cases(show i'=i+1 by lia);exact e4.at λo q=>(U.2 it (fX t)).trans q
  ·rcases ca.mp hb with rfl|hb
   ·rw[zx (dJ G)];exact f0
   ·have:b=it:=by simpa using hb
    subst this;rw[zx (dJ a1)];exact g0
 done:=by
  intro X hP hw hK hc i aU s σ H E I hf m hg;subst hP hw hK;obtain⟨xs,hq,hx⟩:=hg;obtain⟨⟨f,l⟩,j⟩:=m;obtain⟨g,rv,p,hz⟩:=I.tuple hq;have ht:s.heap.IsTuple a g.toArray:=p;have hl:=rv.length;obtain⟨g0,g1,g2,g3,g4,g5⟩:=hf it (by simp);have D:=r9 (prog:=X.prog) (w:=X.w) (A:=X.A.in1) (I.ok.hd hc) it a g.toArray i (by simp;lia);exact wpAny_pyNext_enum_endD D l ⟨rfl,j,ht⟩ λh' a5=>⟨rfl,I.turned (t':=s.toks) (λb o hb e=>a5 b o hb e) g0 g1 g3 g4 g5⟩
 self:=λA i s Q E m h=>let ⟨f,l⟩:=m.1;wpAny_pyIter_enum l h
theorem Nh(a:Addr)(e:Array Value)(n:Obj)(t:Tok):
  Meets (Builtin.«enumerate.__new__» ⟨[.type "enumerate",.ref a],[(Str.ofString "start",.int 1 t)]⟩) (λ_ R s=>s.heap.get? a=some n/\s.heap.IsTuple a e /\
   R (.ok (.ret (.ref (s.heap.objs.size+1))))
    { s with heap:=(s.heap.push { cls:=.type "tuple_iterator",data:=.fields #[.ref a,.int 0 0] }).push { cls:=.type "enumerate",data:=.fields #[.none,.bool false,.ref s.heap.objs.size,rawInt 1,.none,.none] } }):=by
 refine Meets.of_wp ?_;rintro k w A R ⟨m,g,d,o,os⟩ ⟨j,l,i⟩;have h:=sub_enumerate;have f:(m.push { cls:=.type "tuple_iterator",data:=.fields #[.ref a,.int 0 0] }).objs.size=m.objs.size + 1:=CB ..
 rw[←f] at i
 wp_walk using OQ j
 refine wpAny_stack_any λ_=>aW ?_
 split
 ·rename_i c _ _ _ _ _;generalize (c==Value.type "enumerate")=b
  cases b<;>(wp_walk using OQ j,C0 l;exact⟨_,rfl,i⟩)
 ·wp_walk using OQ j,C0 l
  exact⟨_,rfl,i⟩
theorem Jg{T e:String}{b a:Value}{c:List Value}{k:Str×Value}{f:List (Str×Value)}(l:typeLookup (.type T) "__init__"=pure (some (.builtin "object.__init__")))(i:Bind.madeBy (.type T)=pure (some e))
  (j:(some e != some "object.__new__")=true):Meets (Builtin.«object.__init__» ⟨b::a::c,k::f⟩) (λ_ R s=>s.TypeIs b T/\R (.ok (.ret .none)) s):=
 .of_wp λ_ _ _ _ _ d=>by
  obtain⟨h,g⟩:=d
  repeat any_goals first|assumption|wp_step
  exact⟨_,rfl,g⟩
theorem LS(a:Value)(t:Tok):checkBuiltinCall "enumerate.__new__" ⟨[.type "enumerate",a],[(Str.ofString "start",.int 1 t)]⟩=pure ():=by kernel_rfl
theorem LZ(o a:Value)(t:Tok):argsOk "object.__init__" ⟨[o,a],[(Str.ofString "start",.int 1 t)]⟩:=by kernel_rfl
theorem TK{f:Program}{w:World}{A:Around}{E:Value->Shared->Prop}{s:Shared}{a:Addr}{d:Array Value}{t:Tok}{Q:Value->Shared->Prop}(n:s.heap.IsTuple a d)
  (h:∀l,IsEnum l (s.heap.objs.size+1) s.heap.objs.size 1 .none->l.IsTupleIter s.heap.objs.size a 0->(∀b o,s.heap.get? b=some o->l.get? b=some o)->Q (.ref (s.heap.objs.size+1)) {s with heap:=l}):
  wpAny (model f w) A (call (.type "enumerate") [.ref a] [(Str.ofString "start",.int 1 t)]) Q E s:=by
 rcases id n with⟨z,k,_⟩
 have g:=F.called_enumerate;rcases g.mro with⟨c,H,G⟩
 have v:=g.made;have J:=g.sub;have I:=g.notType;have P:=g.canCreate;have u:=g.init.lookup;have i:(s.heap.push { cls:=.type "tuple_iterator",data:=.fields #[.ref a,.int 0 0] }).objs.size=s.heap.objs.size + 1:=CB ..
 have p:IsEnum ((s.heap.push { cls:=.type "tuple_iterator",data:=.fields #[.ref a,.int 0 0] }).push { cls:=.type "enumerate",data:=.fields #[.none,.bool false,.ref s.heap.objs.size,rawInt 1,.none,.none] }) (s.heap.objs.size + 1) s.heap.objs.size 1 .none:=by
  rw[←i];exact fY _ rfl
 have done:=h _ p ⟨_,dY _ (fY _ rfl),rfl,rfl⟩ λb o x=>dY _ (dY _ x)
 refine wpAny_call (codeAny_of_tree (aW ⟨Code.quiet_builtin _ (by decide +kernel),yi F.entry_type_call ?_⟩));rw[Around.under_plain (weight_type_call_type _ _ _) (units_type_call_type _ _ _)]
 repeat any_goals first|assumption|wp_step
 refine rf (Ox g.plain F.entry_enumerate_new (wpAny_of_eq (LS _ t) (Nh a d z t f w A.in1 (wants (λx m=>m.TypeIs x "enumerate"/\Q x m) E) s ⟨k,n,⟨_,p,rfl⟩,done⟩))) ?_
 clear done p i h n k;rintro(e|_|_|_|x) m j
 case ok.ret=>
  obtain⟨T,q⟩:=j;have C:=g.init.bind x
  repeat any_goals first|assumption|wp_step
  refine rf (Ox g.init.plain F.entry_object_init (g.init.check _ _ _ _ _ _ _ _ T (LZ _ _ t) (Jg u v (by decide) f w A.in1 (wants (λy r=>y=.none/\Q x r) E) _ ⟨T,rfl,q⟩))) ?_;rintro(e|_|_|_|y) r j
  case ok.ret=>
   obtain⟨rfl,q⟩:=j
   repeat any_goals first|assumption|wp_step
  all_goals first|exact j|exact j.elim
 all_goals first|exact j|exact j.elim
theorem zX{M:Model}{T:String}{b:List (Bool×Sem Value)}{c:List (Option Str×Sem Value)}(f:b.any (·.1)=false)(e:c.any (·.1.isNone)=false)
  (h:wpAny M A (evalArgs (.type T) true b c) (λa d=>wpAny M A (call (.type T) (first++a.pos) a.kw) Q E d) E s):wpAny M A (callWith pos (.type T) first b c) Q E s:=by
 unfold callWith;refine ag (jz (ir h ?_ λ_ _=>id));intro a d k;rw[f,e];exact ag (Cw (ag (aW (ag (ir k (λ_ _ q=>ag (jz (wpAny_point (aW q)))) λ_ _=>id)))))
def rZ(K:Fg) (b:TE):TI:=λd H R=>b d H λx H1=>∃a,x=.ref a/\(∃c,cH K H1 a c)/\R (S1 K a) H1
theorem Ml(P:Gl X "enumerate")(y:X.mg "enumerate"=none)(S:PE X l tl)
  (r:starEach [l] X.env=[(false,eval l X.env)]:=by rfl):
  PI X (.Tuple elts k tpos) (.Call (.Name "enumerate" p) [l] [⟨some "start",.Constant (.int 1) j cpos,kpos⟩] pos) (rZ X.K tl):=by
 intro t s J H R I h;refine CZ (ut I P y PyProof.Rows.boot_enumerate ?_);refine zX (by rw[r];rfl) rfl ?_;rw[r];refine evalArgs_kwB rfl ?_;refine yv (bw (S t s J H _ I h) λv c i=>?_);obtain⟨x,H1,m,E,Q⟩:=i;refine CW ?_;refine kws_cons ?_;refine wpAny_Constant_int (kws_nil ?_);obtain⟨a,rfl,⟨xs,w⟩,q⟩:=Q;cases E;have n:=m.tok (c.toks+1);obtain⟨C,Y,A,hz⟩:=n.tuple w;refine TK (show _ from A) λo d f U=>?_
 refine wpAny_pyIter_enum d ?_;have G:=n.kept (h':=o) (t':=c.toks+1) U;refine⟨c.heap.objs.size+1,[c.heap.objs.size+1,c.heap.objs.size],_,_,H1,rfl,G,Ug _ c.heap.objs.size a (Nat.succ_ne_self _),⟨⟨_,d⟩,f⟩,λb u=>?_,q⟩;have e:c.heap.objs.size<=b:=by
  have g:b=c.heap.objs.size+1\/b=c.heap.objs.size:=by simpa using u
  cases g with
  |inl z=>exact z ▸ tJ _
  |inr z=>exact z ▸ br _
 exact m.fpOk e (m.hok.fresh e)
noncomputable def cG(a:Bool) (n:Int) (b:List Int):Int:=b.foldl (λi j=>if(if a then decide (j > i) else decide (j<i))=true then j else i) n
theorem Ed:∀(ns:List Int) (n:Int),cG true n ns∈n::ns/\∀a∈n::ns,a<=cG true n ns
 |[],n=>⟨by simp[cG],by simp[cG]⟩
 |m::ns,n=>by
  have e:cG true n (m::ns)=cG true (if m > n then m else n) ns:=by simp[cG]
  obtain⟨d,c⟩:=Ed ns (if m > n then m else n);rw[e];refine⟨?_,λa ha=>?_⟩
  ·rcases ca.mp d with z|z
   ·rw[z];split<;>simp
   ·simp[z]
  ·have b:=c _ dB;rcases ca.mp ha with rfl|ha
   ·refine yc ?_ b;split<;>lia
   ·rcases ca.mp ha with rfl|ha
    ·refine yc ?_ b;split<;>lia
    ·exact c a (bU _ ha)
theorem TD{ns:List Int}(g:k=ns.length):(n::ns).getD (argBest (λi j=>decide ((n::ns).getD i 0 >(n::ns).getD j 0)) k) 0=cG true n ns:=by
 subst g;obtain⟨o,f⟩:=argBest_gt (λi=>(n::ns).getD i 0) ns.length;obtain⟨c,d⟩:=Ed ns n;have b:argBest (λi j=>decide ((n::ns).getD i 0 >(n::ns).getD j 0)) ns.length<(n::ns).length:=by rw[dw];lia
 obtain⟨j,a,l⟩:=nh c;have h:=f j (by simp at a;lia);have m:=d ((n::ns).getD (argBest (λi j=>decide ((n::ns).getD i 0 >(n::ns).getD j 0)) ns.length) 0) (by rw[cJ,bV b];exact gf b);have e:(n::ns).getD j 0=cG true n ns:=by rw[cJ,bV a,l];rfl
 rw[e] at h;lia
end L2
namespace Dd
open L2
set_option genInjectivity true in
inductive D where
 |non|bl (b:Bool)|int (i:Int)|str (x:Str)|ty (n:String)|ref (n:Nat)|tup (ds:List D)|lst (ds:List D)|scr (ds:List D)|exn (c:Str) (l:List Int)
set_option genInjectivity true in
inductive O where
 /-- a list that may change;a dict by tuples of ints;one that is only read;gone -/
 |lst (xs:List D)|dT (kvs:List (List Int×D))|fT (kvs:List (List Int×D))|dead
 /-- a dict by ints -/
 |dI (kvs:List (Int×D))
 /-- a dict by tuples of tuples of ints,each True -/
 |dP (ks:List (List (List Int)))
 /-- the law's table of codes -/
 |tab
noncomputable abbrev ab:=List O
structure S8 where
 cls:Str
 at_:List Int
set_option genInjectivity true in
inductive bu (α:Type) where
 |ok (a:α) (au:ab)|exc (x:S8) (au:ab)|stuck
def bu.bind{b c:Type}:bu b->(b->ab->bu c)->bu c
 |.ok a au,f=>f a au
 |.exc x au,_=>.exc x au
 |.stuck,_=>.stuck
@[simp] theorem zq {b c:Type}(a:b) (au:ab) (f:b->ab->bu c):(bu.ok a au).bind f=f a au:=rfl
@[simp] theorem VN {a b:Type}(x:S8) (au:ab) (f:a->ab->bu b):(bu.exc x au:bu a).bind f=.exc x au:=rfl
@[simp] theorem VY {a b:Type}(f:a->ab->bu b):(bu.stuck:bu a).bind f=.stuck:=rfl
theorem za{d e:Type}{r:bu d}{f:d->ab->bu e}{b:e}{st':ab}(h:r.bind f=.ok b st'):∃a c,r=.ok a c/\f a c=.ok b st':=by
 cases r with
 |ok a c=>exact⟨a,c,rfl,h⟩
 |exc x c=>cases h
 |stuck=>cases h
noncomputable abbrev DS:=List (Option D)
abbrev SE:=DS->ab->bu D
abbrev ST:=DS->ab->bu Bool
abbrev SA:=DS->ab->bu (List D)
set_option genInjectivity true in
inductive Fl where
 |nx (σ:DS)|ret (v:D)|brk (σ:DS)|ct (σ:DS)
abbrev SS:=DS->ab->bu Fl
abbrev cX:=List D->ab->bu D
structure Loc where
 m:List (Option Addr)
 g:List Addr
def dX(b:Loc) (a:Addr):Prop:=some a∉b.m/\a∉b.g
def Ls(K:Fg) (c:Loc) (H:Hp) (a:Addr) (b:List V):Prop:=(Rd H a (.lst b)/\dX c a)\/∀d:Hp,dr K d a b
def Do(K:Fg) (e:Loc) (H:Hp) (c:Str) (l:List Int) (a:Addr):Prop:=∃C o,W.nsIn K mainGlobals c=some (some (.ref C))/\(H a=some (.frz o (.ext λ_=>True))/\dX e a)/\o.cls=.ref C/\(∃d,o.data=.fields d/\d[2]?=some .none) /\
 ((l=[]/\o.dict=none)\/∃ i b f,l=[i]/\o.dict=some b/\H b=some (.frz f (.xd [("at",.int i)]))/\dX e b)
theorem Do.map{K:Fg}(h:Do K ρ H c l a)(f:∀b g u,H b=some (.frz g u)->dX ρ b->H' b=some (.frz g u)/\dX ρ' b):Do K ρ' H' c l a:=by
 obtain⟨C,o,t,e,q,p,d⟩:=h;refine⟨C,o,t,f _ _ _ e.1 e.2,q,p,?_⟩;rcases d with d|⟨i,r,m,n,s,k,j⟩
 ·exact .inl d
 ·exact .inr ⟨i,r,m,n,s,(f _ _ _ k j).1,(f _ _ _ k j).2⟩
mutual
inductive At (K:Fg) (ρ:Loc) (H:Hp):D->V->Prop
 |non:At K ρ H .non .non
 |bl (b:Bool):At K ρ H (.bl b) (.bl b)
 |int (i:Int):At K ρ H (.int i) (.int i)
 |str (x:Str):At K ρ H (.str x) (.str x)
 |ty (n:String):At K ρ H (.ty n) (.ty n)
 |ref {n:Nat}{v:V}:n < ρ.m.length->(∀a,ρ.m[n]?=some (some a)->v=.ref a)->At K ρ H (.ref n) v
 |tup {a:Addr}{ds:List D}{vs:List V}:H a=some (.tup vs)->dX ρ a->ae K ρ H ds vs->At K ρ H (.tup ds) (.ref a)
 |lst {a:Addr}{ds:List D}{vs:List V}:H a=some (.lst vs)->dX ρ a->ae K ρ H ds vs->At K ρ H (.lst ds) (.ref a)
 |scr {a:Addr}{ds:List D}{vs:List V}:Ls K ρ H a vs->ae K ρ H ds vs->At K ρ H (.scr ds) (.ref a)
 |exn {c:Str}{l:List Int}{a:Addr}:Do K ρ H c l a->At K ρ H (.exn c l) (.ref a)
inductive ae (K:Fg) (ρ:Loc) (H:Hp):List D->List V->Prop
 |nil:ae K ρ H [] []
 |cons {d:D}{ds:List D}{v:V}{vs:List V}:At K ρ H d v->ae K ρ H ds vs->ae K ρ H (d::ds) (v::vs)
end
structure Mv (ρ:Loc) (H:Hp) (ρ':Loc) (H':Hp):Prop where
 out:∀{a:Addr}{o:HO},H a=some o->dX ρ a->H' a=some o/\dX ρ' a
 len:ρ.m.length<=ρ'.m.length
 old:∀(n:Nat) (a:Addr),n < ρ.m.length->ρ'.m[n]?=some (some a)->ρ.m[n]?=some (some a)
theorem Ls.mv{K:Fg}(x:Mv ρ H ρ' H')(h:Ls K ρ H a vs):Ls K ρ' H' a vs:=by
 rcases h with⟨h|⟨o,h⟩,n⟩|h
 ·exact .inl ⟨.inl (x.out h n).1,(x.out h n).2⟩
 ·exact .inl ⟨.inr ⟨o,(x.out h n).1⟩,(x.out h n).2⟩
 ·exact .inr h
theorem At.mv{K:Fg}(x:Mv ρ H ρ' H') (h:At K ρ H d v):At K ρ' H' d v:=
 At.rec (motive_1:=λd v _=>At K ρ' H' d v) (motive_2:=λd v _=>ae K ρ' H' d v) .non .bl .int .str .ty (λh e=>.ref (da h x.len) λa q=>e a (x.old _ a h q)) (λh n _ c=>.tup (x.out h n).1 (x.out h n).2 c) (λh n _ c=>.lst (x.out h n).1 (x.out h n).2 c) (λh _ c=>.scr (h.mv x) c) (λh=>.exn (h.map λ_ _ _ e n=>x.out e n)) .nil (λ_ _ a b=>.cons a b) h
theorem ae.mv{K:Fg}(x:Mv ρ H ρ' H') (h:ae K ρ H d v):ae K ρ' H' d v:=
 ae.rec (motive_1:=λ_ _ _=>True) (motive_2:=λd v _=>ae K ρ' H' d v) trivial (λ_=>trivial) (λ_=>trivial) (λ_=>trivial) (λ_=>trivial) (λ_ _=>trivial) (λ_ _ _ _=>trivial) (λ_ _ _ _=>trivial) (λ_ _ _=>trivial) (λ_=>trivial) .nil (λa _ _ b=>.cons (a.mv x) b) h
structure bF (ρ:Loc) (H:Hp) (ρ':Loc) (H':Hp):Prop where
 len:ρ.m.length<=ρ'.m.length
 old:∀(n:Nat) (a:Addr),n < ρ.m.length->ρ'.m[n]?=some (some a)->ρ.m[n]?=some (some a)
 keep:∀a o,H a=some o->some a∉ρ.m->H' a=some o/\some a∉ρ'.m
 gho:ρ'.g=ρ.g
 frz:∀a ob u,H a=some (.frz ob u)->H' a=some (.frz ob u)
theorem bF.out(x:bF ρ H ρ' H') (h:H a=some o)(n:dX ρ a):H' a=some o/\dX ρ' a:=
 ⟨(x.keep a o h n.1).1,(x.keep a o h n.1).2,by rw[x.gho];exact n.2⟩
theorem bF.mv(x:bF ρ H ρ' H'):Mv ρ H ρ' H':=⟨λh n=>x.out h n,x.len,x.old⟩
theorem Ls.sq{K:Fg}(h:Ls K ρ H a vs):dr K H a vs:=by
 rcases h with h|h
 ·exact .inl h.1
 ·exact h H
theorem bF.refl(a:Loc)(H:Hp):bF a H a H:=⟨br _,λ_ _ _ e=>e,λ_ _ e n=>⟨e,n⟩,rfl,λ_ _ _ e=>e⟩
theorem bF.trans(a:bF ρ H ρ1 H1)(b:bF ρ1 H1 ρ2 H2):bF ρ H ρ2 H2:=
 ⟨ay a.len b.len,λn c h e=>a.old n c h (b.old n c (da h a.len) e),λc o e n=>by
  obtain⟨g,f⟩:=a.keep c o e n
  exact b.keep c o g f,b.gho.trans a.gho,λc d u e=>b.frz c d u (a.frz c d u e)⟩
theorem At.ext{K:Fg}(x:bF ρ H ρ' H') (h:At K ρ H d v):At K ρ' H' d v:=h.mv x.mv
theorem ae.ext{K:Fg}(x:bF ρ H ρ' H') (h:ae K ρ H d v):ae K ρ' H' d v:=h.mv x.mv
theorem ae.length{K:Fg}:∀{a:List D}{b:List V},ae K ρ H a b->b.length=a.length
 |_,_,.nil=>rfl
 |_,_,.cons _ t=>by rw[dw,dw,ae.length t]
theorem ae.get{K:Fg}:∀{b:List D}{c:List V}{i:Nat}{d:D},ae K ρ H b c->b[i]?=some d->∃v,c[i]?=some v/\At K ρ H d v
 |_,_,_,_,.nil,e=>by simp at e
 |_,_,0,_,.cons a _,e=>by simp at e;subst e;exact⟨_,rfl,a⟩
 |_,_,i+1,d,.cons _ t,e=>by
  obtain⟨u,f,g⟩:=ae.get (i:=i) (d:=d) t (by simpa using e);exact⟨u,by simpa using f,g⟩
theorem ae.append{K:Fg}:∀{c f:List D}{d e:List V},ae K ρ H c d->ae K ρ H f e->ae K ρ H (c++f) (d++e)
 |_,_,_,_,.nil,b=>b
 |_,_,_,_,.cons a t,b=>.cons a (ae.append t b)
theorem ae.take{K:Fg}:∀{b:List D}{c:List V}(n:Nat),ae K ρ H b c->ae K ρ H (b.take n) (c.take n)
 |_,_,0,_=>.nil
 |_,_,_+1,.nil=>.nil
 |_,_,n+1,.cons a t=>.cons a (ae.take n t)
theorem ae.drop{K:Fg}:∀{b:List D}{c:List V}(n:Nat),ae K ρ H b c->ae K ρ H (b.drop n) (c.drop n)
 |_,_,0,h=>h
 |_,_,_+1,.nil=>.nil
 |_,_,n+1,.cons a t=>ae.drop n t
theorem ae.set{K:Fg}(a:At K ρ H d v):∀{c:List D}{e:List V}(n:Nat),ae K ρ H c e->ae K ρ H (c.set n d) (e.set n v)
 |_,_,_,.nil=>.nil
 |_,_,0,.cons _ t=>.cons a t
 |_,_,n+1,.cons b t=>.cons b (ae.set a n t)
def dG(K:Fg) (a:Loc) (H:Hp):List (List Int×D)->List (List cA×V)->Prop:=Paired λp q=>q.1=p.1.map Sum.inl/\At K a H p.2 q.2
theorem dG.ext{K:Fg}(x:bF ρ H ρ' H') (h:dG K ρ H a b):dG K ρ' H' a b:=Paired.mapP h λp q z=>⟨z.1,z.2.ext x⟩
noncomputable abbrev Ph:Str:=(("law" : Str)++".<locals>.")++"<lambda>"
def kr(H:Hp) (d:Array Value):Prop:=TriplesOk d.toList/\∀a f,codeAmong a d.toList=some f->∃c e b t,f=.ref c/\H c=some (.frz e (.ext λ_=>True))/\e.data=.fields b/\b[1]?=some (.str Ph t)
theorem kr.map(h:kr H ps)(f:∀b d u,H b=some (.frz d u)->H' b=some (.frz d u)):kr H' ps:=
 ⟨h.1,λa m e=>by obtain⟨c,k,g,t,j,i,l⟩:=h.2 a m e;exact⟨c,k,g,t,j,f _ _ _ i,l⟩⟩
def ed(K:Fg) (a:Loc) (H:Hp):List (Int×D)->List (cA×V)->Prop:=Paired λp q=>q.1=Sum.inl p.1/\At K a H p.2 q.2
theorem ed.ext{K:Fg}(x:bF ρ H ρ' H') (h:ed K ρ H a b):ed K ρ' H' a b:=Paired.mapP h λp q z=>⟨z.1,z.2.ext x⟩
noncomputable def AG(a:Addr) (d:List DictEntry):Heap->Prop:=λh=>∃o b c,h.get? a=some o/\o.ExactDict/\o.data=.dict b c/\b.toList=d
noncomputable def zU(k:List (List Int)):Int:=reduceHash (Builtin.Tuple.tupleHashOf (k.map λr=>reduceHash (Builtin.Tuple.tupleHashOf (r.map hashInt))))
noncomputable def zJ(k:List (List Int)):D:=.tup (k.map λr=>.tup (r.map .int))
def oV(K:Fg) (a:Loc) (H:Hp):List (List (List Int))->List DictEntry->Prop:=Paired λk e=>e.hash=zU k/\e.val=.bool true/\∃b,e.key=.ref b/\At K a H (zJ k) (.ref b)
theorem oV.map{K:Fg}(k:∀d v,At K ρ H d v->At K ρ' H' d v) (h:oV K ρ H a b):oV K ρ' H' a b:=Paired.mapP h λp q ⟨i,e,c,g,f⟩=>⟨i,e,c,g,k _ _ f⟩
def lc(K:Fg) (d:Loc) (H:Hp):O->Addr->Prop
 |.lst xs,a=>∃b,H a=some (.lst b)/\ae K d H xs b
 |.dT kvs,a=>∃b,H a=some (.dT b)/\dG K d H kvs b
 |.fT kvs,a=>∃b g,H a=some (.frz g (.dT b))/\dG K d H kvs b
 |.dI kvs,a=>∃b,H a=some (.dK b)/\ed K d H kvs b
 |.dP ks,a=>∃e,H a=some (.ext (AG a e))/\(a==sysModules)=false/\ks.length<=sizeLine/\ks.Nodup/\oV K d H ks e
 |.dead,_=>False
 |.tab,a=>(∃ c,W.tabIn K "law"=some (c,a))/\∃ f,H a=some (.tbl f)/\kr H f
structure bZ (K:Fg) (ρ:Loc) (au:ab) (H:Hp):Prop where
 len:ρ.m.length=au.length
 inj:∀(n m:Nat) (a:Addr),ρ.m[n]?=some (some a)->ρ.m[m]?=some (some a)->n=m
 obj:∀(n:Nat) (a:Addr) (o:O),ρ.m[n]?=some (some a)->au[n]?=some o->lc K ρ H o a
 gh:∀a∈ρ.g,(∃vs,H a=some (.lst vs))/\some a∉ρ.m
 live:∀(n:Nat) (o:O),au[n]?=some o->o≠.dead->∃a,ρ.m[n]?=some (some a)
def Wf(K:Fg) (a:Loc) (H:Hp) (o:Option D) (v:Option V):Prop:=∀d,o=some d->∃u,v=some u/\At K a H d u
abbrev dc(K:Fg) (a:Loc) (H:Hp):DS->St->Prop:=Paired (Wf K a H)
theorem dc.ext{K:Fg}(x:bF ρ H ρ' H') (h:dc K ρ H σ τ):dc K ρ' H' σ τ:=Paired.mapP h λo v z d e=>by
 obtain⟨u,b,a⟩:=z d e;exact⟨u,b,a.ext x⟩
theorem dc.get{K:Fg}:∀{c:DS}{b:St}{i:Nat}{d:D},dc K ρ H c b->c[i]?=some (some d)->∃u,b[i]?=some (some u)/\At K ρ H d u
 |_,_,_,_,.nil,e=>by simp at e
 |_,_,0,_,.cons a _,e=>by
  simp at e;subst e
  obtain⟨u,f,h⟩:=a _ rfl;exact⟨u,by simp[f],h⟩
 |_,_,i+1,d,.cons _ t,e=>by
  obtain⟨u,j,g⟩:=dc.get (i:=i) (d:=d) t (by simpa using e);exact⟨u,by simpa using j,g⟩
theorem dc.set{K:Fg}(a:At K ρ H d v):∀{b:DS}{c:St}(i:Nat),dc K ρ H b c->dc K ρ H (b.set i (some d)) (c.set i (some v))
 |_,_,_,.nil=>.nil
 |_,_,0,.cons _ t=>.cons (λf e=>by cases e;exact⟨v,rfl,a⟩) t
 |_,_,i+1,.cons q t=>.cons q (dc.set a i t)
def tD(K:Fg) (f:SE):TE:=λh H Q=>∃d g e v b,dc K d H g h/\bZ K d e H/\f g e=.ok v b/\∀a c u,bF d H a c->bZ K a b c->At K a c v u->Q u c
def nm(K:Fg) (f:ST):TT:=λh H Q=>∃c g e v b,dc K c H g h/\bZ K c e H/\f g e=.ok v b/\∀a d,bF c H a d->bZ K a b d->Q v d
def O6(K:Fg) (f:SA):TA:=λh H Q=>∃d g e v b,dc K d H g h/\bZ K d e H/\f g e=.ok v b/\∀a c u,bF d H a c->bZ K a b c->ae K a c v u->Q u c
def oZ(K:Fg) (e:Loc) (H:Hp) (c:ab) (E:lf):Fl->Prop
 |.nx σ=>∀a b d,bF e H a b->bZ K a c b->dc K a b σ d->E.nx d b
 |.brk σ=>∀a b d,bF e H a b->bZ K a c b->dc K a b σ d->E.bk d b
 |.ct σ=>∀a b d,bF e H a b->bZ K a c b->dc K a b σ d->E.ct d b
 |.ret v=>∀a b u,bF e H a b->bZ K a c b->At K a b v u->E.rt u b
theorem oZ.ext{K:Fg}(x:bF ρ H ρ1 H1)(h:oZ K ρ H st' E fl):oZ K ρ1 H1 st' E fl:=by
 cases fl with
 |nx σ=>exact λa c b e=>h a c b (x.trans e)
 |brk σ=>exact λa c b e=>h a c b (x.trans e)
 |ct σ=>exact λa c b e=>h a c b (x.trans e)
 |ret v=>exact λa c b e=>h a c b (x.trans e)
def Dj(K:Fg) (f:SS):TS:=λE g H=>∃b e d c a,dc K b H e g/\bZ K b d H/\f e d=.ok c a/\oZ K b H a E c
abbrev DE(X:Cx) (e:Expr) (f:SE):Prop:=PE X e (tD X.K f)
abbrev DT(X:Cx) (e:Expr) (f:ST):Prop:=PT X e (nm X.K f)
abbrev DW(X:Cx) (e:Expr) (f:ST):Prop:=PW X e (nm X.K f)
abbrev DA(X:Cx) (a:List Expr) (f:SA):Prop:=PA X a (O6 X.K f)
abbrev jo(X:Cx) (s:Stmt) (f:SS):Prop:=PS X s (Dj X.K f)
abbrev mN(X:Cx) (s:List Stmt) (f:SS):Prop:=jf X s (Dj X.K f)
theorem fK(h:PE X e t)(k:∀a H Q,t' a H Q->t a H Q):PE X e t':=λb s a H Q I q=>h b s a H Q I (k _ _ _ q)
theorem kI(h:PT X e t)(k:∀a H Q,t' a H Q->t a H Q):PT X e t':=λb s a H Q I q=>h b s a H Q I (k _ _ _ q)
theorem p0(h:PW X e t)(k:∀a H Q,t' a H Q->t a H Q):PW X e t':=λc b s a H Q I q=>h c b s a H Q I (k _ _ _ q)
theorem vw(h:PA X es t)(k:∀a H Q,t' a H Q->t a H Q):PA X es t':=λb c s a H Q I q=>h b c s a H Q I (k _ _ _ q)
theorem li(h:PS X s t)(k:∀E a H,t' E a H->t E a H):PS X s t':=λb z a H E I q=>h b z a H E I (k _ _ _ q)
theorem wv(h:jf X ss t)(k:∀E a H,t' E a H->t E a H):jf X ss t':=λb z a H E I q=>h b z a H E I (k _ _ _ q)
def aA(i:Nat):SE:=λb a=>match b[i]? with
 |some (some d)=>.ok d a
 |_=>.stuck
def eC(d:D):SE:=λ_ a=>.ok d a
theorem FD(h:PE X e (oy i)):DE X e (aA i):=fK h λl H Q b=>by
 obtain⟨j,n,m,v,k,a,r,e,q⟩:=b;unfold aA at e;split at e
 ·rename_i d c;cases e;obtain⟨u,g,f⟩:=a.get c;exact⟨u,g,q j H u (.refl _ _) r f⟩
 ·cases e
theorem lY(h:PE X e (tC v))(k:∀c H,At X.K c H d v):DE X e (eC d):=fK h λg H Q b=>by
 obtain⟨c,j,i,v,f,a,r,e,q⟩:=b;cases e;exact q c H _ (.refl _ _) r (k _ _)
theorem Ft{i j pos}:DE X (.Constant (.int i) j pos) (eC (.int i)):=lY HC λ_ _=>.int i
theorem Pz{b j pos}:DE X (.Constant (.bool b) j pos) (eC (.bl b)):=lY FV λ_ _=>.bl b
theorem Fw{j pos}:DE X (.Constant .none j pos) (eC .non):=lY HD λ_ _=>.non
theorem FB{x j pos}:DE X (.Constant (.str x) j pos) (eC (.str x)):=lY HG λ_ _=>.str x
def aS(g:D->D->ab->bu D) (f d:SE):SE:=λc e=>(f c e).bind λx b=>(d c b).bind λy a=>g x y a
def lR(g:D->ab->bu D) (f:SE):SE:=λc b=>(f c b).bind λx a=>g x a
def gJ(K:Fg) (g:D->D->ab->bu D) (r:R2):Prop:=
 ∀d H e x y u v z b (Q:VK),bZ K d e H->At K d H x u->At K d H y v->g x y e=.ok z b->(∀a c w,bF d H a c->bZ K a b c->At K a c z w->Q w c)->r u v H Q
theorem nP{K:Fg}(I:gJ K g r):∀d H Q,tD K (aS g f f') d H Q->yH r (tD K f) (tD K f') d H Q:=λd H Q j=>by
 obtain⟨U,t,X,v,o,a,Y,e,q⟩:=j;obtain⟨x,c,J,e⟩:=za e;obtain⟨y,b,C,e⟩:=za e;refine⟨U,t,X,x,c,a,Y,J,λm H1 u s l S=>?_⟩;refine⟨m,t,c,y,b,a.ext s,l,C,λn H2 w p i E=>?_⟩;exact I n H2 b x y u w v o Q i (S.ext p) E e λh G z A k P=>q h G z (s.trans (p.trans A)) k P
theorem Pv(h:dv X (binaryOp op) r)(e:gJ X.K g r)(c:DE X a f)(d:DE X b f'):DE X (.BinOp a op b pos) (aS g f f'):=fK (FX h c d) (nP e)
theorem Fq(i:dv X (compareOp op) r)(h:gJ X.K g r)(d:DE X a f)(e:DE X b f')(c:behindInMarks op b=false):DE X (.Compare a [op] [b] pos) (aS g f f'):=fK (JZ i d e c) (nP h)
def eB(f:SE):ST:=λd c=>(f d c).bind λv a=>match v with
 |.bl b=>.ok b a
 |_=>.stuck
theorem r0{K:Fg}:∀h H Q,nm K (eB f) h H Q->tD K f h H λx H1=>∃c,x=.bl c/\Q c H1:=λh H Q b=>by
 obtain⟨l,p,n,v,m,a,i,e,q⟩:=b;obtain⟨x,d,j,e⟩:=za e;refine⟨l,p,n,x,d,a,i,j,λk H1 u r g o=>?_⟩;cases x<;>try (cases e;done)
 cases e;cases o;exact⟨_,rfl,q _ _ r g⟩
theorem GL(i:dv X (compareOp op) r)(e:gJ X.K g r)(c:DE X a f)(d:DE X b f')(j:behindInMarks op b=false):DT X (.Compare a [op] [b] pos) (eB (aS g f f')):=
 kI (Kh i c d j) λk H Q h=>nP e _ _ _ (r0 _ _ _ h)
def gF(g j:D->D->ab->bu D) (f i h:SE):SE:=λe k=>(f e k).bind λx c=>(i e c).bind λy b=>(g x y b).bind λz a=>match z with
 |.bl true=>(h e a).bind λw d=>j y w d
 |.bl false=>.ok (.bl false) a
 |_=>.stuck
theorem Iz{K:Fg}(hr:gJ K g r)(S:gJ K g' r'):∀n H Q,tD K (gF g g' f f' f'') n H Q->mw r r' (tD K f) (tD K f') (tD K f'') n H Q:=λn H Q E=>by
 obtain⟨ρ,o,au,v,P,a,rp,e,q⟩:=E;obtain⟨x,k,e1,e⟩:=za e;obtain⟨y,c,e2,e⟩:=za e;obtain⟨z,i,e3,e⟩:=za e;refine⟨ρ,o,au,x,k,a,rp,e1,λI H1 u x1 G a1=>?_⟩;refine⟨I,o,k,y,c,a.ext x1,G,e2,λJ H2 w X C Y=>?_⟩;refine hr J H2 c x y u w z i _ C (a1.ext X) Y e3 λd H3 zz U j a3=>?_
 have m:=x1.trans (X.trans U);cases z<;>try (cases e;done)
 rename_i b;cases a3;refine⟨b,rfl,?_⟩;cases b with
 |true=>
  obtain⟨t,h,e4,e⟩:=za e;rw[if_pos rfl];refine⟨d,o,i,t,h,a.ext m,j,e4,λA H4 tt x4 l a4=>?_⟩;exact S A H4 h y t w tt v P Q l (Y.ext (U.trans x4)) a4 e λp H' zz x5 s a5=>q p H' zz (m.trans (x4.trans x5)) s a5
 |false=>
  cases e;rw[if_neg (by decide)];exact q d H3 _ m j (.bl false)
end Dd
namespace Dd
open L2
theorem bF.new(a:H p=none)(o:HO):bF ρ H ρ (bf H p o):=⟨br _,λ_ _ _ e=>e,λb u e m=>⟨by rw[zx (zp e a)];exact e,m⟩,rfl,λb c u e=>by rw[zx (zp e a)];exact e⟩
section
variable {H:Hp}{a:Addr}
theorem BI{c:List V}(h:H a=some (.lst c)):∀b u,H a≠some (.frz b u):=λb u z=>by rw[h] at z;cases z
theorem sO{c:List (List cA×V)}(h:H a=some (.dT c)):∀b u,H a≠some (.frz b u):=λb u z=>by rw[h] at z;cases z
end
theorem bF.wr{c:Loc}{n:Nat}(h:c.m[n]?=some (some a))(f:∀d u,H a≠some (.frz d u))(o:HO):bF c H c (bf H a o):=⟨br _,λ_ _ _ e=>e,λb u e m=>⟨by
 rw[zx]
 ·exact e
 ·rintro rfl
  exact m (ew h),m⟩,rfl,λb d u e=>by
 rw[zx]
 ·exact e
 ·rintro rfl
  exact f _ _ e⟩
theorem lc.has{K:Fg}(h:lc K ρ H x a):∃u,H a=some u:=by
 cases x with
 |lst xs=>obtain⟨b,e,_⟩:=h;exact⟨_,e⟩
 |dT kvs=>obtain⟨b,e,_⟩:=h;exact⟨_,e⟩
 |fT kvs=>obtain⟨b,c,e,_⟩:=h;exact⟨_,e⟩
 |dI kvs=>obtain⟨b,e,_⟩:=h;exact⟨_,e⟩
 |dP ks=>obtain⟨b,e,_⟩:=h;exact⟨_,e⟩
 |dead=>exact h.elim
 |tab=>obtain⟨_,d,e,_⟩:=h;exact⟨_,e⟩
theorem lc.ext{K:Fg}(e:bF ρ H ρ' H')(same:H' a=H a)(h:lc K ρ H x a):lc K ρ' H' x a:=by
 cases x with
 |lst xs=>obtain⟨b,q,r⟩:=h;exact⟨b,by rw[same];exact q,r.ext e⟩
 |dT kvs=>obtain⟨b,q,r⟩:=h;exact⟨b,by rw[same];exact q,r.ext e⟩
 |fT kvs=>obtain⟨b,d,q,r⟩:=h;exact⟨b,d,by rw[same];exact q,r.ext e⟩
 |dI kvs=>obtain⟨b,q,r⟩:=h;exact⟨b,by rw[same];exact q,r.ext e⟩
 |dP ks=>obtain⟨b,q,n,l,u,r⟩:=h;exact⟨b,by rw[same];exact q,n,l,u,r.map λ_ _ z=>z.ext e⟩
 |dead=>exact h.elim
 |tab=>obtain⟨c,f,q,r⟩:=h;exact⟨c,f,by rw[same];exact q,r.map e.frz⟩
theorem bZ.has{K:Fg}{n:Nat}(r:bZ K ρ au H)(h:ρ.m[n]?=some (some a)):∃x,au[n]?=some x/\lc K ρ H x a:=by
 have b:n<au.length:=by rw[←r.len];exact(db.mp h).1
 exact⟨au[n],bV b,r.obj n a _ h (bV b)⟩
theorem bZ.new{K:Fg}(r:bZ K ρ au H)(c:H p=none)(o:HO):bZ K ρ au (bf H p o):=⟨r.len,r.inj,λm b x e d=>by
 have q:=r.obj m b x e d;obtain⟨u,a⟩:=q.has;exact q.ext (bF.new c o) (zx (zp a c)),λb f=>by
 obtain⟨⟨u,a⟩,n⟩:=r.gh b f
 exact⟨⟨u,by rw[zx (zp a c)];exact a⟩,n⟩,r.live⟩
theorem bZ.wr{K:Fg}(r:bZ K ρ au H)(h:ρ.m[n]?=some (some a))(k:∀l u,H a≠some (.frz l u)) (q:lc K ρ (bf H a o) x a):bZ K ρ (au.set n x) (bf H a o):=⟨by rw[r.len,iT],r.inj,λm b y d c=>by
 by_cases hm:m=n
 ·subst hm;have f:b=a:=by rw[h] at d;exact(g8 (g8 d)).symm
  subst f;have p:m<au.length:=by rw[←r.len];exact(db.mp h).1
  rw[pR p] at c;cases c;exact q
 ·rw[fu (fX hm)] at c;refine(r.obj m b y d c).ext (bF.wr h k o) (zx λz=>hm ?_);subst z;exact r.inj m n b d h,λb f=>by
 obtain⟨⟨u,j⟩,g⟩:=r.gh b f;refine⟨⟨u,?_⟩,g⟩;rw[zx]
 ·exact j
 ·rintro rfl;exact g (ew h),λm y e i=>by
 by_cases hm:m=n
 ·subst hm;exact⟨a,h⟩
 ·rw[fu (fX hm)] at e
  exact r.live m y e i⟩
theorem bZ.alloc{K:Fg}(r:bZ K ρ au H)(d:H p=none) (q:bF ρ H ⟨ρ.m++[some p],ρ.g⟩ (bf H p o)->lc K ⟨ρ.m++[some p],ρ.g⟩ (bf H p o) x p):bF ρ H ⟨ρ.m++[some p],ρ.g⟩ (bf H p o)/\bZ K ⟨ρ.m++[some p],ρ.g⟩ (au++[x]) (bf H p o):=by
 have g:∀(m:Nat) (b:Addr),(ρ.m++[some p])[m]?=some (some b)->(m < ρ.m.length/\ρ.m[m]?=some (some b))\/(m=ρ.m.length/\b=p):=λm b e=>by
  rcases pB m ρ.m.length with z|z
  ·rw[gv z] at e;exact .inl ⟨z,e⟩
  ·rw[kQ z] at e;have j:m-ρ.m.length=0:=by
    have:=(db.mp e).1;simp at this;lia
   rw[j] at e;simp at e;exact .inr ⟨by lia,e.symm⟩
 have v:∀(m:Nat),ρ.m[m]?≠some (some p):=λm e=>by
  obtain⟨x,_,q⟩:=r.has e;obtain⟨u,a⟩:=q.has;rw[d] at a;cases a
 have E:bF ρ H ⟨ρ.m++[some p],ρ.g⟩ (bf H p o):=⟨by rw[cQ];lia,λm b h e=>by
   rw[gv h] at e;exact e,λb u e m=>⟨by rw[zx (zp e d)];exact e,λz=>by
   rcases dk.mp z with z|z
   ·exact m z
   ·simp at z;subst z;rw[d] at e;cases e⟩,rfl,λb G u e=>by rw[zx (zp e d)];exact e⟩
 refine⟨E,⟨by rw[cQ,cQ,r.len];rfl,λm k b n c=>?_,λm b y n c=>?_,λb l=>?_,λm y e A=>?_⟩⟩
 ·rcases g m b n with⟨f,i⟩|⟨f,rfl⟩
  ·rcases g k b c with⟨s,t⟩|⟨s,rfl⟩
   ·exact r.inj m k b i t
   ·exact absurd i (v m)
  ·rcases g k b c with⟨s,t⟩|⟨s,_⟩
   ·exact absurd t (v k)
   ·lia
 ·rcases g m b n with⟨f,i⟩|⟨f,rfl⟩
  ·rw[gv (by rw[←r.len];exact f)] at c;have q:=r.obj m b y i c;obtain⟨u,a⟩:=q.has;exact q.ext E (zx (zp a d))
  ·rw[f,r.len,kQ (br _)] at c;simp at c;subst c;exact q E
 ·obtain⟨⟨u,a⟩,w⟩:=r.gh b l;refine⟨⟨u,by rw[zx (zp a d)];exact a⟩,λz=>?_⟩;rcases dk.mp z with z|z
  ·exact w z
  ·simp at z;subst z;rw[d] at a;cases a
 ·rcases pB m au.length with z|z
  ·rw[gv z] at e;obtain⟨b,l⟩:=r.live m y e A;exact⟨b,by rw[gv (by rw[r.len];exact z)];exact l⟩
  ·have j:=(db.mp e).1;simp at j;have C:m=ρ.m.length:=by rw[r.len];lia
   exact⟨p,by rw[C,kQ (br _)];simp⟩
theorem bZ.kill{K:Fg}(r:bZ K ρ au H)(h:n < ρ.m.length):bF ρ H ⟨ρ.m.set n none,ρ.g⟩ H/\bZ K ⟨ρ.m.set n none,ρ.g⟩ (au.set n .dead) H:=by
 have c:∀(m:Nat) (b:Addr),(ρ.m.set n none)[m]?=some (some b)->m≠n/\ρ.m[m]?=some (some b):=λm b e=>by
  by_cases z:m=n
  ·subst z;rw[pR h] at e;simp at e
  ·rw[fu (fX z)] at e;exact⟨z,e⟩
 have E:bF ρ H ⟨ρ.m.set n none,ρ.g⟩ H:=⟨by rw[iT];exact br _,λm b _ e=>(c m b e).2,λb o e m=>⟨e,λz=>by
  obtain⟨i,g,a⟩:=nh z;have:(ρ.m.set n none)[i]?=some (some b):=by rw[bV g,a]
  exact m (ew (c i b this).2)⟩,rfl,λ_ _ _ e=>e⟩
 refine⟨E,⟨by rw[iT,iT,r.len],λm k b f a=>r.inj m k b (c m b f).2 (c k b a).2,λm b y f a=>?_,λb d=>⟨(r.gh b d).1,λz=>?_⟩,λm y e j=>?_⟩⟩
 rotate_left
 ·obtain⟨i,g,a⟩:=nh z;have:(ρ.m.set n none)[i]?=some (some b):=by rw[bV g,a]
  exact(r.gh b d).2 (ew (c i b this).2)
 ·have z:m≠n:=by
   rintro rfl;rw[pR (by rw[←r.len];exact h)] at e;cases e;exact j rfl
  rw[fu (fX z)] at e;obtain⟨b,d⟩:=r.live m y e j;exact⟨b,by rw[fu (fX z)];exact d⟩
 obtain⟨z,q⟩:=c m b f;rw[fu (fX z)] at a;exact(r.obj m b y q a).ext E rfl
theorem EJ{K:Fg}(r:bZ K ρ au H)(c:H p=none):dX ρ p:=by
 refine⟨λz=>?_,λz=>?_⟩
 ·obtain⟨i,d,e⟩:=nh z;obtain⟨x,_,q⟩:=r.has (n:=i) (a:=p) (by rw[bV d,e]);obtain⟨u,b⟩:=q.has;rw[c] at b;cases b
 ·obtain⟨⟨u,b⟩,_⟩:=r.gh p z;rw[c] at b;cases b
theorem At.newT{K:Fg}(r:bZ K ρ au H)(a:H p=none) (h:ae K ρ H ds vs):At K ρ (bf H p (.tup vs)) (.tup ds) (.ref p):=.tup zy (EJ r a) (h.ext (bF.new a _))
theorem At.newL{K:Fg}(r:bZ K ρ au H)(a:H p=none) (h:ae K ρ H ds vs):At K ρ (bf H p (.lst vs)) (.lst ds) (.ref p):=.lst zy (EJ r a) (h.ext (bF.new a _))
def iI(f d:SE):SE:=λb c=>(f b c).bind λv a=>match v with
 |.bl true=>d b a
 |.bl false=>.ok (.bl false) a
 |_=>.stuck
def SW(f d:SE):SE:=λb c=>(f b c).bind λv a=>match v with
 |.bl true=>.ok (.bl true) a
 |.bl false=>d b a
 |_=>.stuck
def k7(f:SE):SE:=λd c=>(f d c).bind λv a=>match v with
 |.bl b=>.ok (.bl (!b)) a
 |_=>.stuck
def k8(f e:ST):ST:=λc d=>(f c d).bind λb a=>if b=true then e c a else .ok false a
def oR(f e:ST):ST:=λc d=>(f c d).bind λb a=>if b=true then .ok true a else e c a
def fU(f:ST):ST:=λd c=>(f d c).bind λb a=>.ok (!b) a
def uh(c:ST) (f g:SE):SE:=λd e=>(c d e).bind λb a=>if b=true then f d a else g d a
theorem Fy{op}(h:DE X a f):DE X (.BoolOp op [a] pos) f:=HF h
section
variable {X:Cx}{a:Expr}{b:Expr}{rest:List Expr}{f:SE}{f':SE}{pos:Pos}
theorem Fp(y:DE X a f)(p:DE X (.BoolOp .And (b::rest) pos) f'):DE X (.BoolOp .And (a::b::rest) pos) (iI f f'):=fK (HA y p) λC H Q j=>by
 obtain⟨w,n,z,v,l,c,A,e,q⟩:=j;obtain⟨x,d,s,e⟩:=za e;refine⟨w,n,z,x,d,c,A,s,λk H1 u h g t=>?_⟩;cases x<;>try (cases e;done)
 rename_i m;cases t;refine⟨m,rfl,?_⟩;cases m with
 |true=>
  rw[if_pos rfl];exact⟨k,n,d,v,l,c.ext h,g,e,λi r u o=>q i r u (h.trans o)⟩
 |false=>
  rw[if_neg (by decide)];cases e;exact q _ _ _ h g (.bl false)
end
theorem Fx(i:DE X a f):DE X (.UnaryOp .Not a pos) (k7 f):=fK (HE i) λt H Q b=>by
 obtain⟨l,r,o,v,n,c,h,e,q⟩:=b;obtain⟨x,d,j,e⟩:=za e;refine⟨l,r,o,x,d,c,h,j,λk H1 u s g p=>?_⟩;cases x<;>try (cases e;done)
 rename_i m;cases p;cases e;exact⟨m,rfl,q _ _ _ s g (.bl _)⟩
theorem GR{op}(h:DT X a t)(b:op=.And\/op=.Or):DW X (.BoolOp op [a] pos) t:=by
 rcases b with rfl|rfl
 ·exact oF h
 ·exact rT h
section
variable {X:Cx}{a:Expr}{b:Expr}{rest:List Expr}{t:ST}{t':ST}{pos:Pos}
theorem GQ(n:DT X a t)(p:DW X (.BoolOp .And (b::rest) pos) t'):DW X (.BoolOp .And (a::b::rest) pos) (k8 t t'):=p0 (rV n p) λy H Q h=>by
 obtain⟨r,l,u,v,j,c,w,e,q⟩:=h;obtain⟨x,d,o,e⟩:=za e;refine⟨r,l,u,x,d,c,w,o,λi H1 k f=>?_⟩;cases x with
 |true=>exact kY ⟨i,l,d,v,j,c.ext k,f,e,λg s m=>q g s (k.trans m)⟩
 |false=>cases e;exact kZ (q _ _ k f)
theorem FG(n:DT X a t)(p:DW X (.BoolOp .Or (b::rest) pos) t'):DW X (.BoolOp .Or (a::b::rest) pos) (oR t t'):=p0 (zC n p) λy H Q h=>by
 obtain⟨r,l,u,v,j,c,w,e,q⟩:=h;obtain⟨x,d,o,e⟩:=za e;refine⟨r,l,u,x,d,c,w,o,λi H1 k f=>?_⟩;cases x with
 |false=>exact kZ ⟨i,l,d,v,j,c.ext k,f,e,λg s m=>q g s (k.trans m)⟩
 |true=>cases e;exact kY (q _ _ k f)
end
theorem GN(f:DT X a t):DT X (.UnaryOp .Not a pos) (fU t):=kI (HS f) λp H Q b=>by
 obtain⟨j,n,l,v,k,c,m,e,q⟩:=b;obtain⟨x,g,h,e⟩:=za e;cases e;exact⟨j,n,l,x,_,c,m,h,λi H1 o d=>q _ _ o d⟩
theorem Px(w:DT X c t)(z:DE X a f)(r:DE X b f'):DE X (.IfExp c a b pos) (uh t f f'):=fK (Mi w z r) λE H Q p=>by
 obtain⟨y,o,A,v,k,g,C,e,q⟩:=p;obtain⟨x,h,s,e⟩:=za e;refine⟨y,o,A,x,h,g,C,s,λj H1 l i=>?_⟩;cases x with
 |true=>exact kY ⟨j,o,h,v,k,g.ext l,i,e,λd n u m=>q d n u (l.trans m)⟩
 |false=>exact kZ ⟨j,o,h,v,k,g.ext l,i,e,λd n u m=>q d n u (l.trans m)⟩
def aC:SA:=λ_ a=>.ok [] a
def aB(f:SE) (g:SA):SA:=λc e=>(f c e).bind λx b=>(g c b).bind λd a=>.ok (x::d) a
def aR(g:SA):SE:=λd c=>(g d c).bind λb a=>if b.length<=sizeLine then .ok (.tup b) a else .stuck
def dO(g:SA):SE:=λd c=>(g d c).bind λb a=>if b.length<=sizeLine then .ok (.lst b) a else .stuck
def dA(g:SA):SE:=λd c=>(g d c).bind λb a=>if b.length<=sizeLine then .ok (.ref a.length) (a++[.lst b]) else .stuck
theorem Gz:DA X [] aC:=vw wo λg H Q b=>by
 obtain⟨f,i,h,v,c,a,d,e,q⟩:=b;cases e;exact q _ _ _ (.refl _ _) d .nil
theorem II(A:DE X e f)(o:DA X es g)(s:starEach (e::es) X.env=(false,eval e X.env)::starEach es X.env:=by rfl):DA X (e::es) (aB f g):=vw (xF A o s) λJ H Q d=>by
 obtain⟨z,l,G,v,E,a,I,e,q⟩:=d;obtain⟨x,b,r,e⟩:=za e;obtain⟨y,p,m,e⟩:=za e;cases e;refine⟨z,l,G,x,b,a,I,r,λi H1 u k h t=>?_⟩;exact⟨i,l,b,y,_,a.ext k,h,m,λC H2 w j c n=>q _ _ _ (k.trans j) c (.cons (t.ext j) n)⟩
theorem FC{i}(h:DA X es g):DE X (.Tuple es i pos) (aR g):=fK (HH h) λw H Q c=>by
 obtain⟨n,t,s,v,r,a,k,e,q⟩:=c;obtain⟨x,l,m,e⟩:=za e;split at e
 ·rename_i o;cases e;refine⟨n,t,s,x,_,a,k,m,λf H1 u i b j=>⟨by rw[j.length];exact o,λp d=>?_⟩⟩;exact q f _ _ (i.trans (bF.new d _)) (b.new d _) (.newT b d j)
 ·cases e
theorem Fu(h:DA X es g):DE X (.List es pos) (dO g):=fK (wq h) λw H Q c=>by
 obtain⟨m,s,r,v,o,a,j,e,q⟩:=c;obtain⟨x,k,l,e⟩:=za e;split at e
 ·rename_i n;cases e;refine⟨m,s,r,x,_,a,j,l,λf H1 u t b i=>⟨by rw[i.length];exact n,λp d=>?_⟩⟩;exact q f _ _ (t.trans (bF.new d _)) (b.new d _) (.newL b d i)
 ·cases e
theorem At.last{K:Fg}{b:Loc}(h:n=b.m.length):At K ⟨b.m++[some p],b.g⟩ H (.ref n) (.ref p):=by
 subst h;refine .ref (by simp) λa e=>?_
 simp at e;rw[e]
theorem Gx(h:DA X es g):DE X (.List es pos) (dA g):=fK (wq h) λy H Q c=>by
 obtain⟨m,t,s,v,r,a,i,e,q⟩:=c;obtain⟨x,j,k,e⟩:=za e;split at e
 ·rename_i n;cases e;refine⟨m,t,s,x,_,a,i,k,λl H1 u w b d=>⟨by rw[d.length];exact n,λp f=>?_⟩⟩;obtain⟨E,R⟩:=b.alloc f (x:=.lst x) (o:=.lst u) λE=>⟨u,zy,d.ext E⟩
  exact q _ _ _ (w.trans E) R (.last b.len.symm)
 ·cases e
def fw(a:ab):D->Option (List D)
 |.lst xs=>some xs
 |.ref n=>match a[n]? with
  |some (.lst xs)=>some xs
  |_=>none
 |_=>none
theorem iV{K:Fg}(c:bZ K ρ au H) (a:At K ρ H (.ref n) u)(e:au[n]?=some o)(d:o≠.dead):∃p,u=.ref p/\ρ.m[n]?=some (some p)/\lc K ρ H o p:=by
 cases a with
 |ref h1 h2=>
  obtain⟨p,b⟩:=c.live n o e d;exact⟨p,h2 p b,b,c.obj n p o b e⟩
theorem lU{K:Fg}(g:bZ K ρ au H)(a:At K ρ H d u)(e:fw au d=some xs):∃p vs,u=.ref p/\H p=some (.lst vs)/\ae K ρ H xs vs:=by
 cases d<;>try (cases e;done)
 ·rename_i n;unfold fw at e;dsimp only at e;split at e
  ·rename_i h b;cases e;obtain⟨p,rfl,i,vs,c,f⟩:=iV g a b (by intro z;cases z);exact⟨p,vs,rfl,c,f⟩
  ·cases e
 ·cases e;cases a with
  |lst h1 h2 h3=>exact⟨_,_,rfl,h1,h3⟩
def oI(C:Int->Int->Prop) [DecidableRel C] (h:Int->Int->D) (x y:D) (a:ab):bu D:=match x,y with
 |.int i,.int j=>if C i j then .ok (h i j) a else .stuck
 |_,_=>.stuck
theorem cV{K:Fg} [DecidableRel C] (k:∀i j c H,At K c H (h i j) (g i j)):gJ K (oI C h) (rI C g):=λc H m x y u v z d Q l a b e q=>by
 unfold oI at e;split at e
 ·cases a;cases b;split at e
  ·rename_i f;cases e;exact⟨_,_,rfl,rfl,f,q _ _ _ (.refl _ _) l (k _ _ _ _)⟩
  ·cases e
 ·cases e
theorem ji{K:Fg}(k:∀i j d H,At K d H (h i j) (g i j)):gJ K (oI (λ_ _=>True) h) (lP g):=λd H n x y u v z c Q o a b e q=>by
 obtain⟨i,j,l,f,_,m⟩:=cV (C:=λ_ _=>True) k d H n x y u v z c Q o a b e q;exact⟨i,j,l,f,m⟩
instance:DecidableRel dS:=λi j=>by unfold dS;infer_instance
instance:DecidableRel er:=λi j=>by unfold er;infer_instance
instance:DecidableRel mQ:=λi j=>by unfold mQ;infer_instance
abbrev ce:=oI (λ_ _=>True) λi j=>.int (i-j)
abbrev gA:=oI er λi j=>.int (i/j)
abbrev fQ:=oI (λ_ j=>0<j) λi j=>.int (i%j)
abbrev p5:=oI (λ_ _=>True) λi j=>.int (Builtin.bitAnd i j)
abbrev Pd:=oI mQ λi j=>.int (i^j.toNat)
abbrev bH:=oI dS λi j=>.int (i*j)
def aM(x y:D) (c:ab):bu D:=match x,y with
 |.int i,.int j=>.ok (.int (i+j)) c
 |.tup a,.tup b=>if a.length+b.length<=sizeLine then .ok (.tup (a++b)) c else .stuck
 |.str a,.str b=>if a.length+b.length<=sizeLine then .ok (.str (a++b)) c else .stuck
 |x,y=>match fw c x,fw c y with
  |some a,some b=>if a.length+b.length<=sizeLine then .ok (.lst (a++b)) c else .stuck
  |_,_=>.stuck
abbrev pZ(K:Fg):R2:=λx y H Q=>lP (λi j=>.int (i+j)) x y H Q\/pY K x y H Q\/(∃i j,x=.str i/\y=.str j/\i.length+j.length<=sizeLine/\Q (.str (i++j)) H)\/zA x y H Q
theorem JP:dv X (binaryOp .Add) (pZ X.K):=Hq.or (JQ.or (T1.or Hr))
theorem Hj{K:Fg}:gJ K aM (pZ K):=λC H I x y u v z r Q c a b e q=>by
 unfold aM at e;split at e
 ·cases a;cases b;cases e;exact .inl ⟨_,_,rfl,rfl,q _ _ _ (.refl _ _) c (.int _)⟩
 ·rename_i s E;split at e
  ·rename_i d;cases e;refine .inr (.inl ?_);cases a with
   |tup h k h3=>
    cases b with
    |tup f g k3=>
     refine⟨_,_,_,_,rfl,rfl,cH.of h,cH.of f,by rw[h3.length,k3.length];exact d,λz=>?_,λo l=>?_,λo l p i=>?_⟩
     ·subst z;cases h3;exact q _ _ _ (.refl _ _) c (.tup f g k3)
     ·subst l;cases k3;rw[jA] at q;exact q _ _ _ (.refl _ _) c (.tup h k h3)
     ·exact q _ _ _ (bF.new i _) (c.new i _) (.newT c i (h3.append k3))
  ·cases e
 ·split at e
  ·rename_i d;cases a;cases b;cases e;exact .inr (.inr (.inl ⟨_,_,rfl,rfl,d,q _ _ _ (.refl _ _) c (.str _)⟩))
  ·cases e
 ·split at e
  ·rename_i h k;split at e
   ·rename_i d;cases e;obtain⟨p,w,rfl,n,m⟩:=lU c a h;obtain⟨G,A,rfl,f,g⟩:=lU c b k;exact .inr (.inr (.inr ⟨_,_,_,_,rfl,rfl,n,f,by rw[m.length,g.length];exact d,λt j=>q _ _ _ (bF.new j _) (c.new j _) (.newL c j (m.append g))⟩))
   ·cases e
  ·cases e
abbrev zF:=oI (λ_ _=>True) λi j=>.bl (decide (i<=j))
abbrev lQ:=oI (λ_ _=>True) λi j=>.bl (decide (j<i))
abbrev V9:=oI (λ_ _=>True) λi j=>.bl (decide (j<=i))
mutual
noncomputable def cK:D->Option PyData
 |.non=>some .none
 |.bl b=>some (.bool b)
 |.int i=>some (.int i)
 |.str x=>some (.str x)
 |.tup ds=>(cv ds).map .tuple
 |.lst ds=>(cv ds).map .list
 |_=>none
noncomputable def cv:List D->Option (List PyData)
 |[]=>some []
 |d::ds=>(cK d).bind λx=>(cv ds).map λa=>x::a
end
mutual
theorem wV{K:Fg}{f:Loc}{H:Hp}:∀{d:D}{v:V}{p:PyData},At K f H d v->cK d=some p->ku K H v p
 |_,_,_,.non,e=>by cases e;exact .non
 |_,_,_,.bl b,e=>by cases e;exact .bl b
 |_,_,_,.int i,e=>by cases e;exact .int i
 |_,_,_,.str x,e=>by cases e;exact .str x
 |_,_,_,.ty n,e=>by cases e
 |_,_,_,.exn _,e=>by cases e
 |_,_,_,.ref _ _,e=>by cases e
 |_,_,_,.tup h _ al,e=>by
  rw[cK] at e;obtain⟨c,a,rfl⟩:=jE.mp e;exact .tup (cH.of h) (BC al a)
 |_,_,_,.lst h _ al,e=>by
  rw[cK] at e;obtain⟨c,a,rfl⟩:=jE.mp e;exact .lst (dr.of h) (BC al a)
 |_,_,_,.scr _ _,e=>by cases e
theorem BC{K:Fg}{g:Loc}{H:Hp}:∀{d:List D}{v:List V}{p:List PyData},ae K g H d v->cv d=some p->jU K H v p
 |_,_,_,.nil,e=>by cases e;exact .nil
 |_,_,_,.cons a b,e=>by
  rw[cv] at e;obtain⟨x,f,e⟩:=rJ.mp e;obtain⟨h,c,rfl⟩:=jE.mp e;exact .cons (wV a f) (BC b c)
end
def now(a:ab) (d:D):D:=match fw a d with
 |some xs=>.lst xs
 |none=>d
def dataOf(a:ab) (d:D):Option PyData:=cK (now a d)
theorem sY{K:Fg}(b:bZ K ρ au H) (a:At K ρ H d u)(e:dataOf au d=some p):ku K H u p:=by
 unfold dataOf now at e;split at e
 ·rename_i k g;obtain⟨q,i,rfl,h,f⟩:=lU b a g;rw[cK] at e;obtain⟨j,c,rfl⟩:=jE.mp e;exact .lst (dr.of h) (BC f c)
 ·exact wV a e
def eO(d:Bool) (x y:D) (c:ab):bu D:=match dataOf c x,dataOf c y with
 |some a,some b=>if PySem.SeqAt.shaped a=true/\PySem.SeqAt.shaped b=true then .ok (.bl (if d then !PyData.eqv a b else PyData.eqv a b)) c else .stuck
 |_,_=>.stuck
theorem iN{K:Fg}:gJ K (eO neg) (rS K neg):=λl H k x y u v z g Q c a b e q=>by
 unfold eO at e;split at e
 ·rename_i j i h f;split at e
  ·rename_i d;cases e;exact⟨_,_,sY c a h,sY c b f,d.1,d.2,q _ _ _ (.refl _ _) c (.bl _)⟩
  ·cases e
 ·cases e
abbrev fJ:=eO false
abbrev p4:=eO true
def iA(a:Bool) (x y:D) (b:ab):bu D:=match x,y with
 |.ref _,_=>.stuck
 |.non,.non=>.ok (.bl (!a)) b
 |_,.non=>.ok (.bl a) b
 |_,_=>.stuck
theorem Hk{K:Fg}:gJ K (iA false) (λx y H Q=>y=.non/\Q (.bl (decide (x=.non))) H):=λi H h x y u v z f Q c a b e q=>by
 unfold iA at e;split at e<;>try (cases e;done)
 ·cases a;cases b;cases e
  exact⟨rfl,q _ _ _ (.refl _ _) c (by simp;exact .bl _)⟩
 ·rename_i g d;cases b;cases e
  refine⟨rfl,q _ _ _ (.refl _ _) c ?_⟩;have:u≠.non:=by
   rintro rfl;cases a<;>first|exact d rfl|exact g _ rfl
  rw[cO this];exact .bl _
theorem JH{K:Fg}:gJ K (iA true) (λx y H Q=>y=.non/\Q (.bl (!decide (x=.non))) H):=λi H h x y u v z f Q c a b e q=>by
 unfold iA at e;split at e<;>try (cases e;done)
 ·cases a;cases b;cases e
  exact⟨rfl,q _ _ _ (.refl _ _) c (by simp;exact .bl _)⟩
 ·rename_i g d;cases b;cases e
  refine⟨rfl,q _ _ _ (.refl _ _) c ?_⟩;have:u≠.non:=by
   rintro rfl;cases a<;>first|exact d rfl|exact g _ rfl
  rw[cO this];exact .bl _
noncomputable def bP:List D->Option (List Int)
 |[]=>some []
 |.int i::r=>(bP r).map (i::·)
 |_::_=>none
theorem qr{K:Fg}:∀{c:List D}{f:List V}{g:List Int},ae K ρ H c f->bP c=some g->f=g.map V.int
 |_,_,_,.nil,e=>by cases e;rfl
 |_,_,_,.cons (d:=d) a b,e=>by
  cases d<;>try (cases e;done)
  rw[bP] at e;obtain⟨i,h,rfl⟩:=jE.mp e;cases a;rw[qr b h]
  rfl
def fB(x y:D) (c:ab):bu D:=match x,y with
 |.int i,.int j=>.ok (.bl (decide (i<j))) c
 |.tup a,.tup b=>match bP a,bP b with
  |some ns,some ms=>.ok (.bl (HT.lexLt ns ms)) c
  |_,_=>.stuck
 |_,_=>.stuck
abbrev yX(K:Fg):R2:=λx y H Q=>lP (λi j=>.bl (decide (i<j))) x y H Q\/yW K x y H Q
theorem qe{X:Cx}(a:X.A.units<cLine):dv X (compareOp .Lt) (yX X.K):=FT.or (Hu a)
theorem qd{K:Fg}:gJ K fB (yX K):=λk H j x y u v z h Q c a b e q=>by
 unfold fB at e;split at e
 ·cases a;cases b;cases e
  exact .inl ⟨_,_,rfl,rfl,q _ _ _ (.refl _ _) c (.bl _)⟩
 ·split at e
  ·rename_i i g;cases e;cases a with
   |tup g1 g2 g3=>
    cases b with
    |tup k1 k2 k3=>
     have f:=qr g3 i;have d:=qr k3 g;subst f d;exact .inr ⟨_,_,_,_,rfl,rfl,cH.of g1,cH.of k1,q _ _ _ (.refl _ _) c (.bl _)⟩
  ·cases e
 ·cases e
def cS(a:ab):D->Option (List D)
 |.tup xs=>some xs
 |.scr xs=>some xs
 |d=>fw a d
theorem BM{K:Fg}(f:bZ K ρ au H) (a:At K ρ H d u)(e:cS au d=some xs):
  ∃p vs,u=.ref p/\(dr K H p vs\/cH K H p vs)/\ae K ρ H xs vs:=by
 unfold cS at e;split at e
 ·cases e;cases a with
  |tup b c h3=>exact⟨_,_,rfl,.inr (cH.of b),h3⟩
 ·cases e;cases a with
  |scr b h3=>exact⟨_,_,rfl,.inl b.sq,h3⟩
 ·obtain⟨p,vs,rfl,b,c⟩:=lU f a e;exact⟨p,vs,rfl,.inl (dr.of b),c⟩
theorem ae.atI{K:Fg}(h:ae K ρ H ds vs)(e:L2.atI ds i=some d):∃v,L2.atI vs i=some v/\At K ρ H d v:=by
 unfold L2.atI at e ⊢;rw[h.length];cases hi:km ds.length i with
 |none=>rw[hi] at e;cases e
 |some j=>
  rw[hi] at e;obtain⟨v,b,a⟩:=h.get (i:=j) e;exact⟨v,b,a⟩
def cn(x y:D) (a:ab):bu D:=match cS a x,y with
 |some xs,.int i=>match L2.atI xs i with
  |some v=>.ok v a
  |none=>.stuck
 |_,_=>.stuck
theorem FQ{K:Fg}:gJ K cn (SR K):=λn H m x y u v z h Q c a b e q=>by
 unfold cn at e;split at e
 ·rename_i j;split at e
  ·rename_i w g;cases e;cases b;obtain⟨p,k,rfl,h2,i⟩:=BM c a j;obtain⟨l,d,f⟩:=i.atI g;rcases h2 with h2|h2
   ·exact .inl ⟨_,_,_,_,rfl,rfl,h2,d,q _ _ _ (.refl _ _) c f⟩
   ·exact .inr (.inl ⟨_,_,_,_,rfl,rfl,h2,d,q _ _ _ (.refl _ _) c f⟩)
  ·cases e
 ·cases e
def cutD(a:List D) (lo b:Option Int):List D:=(a.drop (HT.bW a.length 0 lo)).take (HT.bW a.length a.length b-HT.bW a.length 0 lo)
theorem ae.cut{K:Fg}(h:ae K ρ H ds vs)(lo a:Option Int):ae K ρ H (cutD ds lo a) (gG vs lo a):=by
 unfold cutD gG;rw[h.length];exact(h.drop _).take _
def cF:DS->ab->bu (Option Int):=λ_ a=>.ok none a
def cE(f:SE):DS->ab->bu (Option Int):=λc b=>(f c b).bind λv a=>match v with
 |.int i=>.ok (some i) a
 |_=>.stuck
def iU(f:SE) (lo g:DS->ab->bu (Option Int)):SE:=λd e=>(f d e).bind λx c=>(lo d c).bind λl b=>(g d b).bind λh a=>match x with
 |.tup xs=>.ok (.tup (cutD xs l h)) a
 |x=>match fw a x with
  |some xs=>.ok (.lst (cutD xs l h)) a
  |none=>.stuck
def V5(K:Fg) (f:DS->ab->bu (Option Int)):TO:=λh H Q=>∃c g e v b,dc K c H g h/\bZ K c e H/\f g e=.ok v b/\∀a d,bF c H a d->bZ K a b d->Q v d
abbrev DO(X:Cx) (e:Option Expr) (f:DS->ab->bu (Option Int)):Prop:=PO X e (V5 X.K f)
theorem vy(h:PO X e t)(k:∀a H Q,t' a H Q->t a H Q):PO X e t':=λb s a H Q I q=>h b s a H Q I (k _ _ _ q)
theorem IQ:DO X none cF:=vy J9 λg H Q b=>by
 obtain⟨f,i,h,v,c,a,d,e,q⟩:=b;cases e;exact q _ _ (.refl _ _) d
theorem IR(k:DE X e f):DO X (some e) (cE f):=vy (Ka k) λr H Q b=>by
 obtain⟨j,o,m,v,l,a,g,e,q⟩:=b;obtain⟨x,c,h,e⟩:=za e;refine⟨j,o,m,x,c,a,g,h,λi H1 u p d n=>?_⟩;cases x<;>try (cases e;done)
 cases e;cases n;exact⟨_,rfl,q _ _ p d⟩
theorem Pw(c:DE X a f)(d:DE X b f')(e:iL b):DE X (.Subscript a b pos) (aS cn f f'):=fK (FW G1 c d e) (nP FQ)
section
variable {X:Cx}{a:Expr}{e:Expr}{f:SE}{pos:Pos}{lo:Option Expr}{hi:Option Expr}{l:DS->ab->bu (Option Int)}{h:DS->ab->bu (Option Int)}
theorem Pu{p2:Pos}(he:DE X e f)(hl:DO X lo l)(hu:DO X hi h):DE X (.Subscript e (.Slice lo hi none p2) pos) (iU f l h):=fK (Mj (Ko.or Kn) he hl hu) λτ H Q r=>by
 obtain⟨ρ,m,au,v,a0,a,rp,e,q⟩:=r;obtain⟨x,g,J,e⟩:=za e;obtain⟨y,d,E,e⟩:=za e;obtain⟨z,o,S,e⟩:=za e;refine⟨ρ,m,au,x,g,a,rp,J,λt H1 u j s a1=>?_⟩;refine⟨t,m,g,y,d,a.ext j,s,E,λw H2 i n=>?_⟩;refine⟨w,m,d,z,o,a.ext (j.trans i),n,S,λU H3 A b=>?_⟩;have C:=a1.ext (i.trans A);have k:=j.trans (i.trans A);split at e
 ·cases e;refine .inl ?_;cases C with
  |tup h1 h2 h3=>
   refine⟨_,_,rfl,cH.of h1,λP=>?_,λp c=>?_⟩
   ·refine q _ _ _ k b (.tup h1 h2 ?_);have:=h3.cut y z;rw[P] at this;exact this
   ·exact q _ _ _ (k.trans (bF.new c _)) (b.new c _) (.newT b c (h3.cut y z))
 ·split at e
  ·rename_i xs Y;cases e;obtain⟨p,vs,rfl,G,I⟩:=lU b C Y;exact .inr ⟨_,_,rfl,dr.of G,λp c=>q _ _ _ (k.trans (bF.new c _)) (b.new c _) (.newL b c (I.cut y z))⟩
  ·cases e
end
end Dd
namespace Dd
open L2
def aE(g:List D->ab->bu D) (f:SA):SE:=λd b=>(f d b).bind λc a=>g c a
def jh(K:Fg) (g:List D->ab->bu D) (r:List V->Hp->VK->Prop):Prop:=
 ∀d H h f e z b (Q:VK),bZ K d h H->ae K d H f e->g f h=.ok z b->(∀a c w,bF d H a c->bZ K a b c->At K a c z w->Q w c)->r e H Q
theorem qC{K:Fg}(s:jh K g r):∀j H Q,tD K (aE g f) j H Q->O7 r (O6 K f) j H Q:=λj H Q d=>by
 obtain⟨o,z,t,v,k,a,m,e,q⟩:=d;obtain⟨x,b,n,e⟩:=za e;exact⟨o,z,t,x,b,a,m,n,λi H1 u A h y=>s i H1 b x u v k Q h y e λc p w l=>q c p w (A.trans l)⟩
theorem ID{x:Str}{id:String}(l:bN X (.builtin id) r)(j:jh X.K g r)(i:Gl X x)(m:X.mg x=none)(h:bootBuiltins x=some (.builtin id))(d:DA X (e::es) f)(c:x≠"__name__":=by decide)(a:(x==("__debug__" : Str))=false:=by decide)
 (k:starEach (e::es) X.env=(false,eval e X.env)::starEach es X.env:=by rfl)(b:(backTo pos (starEach es X.env)).any (·.1)=false:=by rfl):DE X (.Call (.Name x p) (e::es) [] pos) (aE g f):=fK (Qx l i m h d c a k b) (qC j)
theorem KZ{T:String}(l:bN X (.type T) r)(j:jh X.K g r)(i:Gl X x)(m:X.mg x=none)(h:bootBuiltins x=some (.type T))(d:DA X (e::es) f)(c:x≠"__name__":=by decide)(a:(x==("__debug__" : Str))=false:=by decide)
 (k:starEach (e::es) X.env=(false,eval e X.env)::starEach es X.env:=by rfl)(b:(backTo pos (starEach es X.env)).any (·.1)=false:=by rfl):DE X (.Call (.Name x p) (e::es) [] pos) (aE g f):=fK (Ri l i m h d c a k b) (qC j)
theorem ae.one{K:Fg}(h:ae K ρ H [d] us):∃u,us=[u]/\At K ρ H d u:=by
 cases h with
 |cons a b=>cases b;exact⟨_,rfl,a⟩
theorem ae.two{K:Fg}(h:ae K ρ H [d,e] us):∃u v,us=[u,v]/\At K ρ H d u/\At K ρ H e v:=by
 cases h with
 |cons a b=>
  obtain⟨v,rfl,c⟩:=b.one;exact⟨_,_,rfl,a,c⟩
def cz:List D->ab->bu D:=λb a=>match b with
 |[x]=>match cS a x with
  |some ys=>.ok (.int ys.length) a
  |none=>.stuck
 |_=>.stuck
theorem lj{K:Fg}:jh K cz (λc H Q=>∃p b,c=[.ref p]/\(dr K H p b\/cH K H p b)/\Q (.int b.length) H):=λn H m c l z j Q d f e q=>by
 unfold cz at e;split at e
 ·split at e
  ·rename_i h;cases e;obtain⟨u,rfl,a⟩:=f.one;obtain⟨p,g,rfl,k,i⟩:=BM d a h;refine⟨p,g,rfl,k,?_⟩;rw[i.length];exact q _ _ _ (.refl _ _) d (.int _)
  ·cases e
 ·cases e
def k9:List D->ab->bu D:=λb a=>match b with
 |[.int i]=>.ok (.int (if i<0 then -i else i)) a
 |_=>.stuck
theorem Gb{K:Fg}:jh K k9 (λb H Q=>∃i,b=[.int i]/\Q (.int (if i<0 then -i else i)) H):=λj H h b g z d Q f c e q=>by
 unfold k9 at e;split at e
 ·cases e;obtain⟨u,rfl,a⟩:=c.one;cases a;exact⟨_,rfl,q _ _ _ (.refl _ _) f (.int _)⟩
 ·cases e
def ui(g:Int->Int->Int):List D->ab->bu D:=λb a=>match b with
 |[.int i,.int j]=>.ok (.int (g i j)) a
 |_=>.stuck
theorem kE{K:Fg}:jh K (ui g) (λc H Q=>∃i j,c=[.int i,.int j]/\Q (.int (g i j)) H):=λm H l c k z f Q h d e q=>by
 unfold ui at e;split at e
 ·cases e;obtain⟨u,v,rfl,a,b⟩:=d.two;cases a;cases b;exact⟨_,_,rfl,q _ _ _ (.refl _ _) h (.int _)⟩
 ·cases e
abbrev gH:=ui λi j=>if j<i then j else i
abbrev AA:=ui λi j=>if j > i then j else i
def gn:List D->ab->bu D:=λb a=>match b with
 |[x]=>match (cS a x).bind bP with
  |some ns=>.ok (.int ns.sum) a
  |none=>.stuck
 |_=>.stuck
theorem nU{K:Fg}:jh K gn (yS K):=λr H o n k z g Q b c e q=>by
 unfold gn at e;split at e
 ·split at e
  ·rename_i f h;cases e;obtain⟨m,i,h⟩:=rJ.mp h;obtain⟨u,rfl,a⟩:=c.one;obtain⟨p,l,rfl,j,d⟩:=BM b a i;have e:=qr d h;subst e;exact⟨p,f,rfl,j,q _ _ _ (.refl _ _) b (.int _)⟩
  ·cases e
 ·cases e
noncomputable def cP:List D->Option (List Bool)
 |[]=>some []
 |.bl i::r=>(cP r).map (i::·)
 |_::_=>none
theorem RC{K:Fg}:∀{c:List D}{f:List V}{g:List Bool},ae K ρ H c f->cP c=some g->f=g.map V.bl
 |_,_,_,.nil,e=>by cases e;rfl
 |_,_,_,.cons (d:=d) a b,e=>by
  cases d<;>try (cases e;done)
  rw[cP] at e;obtain⟨i,h,rfl⟩:=jE.mp e;cases a;rw[RC b h]
  rfl
def iJ(c:Bool):List D->ab->bu D:=λb a=>match b with
 |[x]=>match (fw a x).bind cP with
  |some bs=>.ok (.bl (if c then bs.all id else bs.any id)) a
  |none=>.stuck
 |_=>.stuck
theorem vI{K:Fg}:jh K (iJ al) (zB K al):=λr H o n k z g Q b c e q=>by
 unfold iJ at e;split at e
 ·split at e
  ·rename_i f h;cases e;obtain⟨m,i,h⟩:=rJ.mp h;obtain⟨u,rfl,a⟩:=c.one;obtain⟨p,l,rfl,j,d⟩:=lU b a i;have e:=RC d h;subst e;exact⟨p,f,rfl,dr.of j,q _ _ _ (.refl _ _) b (.bl _)⟩
  ·cases e
 ·cases e
def jF(a:ab):D->Option String
 |.non=>some "NoneType"
 |.bl _=>some "bool"
 |.int _=>some "int"
 |.str _=>some "str"
 |.tup _=>some "tuple"
 |.lst _=>some "list"
 |.ref n=>match a[n]? with
  |some (.lst _)=>some "list"
  |some (.dT _)=>some "dict"
  |_=>none
 |_=>none
noncomputable def zQ(t T:String):Bool:=t==T||(t=="bool"&&T=="int")
def eK:List D->ab->bu D:=λb a=>match b with
 |[x,.ty T]=>match jF a x with
  |some t=>if["int","bool","str","tuple","list","dict"].contains T=true then .ok (.bl (zQ t T)) a else .stuck
  |none=>.stuck
 |_=>.stuck
theorem Tn{K:Fg}(c:bZ K ρ au H) (a:At K ρ H d u)(e:jF au d=some t):fo K H u (.type t)/\t∈["NoneType","bool","int","str","tuple","list","dict"]:=by
 cases d<;>try (cases e;done)
 ·cases e;cases a;exact⟨.non,by simp⟩
 ·cases e;cases a;exact⟨.bl _,by simp⟩
 ·cases e;cases a;exact⟨.int _,by simp⟩
 ·cases e;cases a;exact⟨.str _,by simp⟩
 ·unfold jF at e;dsimp only at e;split at e
  ·rename_i h;cases e;obtain⟨p,rfl,i,f,b,g⟩:=iV c a h (by intro z;cases z);exact⟨.lst b,by simp⟩
  ·rename_i h;cases e;obtain⟨p,rfl,i,f,b,g⟩:=iV c a h (by intro z;cases z);exact⟨.dT b,by simp⟩
  ·cases e
 ·cases e;cases a with
  |tup h1 h2 h3=>exact⟨.tup h1,by simp⟩
 ·cases e;cases a with
  |lst h1 h2 h3=>exact⟨.lst h1,by simp⟩
theorem G8{K:Fg}{T:String}(b:t∈["NoneType","bool","int","str","tuple","list","dict"])(a:T∈["int","bool","str","tuple","list","dict"]):W.kitOne K (.type t) (.type T)=some (zQ t T):=by
 simp only[ca,CK,or_false] at b a;rcases b with rfl|rfl|rfl|rfl|rfl|rfl|rfl<;>rcases a with rfl|rfl|rfl|rfl|rfl|rfl<;>rfl
theorem ED{K:Fg}:jh K eK (λc H Q=>∃x T t b,c=[x,.ty T]/\fo K H x t/\W.kitOne K t (.type T)=some b/\Q (.bl b) H):=λn H m c l z j Q d f e q=>by
 unfold eK at e;split at e
 ·split at e
  ·rename_i h;split at e
   ·rename_i i;cases e;obtain⟨u,v,rfl,a,b⟩:=f.two;cases b;obtain⟨k,g⟩:=Tn d a h;exact⟨_,_,_,_,rfl,k,G8 g (by simpa using i),q _ _ _ (.refl _ _) d (.bl _)⟩
   ·cases e
  ·cases e
 ·cases e
def bE:List D->ab->bu D:=λb a=>match b with
 |[.tup ys]=>.ok (.tup ys) a
 |[x]=>match fw a x with
  |some ys=>.ok (.tup ys) a
  |none=>.stuck
 |_=>.stuck
theorem pc{K:Fg}:jh K bE (λj H Q=>∃p f,j=[.ref p]/\((dr K H p f/\∀l,H l=none->Q (.ref l) (bf H l (.tup f)))\/(cH K H p f/\Q (.ref p) H))):=λr H o j m z k Q b i e q=>by
 unfold bE at e;split at e
 ·cases e;obtain⟨u,rfl,a⟩:=i.one;cases a with
  |tup c d h3=>exact⟨_,_,rfl,.inr ⟨cH.of c,q _ _ _ (.refl _ _) b (.tup c d h3)⟩⟩
 ·split at e
  ·rename_i h;cases e;obtain⟨u,rfl,a⟩:=i.one;obtain⟨p,n,rfl,c,d⟩:=lU b a h;exact⟨_,_,rfl,.inl ⟨dr.of c,λl g=>q _ _ _ (bF.new g _) (b.new g _) (.newT b g d)⟩⟩
  ·cases e
 ·cases e
def eW:List D->ab->bu D:=λb a=>match b with
 |[x]=>match cS a x with
  |some ys=>.ok (.lst ys) a
  |none=>.stuck
 |_=>.stuck
theorem wP{K:Fg}:jh K eW (λf H Q=>∃p b,f=[.ref p]/\(dr K H p b\/cH K H p b)/\∀l,H l=none->Q (.ref l) (bf H l (.lst b))):=λr H o f m z j Q d g e q=>by
 unfold eW at e;split at e
 ·split at e
  ·rename_i h;cases e;obtain⟨u,rfl,a⟩:=g.one;obtain⟨p,n,rfl,k,i⟩:=BM d a h;exact⟨_,_,rfl,k,λl c=>q _ _ _ (bF.new c _) (d.new c _) (.newL d c i)⟩
  ·cases e
 ·cases e
noncomputable abbrev aL(a:List Int):D:=.tup (a.map .int)
abbrev aJ(l:List (List Int)):List D:=l.map aL
def k6(a:List Int):List (List Int)->List (List Int)
 |[]=>[a]
 |b::r=>if HT.lexLt b a=true then b::k6 a r else a::b::r
def aw:List (List Int)->List (List Int)
 |[]=>[]
 |a::r=>k6 a (aw r)
abbrev oT(l:List (List Int)):Prop:=l.Pairwise λa b=>HT.lexLt b a=false
theorem EF(a:List Int):∀l,(k6 a l).Perm (a::l)
 |[]=>.refl _
 |b::r=>by
  unfold k6;split
  ·exact(List.Perm.cons b (EF a r)).trans (.swap a b r)
  ·exact .refl _
theorem zo:∀l,(aw l).Perm l
 |[]=>.refl _
 |a::r=>(EF a _).trans (.cons a (zo r))
theorem UP(e:HT.lexLt b a=false)(d:HT.lexLt c b=false):HT.lexLt c a=false:=by
 cases h:HT.lexLt c a with
 |false=>rfl
 |true=>
  rcases Srt.uE a b with z|z|z
  ·have:=Srt.BV h z;rw[d] at this;cases this
  ·subst z;rw[d] at h;cases h
  ·rw[e] at z;cases z
theorem xg(a:List Int):∀l,oT l->oT (k6 a l)
 |[],_=>ON _ _
 |b::r,h=>by
  obtain⟨e,f⟩:=rC.mp h;unfold k6;split
  ·rename_i c;refine rC.mpr ⟨λx hx=>?_,xg a r f⟩;rcases ca.mp ((EF a r).mem_iff.mp hx) with rfl|hx
   ·exact Srt.Rb c
   ·exact e x hx
  ·rename_i c;have d:HT.lexLt b a=false:=by simpa using c
   refine rC.mpr ⟨λx hx=>?_,h⟩;rcases ca.mp hx with rfl|hx
   ·exact d
   ·exact UP d (e x hx)
theorem uW:∀l,oT (aw l)
 |[]=>.nil
 |a::r=>xg a _ (uW r)
theorem Rx:∀{l m:List (List Int)},l.Perm m->oT l->oT m->l=m
 |[],m,p,_,_=>by rw[List.nil_perm.mp p]
 |a::l,[],p,_,_=>by cases List.perm_nil.mp p
 |a::l,b::m,p,h1,h2=>by
  obtain⟨i,h⟩:=rC.mp h1;obtain⟨f,g⟩:=rC.mp h2;have e:a=b:=by
   rcases ca.mp (p.mem_iff.mp dB) with z|z
   ·exact z
   ·rcases ca.mp (p.mem_iff.mpr (dB (a:=b) (l:=m))) with y|y
    ·exact y.symm
    ·have d:=f a z;have c:=i b y;rcases Srt.uE a b with w|w|w
     ·rw[d] at w;cases w
     ·exact w
     ·rw[c] at w;cases w
  subst e;rw[Rx (List.Perm.cons_inv p) h g]
theorem BN{m:List (List Int)}(p:m.Perm l)(h:oT m):m=aw l:=Rx (p.trans (zo l).symm) h (uW l)
theorem vi(l:List (List Int)):(aw l).length=l.length:=(zo l).length_eq
def fV:List D->Option (List (List Int))
 |[]=>some []
 |.tup ds::r=>(bP ds).bind λa=>(fV r).map (a::·)
 |_::_=>none
theorem QR{K:Fg}:∀{f:List D}{g:List V}{l:List (List Int)},ae K ρ H f g->fV f=some l ->
  ∃c:List (Addr×List Int),g=c.map (λp=>V.ref p.1)/\c.map (·.2)=l/\∀p∈c,H p.1=some (.tup (p.2.map V.int))/\dX ρ p.1
 |_,_,_,.nil,e=>by cases e;exact⟨[],rfl,rfl,λ_ h=>nomatch h⟩
 |_,_,_,.cons (d:=d) a b,e=>by
  cases d<;>try (cases e;done)
  rw[fV] at e;obtain⟨n,j,e⟩:=rJ.mp e;obtain⟨l,i,rfl⟩:=jE.mp e;obtain⟨c,q,m,o⟩:=QR b i;cases a with
  |tup g1 g2 g3=>
   rename_i ad r;have k:=qr g3 j;subst k;refine⟨(ad,n)::c,by rw[q];rfl,by rw[←m];rfl,λp hp=>?_⟩;rcases ca.mp hp with rfl|hp
   ·exact⟨g1,g2⟩
   ·exact o p hp
theorem uS{K:Fg}:∀a:List Int,ae K ρ H (a.map .int) (a.map V.int)
 |[]=>.nil
 |n::a=>.cons (.int n) (uS a)
theorem Ev{K:Fg}:∀a:List (Addr×List Int),(∀p∈a,H p.1=some (.tup (p.2.map V.int))/\dX ρ p.1)->ae K ρ H (aJ (a.map (·.2))) (a.map λp=>V.ref p.1)
 |[],_=>.nil
 |p::a,h=>.cons (.tup (h p dB).1 (h p dB).2 (uS _)) (Ev a λq b=>h q (bU _ b))
theorem Re{K:Fg}(r:bZ K ρ au H) (b:H p=some (.tup vs)):dX ρ p:=by
 refine⟨λz=>?_,λz=>?_⟩
 ·obtain⟨i,d,e⟩:=nh z;obtain⟨x,_,q⟩:=r.has (n:=i) (a:=p) (by rw[bV d,e]);cases x with
  |lst xs=>obtain⟨_,e,_⟩:=q;rw[b] at e;cases e
  |dT kvs=>obtain⟨_,e,_⟩:=q;rw[b] at e;cases e
  |fT kvs=>obtain⟨_,_,e,_⟩:=q;rw[b] at e;cases e
  |dI kvs=>obtain⟨_,e,_⟩:=q;rw[b] at e;cases e
  |dP ks=>obtain⟨_,e,_⟩:=q;rw[b] at e;cases e
  |dead=>exact q
  |tab=>obtain⟨_,_,e,_⟩:=q;rw[b] at e;cases e
 ·obtain⟨⟨u,c⟩,_⟩:=r.gh p z;rw[b] at c;cases c
noncomputable def cR(a:List (List Int×D)) (k:List Int):Option D:=(a.find? λb=>decide (b.1=k)).map (·.2)
noncomputable def iz(a:List (List Int×D)) (k:List Int) (v:D):List (List Int×D):=
 if(a.any λb=>decide (b.1=k))=true then a.map (λb=>if b.1=k then(b.1,v) else b) else a++[(k,v)]
noncomputable def ij(a:List (List Int×D)) (k:List Int):List (List Int×D):=a.filter λb=>decide (b.1≠k)
theorem AY{a b:List Int}:a.map (Sum.inl:Int->cA)=b.map Sum.inl↔a=b:=by
 constructor
 ·intro h;exact(List.map_inj_right (f:=(Sum.inl:Int->cA)) λx y e=>Sum.inl.inj e).mp h
 ·rintro rfl;rfl
theorem dG.val{K:Fg}(h:dG K ρ H kvs vs)(k:List Int):match cR kvs k with
  |some d=>∃v,cu vs (k.map Sum.inl)=some v/\At K ρ H d v
  |none=>cu vs (k.map Sum.inl)=none:=by
 induction h with
 |nil=>rfl
 |@cons p q ps qs h t ih=>
  obtain⟨b,f⟩:=h;by_cases e:p.1=k
  ·have a:cR (p::ps) k=some p.2:=by simp[cR,lD,e]
   rw[a];exact⟨q.2,uY (by rw[b,e]),f⟩
  ·have a:cR (p::ps) k=cR ps k:=by simp[cR,lD,e]
   have c:cu (q::qs) (k.map Sum.inl)=cu qs (k.map Sum.inl):=uX (by rw[b,AY];exact e);rw[a,c];exact ih
theorem dG.keys{K:Fg}(h:dG K ρ H kvs vs):vs.map (·.1)=(kvs.map (·.1)).map λa=>a.map Sum.inl:=by
 induction h with
 |nil=>rfl
 |@cons p q ps qs h t ih=>rw[cr,cr,cr,ih,h.1]
theorem dG.put{K:Fg}(h:dG K ρ H b c)(k:List Int) (a:At K ρ H d v):dG K ρ H (iz b k d) (d4 c (k.map Sum.inl) v):=by
 have f:∀{b:List (List Int×D)}{c:List (List cA×V)},dG K ρ H b c->(b.any λj=>decide (j.1=k))=(c.any λj=>decide (j.1=k.map Sum.inl)):=λh=>by
  induction h with
  |nil=>rfl
  |@cons p q ps qs h t ih=>
   rw[ri,ri,ih,h.1]
   congr 1
   simp only[AY]
 unfold iz d4;rw[f h];split
 ·rename_i l;clear l f
  induction h with
  |nil=>exact .nil
  |@cons p q ps qs h t ih=>
   refine .cons ?_ ih;obtain⟨g,m⟩:=h;dsimp only;by_cases e:p.1=k
   ·rw[if_pos e,if_pos (by rw[g,e])];exact⟨g,a⟩
   ·rw[if_neg e,if_neg (by rw[g,AY];exact e)];exact⟨g,m⟩
 ·have i:∀{b:List (List Int×D)}{c:List (List cA×V)},dG K ρ H b c->dG K ρ H (b++[(k,d)]) (c++[(k.map Sum.inl,v)]):=λh=>by
   induction h with
   |nil=>exact .cons ⟨rfl,a⟩ .nil
   |cons h t ih=>exact .cons h ih
  exact i h
theorem dG.drop{K:Fg}(h:dG K ρ H kvs vs)(k:List Int):dG K ρ H (ij kvs k) (di vs (k.map Sum.inl)):=by
 unfold ij di
 induction h with
 |nil=>exact .nil
 |@cons p q ps qs h t ih=>
  by_cases e:p.1=k
  ·rw[hE (by simp[e]),hE (by simp[h.1,e])];exact ih
  ·rw[gV (by simp[e]),gV (by simp[h.1,AY,e])];exact .cons h ih
theorem dG.length{K:Fg}(h:dG K ρ H kvs vs):kvs.length=vs.length:=rj h
def pairsOf(a:ab):D->Option (List (List Int×D))
 |.ref n=>match a[n]? with
  |some (.dT kvs)=>some kvs
  |some (.fT kvs)=>some kvs
  |_=>none
 |_=>none
theorem Er{K:Fg}(f:bZ K ρ au H) (a:At K ρ H d u)(e:pairsOf au d=some kvs):∃p vs,u=.ref p/\Rd H p (.dT vs)/\dG K ρ H kvs vs:=by
 unfold pairsOf at e;split at e
 ·split at e
  ·rename_i h;cases e;obtain⟨p,rfl,i,vs,b,c⟩:=iV f a h (by intro z;cases z);exact⟨p,vs,rfl,.inl b,c⟩
  ·rename_i h;cases e;obtain⟨p,rfl,i,vs,g,b,c⟩:=iV f a h (by intro z;cases z);exact⟨p,vs,rfl,.inr ⟨g,b⟩,c⟩
  ·cases e
 ·cases e
def em:D->Option (List Int)
 |.tup ds=>bP ds
 |_=>none
theorem qU{K:Fg}(a:At K ρ H d u)(e:em d=some k):∃p,u=.ref p/\H p=some (.tup ((k.map (Sum.inl:Int->cA)).map kV)):=by
 unfold em at e;split at e
 ·cases a with
  |tup h1 h2 h3=>
   have:=qr h3 e;subst this;exact⟨_,rfl,by rw[xi];exact h1⟩
 ·cases e
theorem DB{K:Fg}(h:bZ K ρ au H) (a:At K ρ H d u)(b:At K ρ H y w)(e:pairsOf au d=some kvs)(f:em y=some k):
  ∃p o,u=.ref p/\jg H p w o/\match cR kvs k with
   |some z=>∃v,o=some v/\At K ρ H z v
   |none=>o=none:=by
 obtain⟨p,c,rfl,j,g⟩:=Er h a e;obtain⟨q,rfl,i⟩:=qU b f;refine⟨p,cu c (k.map Sum.inl),rfl,.inr ⟨c,_,q,j,rfl,i,rfl⟩,?_⟩;have:=g.val k;cases hv:cR kvs k with
 |none=>rw[hv] at this;exact this
 |some z=>rw[hv] at this;exact this
def iB(a:Bool) (y x:D) (b:ab):bu D:=match em y,pairsOf b x with
 |some k,some kvs=>.ok (.bl (if a then !(cR kvs k).isSome else(cR kvs k).isSome)) b
 |_,_=>.stuck
def eT(x y:D) (a:ab):bu D:=match pairsOf a x,em y with
 |some kvs,some k=>match cR kvs k with
  |some v=>.ok v a
  |none=>.stuck
 |_,_=>.stuck
def iH(f g h:SE):SE:=λd e=>(f d e).bind λx a=>match pairsOf a x with
 |some _=>(g d a).bind λy c=>(h d c).bind λz b=>match pairsOf b x,em y with
  |some kvs,some k=>.ok ((cR kvs k).getD z) b
  |_,_=>.stuck
 |none=>.stuck
def kq(f g:SE):SE:=λc d=>(f c d).bind λx a=>match pairsOf a x with
 |some _=>(g c a).bind λy b=>match x,em y with
  |.ref n,some k=>match b[n]? with
   |some (.dT kvs)=>match cR kvs k with
    |some v=>.ok v (b.set n (.dT (ij kvs k)))
    |none=>.stuck
   |_=>.stuck
  |_,_=>.stuck
 |none=>.stuck
def f6(f g h:SE):SS:=λb e=>(h b e).bind λv d=>(f b d).bind λx c=>(g b c).bind λy a=>match x,em y with
 |.ref n,some k=>match a[n]? with
  |some (.dT kvs)=>if kvs.length<sizeLine then .ok (.nx b) (a.set n (.dT (iz kvs k v))) else .stuck
  |_=>.stuck
 |_,_=>.stuck
def eU:SE:=λ_ a=>.ok (.ref a.length) (a++[.dT []])
theorem v8{K:Fg}(b:bZ K ρ au H) (a:At K ρ H d u)(e:pairsOf au d=some kvs):∃p,u=.ref p/\Dt H p:=by
 obtain⟨p,c,rfl,f,_⟩:=Er b a e;exact⟨p,rfl,.inr ⟨c,f⟩⟩
theorem Gu:DE X (.Dict [] [] pos) eU:=fK Mf λh H Q b p d=>by
 obtain⟨g,j,i,v,f,a,c,e,q⟩:=b;cases e;obtain⟨E,R⟩:=c.alloc d (x:=.dT []) (o:=.dT []) λE=>⟨[],zy,.nil⟩
 exact q _ _ _ E R (.last c.len.symm)
theorem FU{X:Cx}(hu:X.A.units+1<cLine)(G:DE X i g)(J:DE X o f):PC X .In i o (tD X.K (aS (iB false) g f)):=λA s σ H Q I S=>by
 refine Hz hu G J A s σ H Q I ?_;obtain⟨ρ,b,au,v,a3,a,rp,e,q⟩:=S;obtain⟨x,d,e1,e⟩:=za e;obtain⟨y,h,t,e⟩:=za e;refine⟨ρ,b,au,x,d,a,rp,e1,λk H1 u r j a1=>?_⟩;refine⟨k,b,d,y,h,a.ext r,j,t,λa0 H2 w m c z=>?_⟩;unfold iB at e;split at e
 ·rename_i E C P h2;cases e;obtain⟨p,n,rfl,U,Y⟩:=DB c z (a1.ext m) h2 P;refine⟨p,n,rfl,U,?_⟩;have:n.isSome=(cR C E).isSome:=by
   revert Y;split
   ·rename_i l;rintro⟨v,rfl,_⟩;rw[l];rfl
   ·rename_i l;rintro rfl;rw[l];rfl
  rw[this];exact q _ _ _ (r.trans m) c (.bl _)
 ·cases e
theorem sd(h:PC X op a b (tD X.K t))(c:behindInMarks op b=false:=by first|exact nobehind _ (by decide) (by decide)|rfl):DE X (.Compare a [op] [b] pos) t:=HB h c
theorem FF(h:PC X op a b (tD X.K t))(d:behindInMarks op b=false:=by first|exact nobehind _ (by decide) (by decide)|rfl):DT X (.Compare a [op] [b] pos) (eB t):=kI (HR h d) λe H Q c=>r0 _ _ _ c
theorem Gs{X:Cx}(S:X.A.units+1<cLine)(E:DE X o f)(C:DE X i g)(P:oU i):DE X (.Subscript o i pos) (aS eT f g):=fK (J1 S E C P) λτ H Q h=>by
 obtain⟨ρ,r,au,v,a3,a,rp,e,q⟩:=h;obtain⟨x,c,J,e⟩:=za e;obtain⟨y,d,s,e⟩:=za e;refine⟨ρ,r,au,x,c,a,rp,J,λk H1 u m j Y=>?_⟩;refine⟨k,r,c,y,d,a.ext m,j,s,λa0 H2 w l b t=>?_⟩;unfold eT at e;split at e
 ·rename_i G h2;split at e
  ·rename_i z hv;cases e;obtain⟨p,oo,rfl,I,n⟩:=DB b (Y.ext l) t G h2;rw[hv] at n;obtain⟨A,rfl,U⟩:=n;exact⟨p,A,rfl,I,q _ _ _ (m.trans l) b U⟩
  ·cases e
 ·cases e
theorem IE{X:Cx}(hu:X.A.units + 1<cLine)(U:DE X o f)(he:DE X e g)(hf:DE X f' h)(m:M2 X o "get" apos e f' cpos):DE X (.Call (.Attribute o "get" apos) [e,f'] [] cpos) (iH f g h):=fK (Md hu U he hf m) λτ H Q A=>by
 obtain⟨ρ,n,au,v,a4,a,rp,e,q⟩:=A;obtain⟨x,d,e1,e⟩:=za e;refine⟨ρ,n,au,x,d,a,rp,e1,λC H1 u l i I=>?_⟩;split at e
 ·rename_i S;obtain⟨p,rfl,hd⟩:=v8 i I S;obtain⟨y,b,J,e⟩:=za e;obtain⟨z,s,e3,e⟩:=za e;refine⟨p,rfl,hd,?_⟩;refine⟨C,n,d,y,b,a.ext l,i,J,λE H2 w k r P=>?_⟩;refine⟨E,n,b,z,s,a.ext (l.trans k),r,e3,λa0 H3 t j c a3=>?_⟩;split at e
  ·rename_i h1 h2;cases e;obtain⟨p',Y,ep,g1,g2⟩:=DB c (I.ext (k.trans j)) (P.ext j) h1 h2;cases ep;refine⟨Y,g1,q _ _ _ (l.trans (k.trans j)) c ?_⟩;revert g2;split
   ·rename_i G;rintro⟨vv,rfl,g3⟩;rw[G];exact g3
   ·rename_i G;rintro rfl;rw[G];exact a3
  ·cases e
 ·cases e
theorem Gv{X:Cx}(hu:X.A.units + 1<cLine)(ho:DE X o f)(he:DE X e g)(m:M1 X o "pop" apos e cpos):DE X (.Call (.Attribute o "pop" apos) [e] [] cpos) (kq f g):=fK (Mh hu ho he m) λτ H Q r=>by
 obtain⟨ρ,P,au,v,a3,a,rp,e,q⟩:=r;obtain⟨x,d,e1,e⟩:=za e;refine⟨ρ,P,au,x,d,a,rp,e1,λs H1 u G h S=>?_⟩;split at e
 ·rename_i h0;obtain⟨p,rfl,hd⟩:=v8 h S h0;obtain⟨y,l,Y,e⟩:=za e;refine⟨p,rfl,hd,?_⟩;refine⟨s,P,d,y,l,a.ext G,h,Y,λi H2 w A c a2=>?_⟩;split at e
  ·rename_i n k hk _;split at e
   ·rename_i a0 U;split at e
    ·rename_i z hv;cases e;obtain⟨p',ep,C,t,j,J⟩:=iV c (S.ext A) U (by intro z;cases z);cases ep;obtain⟨b,rfl,g3⟩:=qU a2 hk;have I:=J.val k;rw[hv] at I;obtain⟨vv,g5,g6⟩:=I;have E:bF i H2 i (bf H2 p (.dT (di t (k.map Sum.inl)))):=bF.wr C (sO j) _;exact⟨t,_,vv,b,j,rfl,g3,g5,q _ _ _ ((G.trans A).trans E) (c.wr C (sO j) ⟨_,zy,(J.drop k).ext E⟩) (g6.ext E)⟩
    ·cases e
   ·cases e
  ·cases e
 ·cases e
theorem IU{X:Cx}{j:Pos}(hu:X.A.units+1<cLine)(ho:DE X o f)(hi:DE X i g)(hv:DE X value h)(hs:swapsWith value (some (.Subscript o i pos')) j.line X.env=pure false):
  jo X (.Assign [.Subscript o i pos'] value j) (f6 f g h):=li (Kc hu ho hi hv hs) λE τ H P=>by
 obtain⟨ρ,G,au,fl,a4,a,rp,e,q⟩:=P;obtain⟨v,m,e1,e⟩:=za e;obtain⟨x,c,e2,e⟩:=za e;obtain⟨y,J,e3,e⟩:=za e;refine⟨ρ,G,au,v,m,a,rp,e1,λS H1 u A Q a1=>?_⟩;refine⟨S,G,m,x,c,a.ext A,Q,e2,λU H2 w s I a2=>?_⟩;refine⟨U,G,c,y,J,a.ext (A.trans s),I,e3,λd H3 t r l a3=>?_⟩;split at e
 ·rename_i n k hk _;split at e
  ·rename_i a0 hn;split at e
   ·rename_i hl;cases e;obtain⟨p,rfl,Y,vs,C,g2⟩:=iV l (a2.ext r) hn (by intro z;cases z);obtain⟨b,rfl,g3⟩:=qU a3 hk;have E:bF d H3 d (bf H3 p (.dT (d4 vs (k.map Sum.inl) u))):=bF.wr Y (sO C) _;refine⟨p,_,rfl,mO.t C g3 (by rw[←g2.length];exact hl),?_⟩;exact q _ _ _ ((A.trans (s.trans r)).trans E) (l.wr Y (sO C) ⟨_,zy,(g2.put k (a1.ext (s.trans r))).ext E⟩) (a.ext ((A.trans (s.trans r)).trans E))
   ·cases e
  ·cases e
 ·cases e
def bi:List D->ab->bu D:=λb a=>match b with
 |[x]=>match (fw a x).bind fV with
  |some l=>if l.length<=1000000 then .ok (.lst (aJ (aw l))) a else .stuck
  |none=>match pairsOf a x with
   |some kvs=>if kvs.length<=1000000 then .ok (.lst (aJ (aw (kvs.map (·.1))))) a else .stuck
   |none=>.stuck
 |_=>.stuck
theorem qt{K:Fg}:jh K bi (λn H Q=>fP K n H Q\/fh n H Q):=λP H S n J z G Q d A e q=>by
 unfold bi at e;split at e
 ·obtain⟨u,rfl,a⟩:=A.one;split at e
  ·rename_i l r;obtain⟨I,C,r⟩:=rJ.mp r;split at e
   ·rename_i b;cases e;obtain⟨p,s,rfl,k,o⟩:=lU d a C;obtain⟨w,rfl,rfl,y⟩:=QR o r;rw[bj] at b;refine .inl ⟨p,w,rfl,dr.of k,b,λx f=>cH.of (y x f).1,λt h c i m=>?_⟩;have j:h.map (·.2)=aw (w.map (·.2)):=BN (i.map _) m;refine q _ _ _ (bF.new c _) (d.new c _) (.newL d c ?_);rw[←j];exact Ev h λx f=>y x (i.mem_iff.mp f)
   ·cases e
  ·split at e
   ·rename_i g E;split at e
    ·rename_i b;cases e;obtain⟨p,s,rfl,k,o⟩:=Er d a E;refine .inr ⟨p,s,g.map (·.1),rfl,k,o.keys,by rw[bj];exact b,λt h c i m v=>?_⟩;have j:h.map (·.2)=aw (g.map (·.1)):=BN i m;refine q _ _ _ (bF.new c _) (d.new c _) (.newL d c ?_);rw[←j];exact Ev h λx f=>⟨v x f,Re d (v x f)⟩
    ·cases e
   ·cases e
 ·cases e
theorem qK{X:Cx}(c:X.calm=true)(b:X.A.units + 64<cLine):bN X (.builtin "sorted") (λa H Q=>fP X.K a H Q\/fh a H Q):=(U3 b).or (U9 c b)
def bQ(f:SE) (g:SA):SE:=λc e=>(f c e).bind λx b=>match x,fw b x with
 |.ref n,some _=>(g c b).bind λd a=>match d,a[n]? with
  |[y],some (.lst xs)=>if xs.length<sizeLine then .ok .non (a.set n (.lst (xs++[y]))) else .stuck
  |_,_=>.stuck
 |_,_=>.stuck
def oO(f:SE) (g:SA):SE:=λc e=>(f c e).bind λx b=>match x,fw b x with
 |.ref n,some _=>(g c b).bind λd a=>match d,a[n]? with
  |[y],some (.lst xs)=>match fw a y with
   |some zs=>if xs.length+zs.length<=sizeLine then .ok .non (a.set n (.lst (xs++zs))) else .stuck
   |none=>.stuck
  |_,_=>.stuck
 |_,_=>.stuck
theorem KY{c:Pos}(ho:DE X o f)(ha:DA X (e::es) ga)(g:attributeBase o "append" X.env (eval o X.env)=eval o X.env:=by rfl)
  (i:((backTo cpos (starEach (e::es) X.env)).all (λx=>!x.1)&&(backToKw cpos (keywordEach [] X.env)).all (λx=>x.1.isSome)
   && decide ((e::es).length+([]:List Keyword).length+(if([]:List Keyword).isEmpty then 0 else 1)<30))=true:=by rfl)
  (d:(c.endLine==cpos.line)=true:=by rfl)(hs:starEach (e::es) X.env=(false,eval e X.env)::starEach es X.env:=by rfl)(b:(backTo cpos (starEach es X.env)).any (·.1)=false:=by rfl):
  DE X (.Call (.Attribute o "append" c) (e::es) [] cpos) (bQ f ga):=fK (qJ F.plainAttrs_list F.slot_list_append F.type_list_append Rc ho ha g i d hs b) λτ H Q t=>by
 obtain⟨ρ,J,au,v,a0,a,rp,e,q⟩:=t;obtain⟨x,k,e1,e⟩:=za e;refine⟨ρ,J,au,x,k,a,rp,e1,λA H1 u I l P=>?_⟩;split at e
 ·rename_i n _ hL;obtain⟨ys,s,Y,e⟩:=za e;obtain⟨p,vs,rfl,g1,g2⟩:=lU l P hL;refine⟨.inl ⟨rfl,_,dr.of g1⟩,A,J,k,ys,s,a.ext I,l,Y,λm H2 ws C j a2=>?_⟩;split at e
  ·rename_i y xs U;split at e
   ·rename_i hl;cases e;obtain⟨w,rfl,a3⟩:=a2.one;obtain⟨p',ep,G,h,r,S⟩:=iV j (P.ext C) U (by intro z;cases z);cases ep;have E:bF m H2 m (bf H2 p (.lst (h++[w]))):=bF.wr G (BI r) _;exact⟨p,h,w,rfl,rfl,r,by rw[S.length];exact hl,q _ _ _ ((I.trans C).trans E) (j.wr G (BI r) ⟨_,zy,(S.append (.cons a3 .nil)).ext E⟩) .non⟩
   ·cases e
  ·cases e
 ·cases e
def p8(f:SE):SE:=λc b=>(f c b).bind λx a=>match x with
 |.ref n=>match a[n]? with
  |some (.lst xs)=>.ok (.lst xs) (a.set n .dead)
  |_=>.stuck
 |_=>.stuck
theorem Py(w:DE X o f):DE X o (p8 f):=fK w λτ H Q h=>by
 obtain⟨J,G,C,v,P,a,U,e,q⟩:=h;obtain⟨x,j,A,e⟩:=za e;refine⟨J,G,C,x,j,a,U,A,λk H1 u y b I=>?_⟩;split at e
 ·rename_i n;split at e
  ·rename_i Y m;cases e;obtain⟨p,rfl,g,s,l,S⟩:=iV b I m (by intro z;cases z);have c:=(db.mp g).1;obtain⟨E,R⟩:=b.kill c;refine q _ _ _ (y.trans E) R (.lst l ⟨λz=>?_,λz=>(b.gh p z).2 (ew g)⟩ (S.ext E));obtain⟨i,t,r⟩:=nh z;have d:(k.m.set n none)[i]?=some (some p):=by rw[bV t,r]
   by_cases hin:i=n
   ·subst hin;rw[pR c] at d;simp at d
   ·rw[fu (fX hin)] at d;exact hin (b.inj i n p d g)
  ·cases e
 ·cases e
def eD:SS:=λb a=>.ok (.nx b) a
def mz:SS:=λb a=>.ok (.brk b) a
def V7:SS:=λb a=>.ok (.ct b) a
def aV(f:SE):SS:=λc b=>(f c b).bind λv a=>.ok (.ret v) a
def pV:SS:=λ_ a=>.ok (.ret .non) a
def bX(f:SE):SS:=λb c=>(f b c).bind λ_ a=>.ok (.nx b) a
def aF(i:Nat) (f:SE):SS:=λb c=>(f b c).bind λv a=>.ok (.nx (b.set i (some v))) a
def aD(s t:SS):SS:=λb a=>match s b a with
 |.ok (.nx σ1) st1=>t σ1 st1
 |r=>r
def dZ(c:ST) (s t:SS):SS:=λd e=>(c d e).bind λb a=>if b=true then s d a else t d a
def jI(i:Nat) (g:D->D->ab->bu D) (f:SE):SS:=λb d=>match b[i]? with
 |some (some x)=>(f b d).bind λy a=>(g x y a).bind λz c=>.ok (.nx (b.set i (some z))) c
 |_=>.stuck
def fg(f g h:SE):SS:=λb e=>(h b e).bind λv d=>(f b d).bind λx c=>(g b c).bind λy a=>match x,y with
 |.ref n,.int k=>match a[n]? with
  |some (.lst xs)=>match km xs.length k with
   |some j=>.ok (.nx b) (a.set n (.lst (xs.set j v)))
   |none=>.stuck
  |_=>.stuck
 |_,_=>.stuck
theorem GG:mN X [] eD:=wv Kf λE h H b=>by
 obtain⟨f,j,i,g,c,a,d,e,q⟩:=b;cases e;exact q _ _ _ (.refl _ _) d a
theorem K9:jo X (.Break pos) mz:=li Mo λE h H b=>by
 obtain⟨f,j,i,g,c,a,d,e,q⟩:=b;cases e;exact q _ _ _ (.refl _ _) d a
theorem GJ(k:DE X e f):jo X (.Return (some e) pos) (aV f):=li (HP k) λE s H b=>by
 obtain⟨j,o,m,r,l,a,d,e,q⟩:=b;obtain⟨x,g,h,e⟩:=za e;cases e;exact⟨j,o,m,x,_,a,d,h,λi H1 u p c n=>q _ _ _ p c n⟩
theorem IV{b:Pos}(n:DE X e f)(k:swapsWith e none b.line X.env=pure false:=by rfl):jo X (.Expr e b) (bX f):=li (Kd n k) λE t H c=>by
 obtain⟨l,r,p,s,o,a,h,e,q⟩:=c;obtain⟨x,i,j,e⟩:=za e;cases e;exact⟨l,r,p,x,_,a,h,j,λm H1 u g d v=>q _ _ _ g d (a.ext g)⟩
theorem F1{K:Fg}:∀E d H,Dj K (aF i f) E d H->oA (tD K f) (i9 i) E d H:=λE d H b=>by
 obtain⟨m,r,o,s,n,a,h,e,q⟩:=b;obtain⟨x,j,k,e⟩:=za e;cases e;exact⟨m,r,o,x,_,a,h,k,λl H1 u g c p=>q _ _ _ g c ((a.ext g).set p i)⟩
theorem GK{X:Cx}{a:Pos}(d:X.N.Nodup)(j:X.N[i]?=some x)(h:L2.Loc X.env.scope x)(g:DE X e f)(c:swapsWith e (some (.Name x pos')) a.line X.env=pure false:=by rfl)(b:X.fn x=true\/X.env.scope.names.lookup x=some .local:=by first|exact .inl rfl|exact .inr rfl|assumption):
 jo X (.Assign [.Name x pos'] e a) (aF i f):=li (HQ d j h g c b) F1
theorem GH(a:jo X sm s):mN X [sm] s:=Kg a
section
variable {X:Cx}{e:Expr}{sm:Stmt}{rest:List Stmt}{s:SS}{t:SS}
theorem IT(p:jo X sm s)(x:mN X rest t):mN X (sm::rest) (aD s t):=wv (Mq p x) λE y H g=>by
 obtain⟨l,k,m,f,b,a,n,e,q⟩:=g;unfold aD at e;split at e
 ·rename_i d c u;exact⟨l,k,m,_,c,a,n,u,λj H1 o r i w=>⟨j,d,c,f,b,w,i,e,q.ext r⟩⟩
 ·rename_i h;refine⟨l,k,m,f,b,a,n,e,?_⟩;cases f with
  |nx σ'=>exact absurd e (h σ' b)
  |brk σ'=>exact q
  |ct σ'=>exact q
  |ret v=>exact q
end
theorem FE(r:DT X c b)(m:mN X a' s)(o:mN X b' t):jo X (.If c a' b' pos) (dZ b s t):=li (F0 r m o) λE w H j=>by
 obtain⟨p,k,v,l,h,a,u,e,q⟩:=j;obtain⟨x,d,n,e⟩:=za e;refine⟨p,k,v,x,d,a,u,n,λg H1 i f=>?_⟩;cases x with
 |true=>exact kY ⟨g,k,d,l,h,a.ext i,f,e,q.ext i⟩
 |false=>exact kZ ⟨g,k,d,l,h,a.ext i,f,e,q.ext i⟩
def PR(K:Fg) (g:D->D->ab->bu D) (r:AB):Prop:=
 ∀d H e x y u v z b (Q:VK),bZ K d e H->At K d H x u->At K d H y v->g x y e=.ok z b->(∀a c w,bF d H a c->bZ K a b c->At K a c z w->Q w c)->r u v H Q
theorem GC{X:Cx}(r:X.N.Nodup)(t:X.N[i]?=some x)(J:L2.Loc X.env.scope x)(he:DE X e f)(v:AF X op ti)(s:PR X.K g ti)(A:X.fn x=true\/X.env.scope.names.lookup x=some .local:=by first|exact .inl rfl|exact .inr rfl|assumption):
  jo X (.AugAssign (.Name x pos') op e pos) (jI i g f):=li (HM r t J he v A) λE τ H j=>by
 obtain⟨Y,P,au,fl,m,a,rp,e,q⟩:=j;unfold jI at e;split at e
 ·rename_i d Q;obtain⟨y,b,G,e⟩:=za e;obtain⟨z,C,o,e⟩:=za e;cases e;obtain⟨u,S,I⟩:=a.get Q;refine⟨u,S,Y,P,au,y,b,a,rp,G,λl H1 w c k U=>?_⟩;exact s l H1 b d y u w z m _ k (I.ext c) U o λa3 H2 zz n h p=>q _ _ _ (c.trans n) h ((a.ext (c.trans n)).set p i)
 ·cases e
theorem zR{K:Fg}:PR K (oI (λ_ _=>True) λi j=>.int (p i j)) (Pk p):=λg H f x y u v z d Q c a b e q=>by
 unfold oI at e;split at e
 ·cases a;cases b;rw[if_pos True.intro] at e;cases e;exact⟨_,_,rfl,rfl,q _ _ _ (.refl _ _) c (.int _)⟩
 ·cases e
theorem Lc{d:Pos}(he:DE X value h)(ho:DE X o f)(hi:DE X i g)(ha:∀v,assign (.Subscript o i pos') X.env v=(do
   let ov ←holding [v] (eval o X.env)
   let iv ←holding [v,ov] (eval i X.env)
   standAt pos'
   holding [v,ov,iv] (setItem ov iv v)
   release [v,ov,iv] []):=by intro _;rfl)
  (hs:swapsWithSole [.Subscript o i pos'] value d.line X.env=pure false:=by rfl)(hw:swappedStores [.Subscript o i pos'] value X.env=pure none:=by rfl)
  (h1:(assignEach [.Subscript o i pos'] X.env).map (·.2)=[assign (.Subscript o i pos') X.env]:=by rfl):jo X (.Assign [.Subscript o i pos'] value d) (fg f g h):=
 li (wu he (HJ ho hi MD ha) hs hw h1) λE τ H P=>by
 obtain⟨ρ,G,au,fl,a0,a,rp,e,q⟩:=P;obtain⟨v,l,e1,e⟩:=za e;obtain⟨x,b,e2,e⟩:=za e;obtain⟨y,J,e3,e⟩:=za e;refine⟨ρ,G,au,v,l,a,rp,e1,λS H1 u A Q a1=>?_⟩;refine⟨S,G,l,x,b,a.ext A,Q,e2,λU H2 w s I a2=>?_⟩;refine⟨U,G,b,y,J,a.ext (A.trans s),I,e3,λc H3 t r m a3=>?_⟩;split at e
 ·rename_i n k _;split at e
  ·rename_i xs hn;split at e
   ·rename_i j hj;cases e;cases a3;obtain⟨p,rfl,hp,Y,C,g2⟩:=iV m (a2.ext r) hn (by intro z;cases z);have E:bF c H3 c (bf H3 p (.lst (Y.set j u))):=bF.wr hp (BI C) _;refine⟨p,Y,k,j,rfl,rfl,C,by rw[g2.length];exact hj,?_⟩;exact q _ _ _ ((A.trans (s.trans r)).trans E) (m.wr hp (BI C) ⟨_,zy,(g2.set (a1.ext (s.trans r)) j).ext E⟩) (a.ext ((A.trans (s.trans r)).trans E))
   ·cases e
  ·cases e
 ·cases e
abbrev SG:=D->DS->Option DS
def gN(i:Nat):SG:=λd a=>some (a.set i (some d))
def eo:List D->DS->Option DS:=λa b=>match a with
 |[]=>some b
 |_=>none
def bv(t:SG) (u:List D->DS->Option DS):List D->DS->Option DS:=λb c=>match b with
 |d::r=>(t d c).bind λa=>u r a
 |_=>none
def gT(n:Nat) (u:List D->DS->Option DS):SG:=λd a=>match d with
 |.tup ds=>if ds.length=n then u ds a else none
 |_=>none
def gD(K:Fg) (b:SG):TG:=λv g H Q=>∃e f d a,dc K e H f g/\At K e H d v/\b d f=some a/\∀c,dc K e H a c->Q c H
def Wc(K:Fg) (b:List D->DS->Option DS):su:=λg h H Q=>∃d f e a,dc K d H f h/\ae K d H e g/\b e f=some a/\∀c,dc K d H a c->Q c H
abbrev DG(X:Cx) (a:Expr) (b:SG):Prop:=PG X a (gD X.K b)
abbrev AI(X:Cx) (a:List Expr) (b:List D->DS->Option DS):Prop:=sw X a (Wc X.K b)
theorem vx(h:PG X e g)(k:∀v a H Q,g' v a H Q->g v a H Q):PG X e g':=λb s c H v u Q I r q=>h b s c H v u Q I r (k _ _ _ _ q)
theorem wt(h:sw X es g)(k:∀v a H Q,g' v a H Q->g v a H Q):sw X es g':=λb s c H v u Q I r q=>h b s c H v u Q I r (k _ _ _ _ q)
theorem IJ{X:Cx}(g:X.N.Nodup)(k:X.N[i]?=some x)(j:L2.Loc X.env.scope x)(f:X.fn x=true\/X.env.scope.names.lookup x=some .local:=by first|exact .inl rfl|exact .inr rfl|assumption):DG X (.Name x pos) (gN i):=
 vx (J2 g k j f) λv m H Q c=>by
 obtain⟨l,n,d,h,a,b,e,q⟩:=c;cases e;exact q _ (a.set b i)
theorem IK:AI X [] eo:=wt J3 λv h H Q c=>by
 obtain⟨g,i,d,f,a,b,e,q⟩:=c;unfold eo at e;split at e
 ·cases e;cases b;exact⟨rfl,q _ a⟩
 ·cases e
theorem K4(p:DG X e t)(m:AI X es u)(l:(assignEach (e::es) X.env).map (·.2)=assign e X.env::(assignEach es X.env).map (·.2):=by rfl):AI X (e::es) (bv t u):=
 wt (Mk p m l) λv r H Q f=>by
 obtain⟨h,n,d,g,a,b,e,q⟩:=f;unfold bv at e;split at e
 ·obtain⟨c,j,i⟩:=rJ.mp e;cases b with
  |cons b1 b2=>exact⟨_,_,rfl,h,n,_,c,a,b1,j,λk o=>⟨h,c,_,g,o,b2,i,q⟩⟩
 ·cases e
theorem GA{X:Cx}(o:X.calm=true)(h:AI X es u)(i:(assignEach es X.env).length=n:=by rfl)(f:(assignEach es X.env).findIdx? (·.1)=none:=by rfl):DG X (.Tuple es k pos) (gT n u):=
 vx (HK o h i f) λv p H Q c=>by
 obtain⟨j,m,d,g,a,b,e,q⟩:=c;unfold gT at e;split at e
 ·split at e
  ·rename_i l;cases b with
   |tup h1 h2 h3=>exact⟨_,_,rfl,cH.of h1,by rw[h3.length];exact l,j,m,_,g,a,h3,e,q⟩
  ·cases e
 ·cases e
structure eR (ρ:Loc) (H:Hp) (ρ':Loc) (H':Hp):Prop where
 len:ρ.m.length<=ρ'.m.length
 old:∀(n:Nat) (a:Addr),n < ρ.m.length->ρ'.m[n]?=some (some a)->ρ.m[n]?=some (some a)
 keep:∀a o,H a=some o->some a∉ρ.m->H' a=some o/\some a∉ρ'.m
 gho:∀a∈ρ'.g,a∈ρ.g\/H a=none
 frz:∀a ob u,H a=some (.frz ob u)->H' a=some (.frz ob u)
theorem bF.toG(x:bF ρ H ρ' H'):eR ρ H ρ' H':=⟨x.len,x.old,x.keep,λa h=>.inl (by rw[←x.gho];exact h),x.frz⟩
theorem eR.then(a:eR ρ H ρ1 H1)(b:bF ρ1 H1 ρ2 H2):eR ρ H ρ2 H2:=
 ⟨ay a.len b.len,λn c h e=>a.old n c h (b.old n c (da h a.len) e),λc o e n=>by
  obtain⟨g,f⟩:=a.keep c o e n
  exact b.keep c o g f,λc h=>a.gho c (by rw[←b.gho];exact h),λc d u e=>b.frz c d u (a.frz c d u e)⟩
theorem eR.out(x:eR ρ H ρ' H') (h:H a=some o)(n:dX ρ a):H' a=some o/\dX ρ' a:=
 ⟨(x.keep a o h n.1).1,(x.keep a o h n.1).2,λz=>by
  rcases x.gho a z with q|q
  ·exact n.2 q
  ·rw[h] at q;cases q⟩
theorem eR.mv(x:eR ρ H ρ' H'):Mv ρ H ρ' H':=⟨λh n=>x.out h n,x.len,x.old⟩
theorem At.extG{K:Fg}(x:eR ρ H ρ' H') (h:At K ρ H d v):At K ρ' H' d v:=h.mv x.mv
theorem Ls.extG{K:Fg}(x:eR ρ H ρ' H')(h:Ls K ρ H a vs):Ls K ρ' H' a vs:=h.mv x.mv
structure oX (K:Fg) (ρ:Loc) (H:Hp) (J:It) (xs:List D):Prop where
 item:∀ρ2 H2,eR ρ H ρ2 H2->∀(i:Nat) (x:D),xs[i]?=some x->J.go i H2/\∀y H3,J.yld i H2 y H3->bF ρ2 H2 ρ2 H3/\∀au,bZ K ρ2 au H2->bZ K ρ2 au H3/\At K ρ2 H3 x y
 done:∀ρ2 H2,eR ρ H ρ2 H2->∀i:Nat,xs.length<=i->J.stop i H2
def iD(K:Fg) (f:SA):TI:=λi H R=>∃d h g e b,dc K d H h i/\bZ K d g H/\f h g=.ok e b/\∀a c J,bF d H a c->bZ K a b c->oX K a c J e->R J c
abbrev DI(X:Cx) (b a:Expr) (f:SA):Prop:=PI X b a (iD X.K f)
noncomputable def eG:D->Option (List D)
 |.tup xs=>some xs
 |.lst xs=>some xs
 |.scr xs=>some xs
 |_=>none
def aH(f:SE):SA:=λc b=>(f c b).bind λx a=>match eG x with
 |some xs=>.ok xs a
 |none=>.stuck
noncomputable def rng(lo:Int) (n:Nat):List D:=(List.range n).map λ(i:Nat)=>D.int (lo+i)
def hU(g:SA):SA:=λd b=>(g d b).bind λc a=>match c with
 |[.int j]=>if -(2^62)<=j/\j<2^62 then .ok (rng 0 j.toNat) a else .stuck
 |_=>.stuck
def SV(g:SA):SA:=λd b=>(g d b).bind λc a=>match c with
 |[.int i,.int j]=>if -(2^62)<=i/\i<2^62/\-(2^62)<=j/\j<2^62 then .ok (rng i (j-i).toNat) a else .stuck
 |_=>.stuck
theorem uG{lo:Int}(h:(rng lo n)[i]?=some x):i<n/\x=.int (lo+i):=by
 unfold rng at h;rw[fM] at h;rcases pB i n with z|z
 ·rw[C3 z] at h;exact⟨z,(g8 h).symm⟩
 ·rw[oq (by rw[pH];exact z)] at h;cases h
theorem G0{K:Fg}{lo:Int}:oX K ρ H (Ds lo n) (rng lo n) where
 item:=λa H2 x i d e=>by
  obtain⟨c,rfl⟩:=uG e;refine⟨c,λy H3 b=>?_⟩;obtain⟨rfl,rfl⟩:=b;exact⟨.refl _ _,λ_ r=>⟨r,.int _⟩⟩
 done:=λa H2 x i h=>by
  unfold rng at h;rw[bj,pH] at h;exact h
theorem nQ(h:PI X tg l t)(k:∀a H R,t' a H R->t a H R):PI X tg l t':=λb s c H R I q=>h b s c H R I (k _ _ _ q)
theorem FZ(h:PI X tg l t)(d:PI X tg l t'):PI X tg l (λc H R=>t c H R\/t' c H R):=λb s a H R I q=>by
 rcases q with q|q
 ·exact h b s a H R I q
 ·exact d b s a H R I q
theorem wI{K:Fg}(c:∀b H2,eR ρ H b H2->dr K H2 p vs)(f:ae K ρ H xs vs):oX K ρ H (PQ K p) xs where
 item:=λb H2 x i d e=>by
  obtain⟨v,g,a⟩:=f.get e;refine⟨⟨vs,v,c _ _ x,g⟩,λy H3 j=>?_⟩;obtain⟨rfl,k⟩:=j;have:=k vs (c _ _ x);rw[g] at this;cases this;exact⟨.refl _ _,λ_ r=>⟨r,a.extG x⟩⟩
 done:=λb H2 x i h=>⟨vs,c _ _ x,by rw[f.length];exact h⟩
theorem F6{K:Fg}(c:∀b H2,eR ρ H b H2->cH K H2 p vs)(f:ae K ρ H xs vs):oX K ρ H (PP K p) xs where
 item:=λb H2 x i d e=>by
  obtain⟨v,g,a⟩:=f.get e;refine⟨⟨vs,v,c _ _ x,g⟩,λy H3 j=>?_⟩;obtain⟨rfl,k⟩:=j;have:=k vs (c _ _ x);rw[g] at this;cases this;exact⟨.refl _ _,λ_ r=>⟨r,a.extG x⟩⟩
 done:=λb H2 x i h=>⟨vs,c _ _ x,by rw[f.length];exact h⟩
theorem GB(r:DE X l f):DI X tg l (aH f):=nQ (FZ (J6 r) (HL r)) λw H R j=>by
 obtain⟨n,p,o,v,t,a,k,e,q⟩:=j;obtain⟨x,s,m,e⟩:=za e;cases x with
 |tup ys=>
  cases e;refine .inr ⟨n,p,o,_,_,a,k,m,λd H1 u i b h=>?_⟩;cases h with
  |tup h1 h2 h3=>exact⟨_,rfl,⟨_,cH.of h1⟩,q _ _ _ i b (F6 (λg H2 c=>cH.of (c.out h1 h2).1) h3)⟩
 |lst ys=>
  cases e;refine .inl ⟨n,p,o,_,_,a,k,m,λd H1 u i b h=>?_⟩;cases h with
  |lst h1 h2 h3=>exact⟨_,rfl,⟨_,dr.of h1⟩,q _ _ _ i b (wI (λg H2 c=>dr.of (c.out h1 h2).1) h3)⟩
 |scr ys=>
  cases e;refine .inl ⟨n,p,o,_,_,a,k,m,λd H1 u i b h=>?_⟩;cases h with
  |scr h1 h3=>exact⟨_,rfl,⟨_,h1.sq⟩,q _ _ _ i b (wI (λg H2 c=>(h1.extG c).sq) h3)⟩
 |_=>cases e
theorem Nb(m:Gl X "range")(h:X.mg "range"=none)(r:DA X [a] g)(k:starEach [a] X.env=[(false,eval a X.env)]:=by rfl):DI X tg (.Call (.Name "range" p) [a] [] pos) (hU g):=
 nQ (NO m h r k) λC H R b=>by
 obtain⟨o,l,y,A,v,a,z,e,q⟩:=b;obtain⟨x,s,j,e⟩:=za e;split at e
 ·split at e
  ·rename_i d;cases e;refine⟨o,l,y,_,_,a,z,j,λt H1 u i c n=>?_⟩;obtain⟨w,rfl,f⟩:=n.one;cases f;exact⟨_,rfl,d.1,d.2,q _ _ _ i c G0⟩
  ·cases e
 ·cases e
def ig(f:SE):SA:=λc b=>(f c b).bind λx a=>match x with
 |.ref n=>match a[n]? with
  |some (.dT kvs)=>.ok (aJ (kvs.map (·.1))) (a.set n (.fT kvs))
  |_=>.stuck
 |_=>.stuck
theorem IL(hl:DE X l f):DI X tg l (ig f):=nQ (J5 hl) λτ H R w=>by
 obtain⟨ρ,σ,au,xs,a0,a,rp,e,q⟩:=w;obtain⟨x,j,Y,e⟩:=za e;refine⟨ρ,σ,au,x,j,a,rp,Y,λb H1 u U g a1=>?_⟩;split at e
 ·rename_i n;split at e
  ·rename_i c S;cases e;obtain⟨p,rfl,C,m,t,I⟩:=iV g a1 S (by intro z;cases z);refine⟨p,m,c.map (·.1),rfl,t,I.keys,λv J G h2=>?_⟩;have E:bF b H1 b (bf H1 p (.frz v (.dT m))):=bF.wr C (sO t) _;have R:bZ X.K b (j.set n (.fT c)) (bf H1 p (.frz v (.dT m))):=g.wr C (sO t) ⟨m,v,zy,I.ext E⟩;refine q _ _ _ (U.trans E) R ⟨λA H2 o i d e=>?_,λA H2 o i h=>?_⟩
   ·have s:(J.map (·.2))[i]?=(c.map (·.1))[i]?:=by rw[G]
    unfold aJ at e;rw[fM,←s,fM] at e;cases hi:J[i]? with
    |none=>rw[hi] at e;cases e
    |some x=>
     rw[hi] at e;cases e;refine⟨⟨(db.mp hi).1,o.frz _ _ _ zy⟩,λy H3 Q=>?_⟩;obtain⟨rfl,x',k,rfl⟩:=Q;rw[hi] at k;cases k;have P:=h2 x (ew hi);have a3:At X.K b H1 (aL x.2) (.ref x.1):=.tup P (Re g P) (uS _);exact⟨.refl _ _,λ_ r=>⟨r,(a3.ext E).extG o⟩⟩
   ·have s:=congrArg List.length G;rw[bj] at s;unfold aJ at h;rw[bj,←s] at h;exact⟨h,o.frz _ _ _ zy⟩
  ·cases e
 ·cases e
def dM(b:SG) (a:SS):List D->SS
 |[],σ,au=>.ok (.nx σ) au
 |x::xs,σ,au=>match b x σ with
  |none=>.stuck
  |some σ1=>match a σ1 au with
   |.ok (.nx σ2) st2=>dM b a xs σ2 st2
   |.ok (.ct σ2) st2=>dM b a xs σ2 st2
   |.ok (.brk σ2) st2=>.ok (.nx σ2) st2
   |r=>r
def cb(d:SA) (g:SG) (a:SS):SS:=λc f=>(d c f).bind λe b=>dM g a e c b
def de(c:ST) (a:SS):Nat->SS
 |0,_,_=>.stuck
 |n+1,σ,au=>(c σ au).bind λb d=>if b=true then(match a σ d with
  |.ok (.nx σ2) st2=>de c a n σ2 st2
  |.ok (.ct σ2) st2=>de c a n σ2 st2
  |.ok (.brk σ2) st2=>.ok (.nx σ2) st2
  |r=>r) else .ok (.nx σ) d
noncomputable def mr:Nat:=1000000
def dE(c:ST) (a:SS):SS:=de c a mr
theorem wW{b:Type}{a:List b}(h:i<a.length):∃x,a[i]?=some x/\a.drop i=x::a.drop (i+1):=⟨a[i],bV h,lN h⟩
theorem GF{X:Cx}(hp:PassesOwn (model X.prog X.w) X.A X.env X.xe)(hc:X.calm=true)(hi:DI X tg iter it)(hg:DG X tg bd)(hb:mN X body b)(hs:∀x,foldedSetIterable iter X.env x=pure x:=by intro _;rfl):
  jo X (.For tg iter body [] pos) (cb it bd b):=li (HN hp hc hi hg hb hs) λE τ H a1=>by
 obtain⟨ρ,σ,au,fl,S,a,rp,e,q⟩:=a1;obtain⟨A,Q,e1,e⟩:=za e;refine⟨ρ,σ,au,A,Q,a,rp,e1,λs H1 J x1 a3 ok=>?_⟩;have q1:=q.ext x1;refine⟨λi m G t=>i+m=A.length/\∃g n j,bF s H1 g t/\dc X.K g t n G/\bZ X.K g j t/\dM bd b (A.drop i) n j=.ok fl S,⟨A.length,by lia,s,σ,Q,.refl _ _,a.ext x1,a3,e⟩,?_⟩;rintro i m G t ⟨a7,g,n,j,U,a2,I,c⟩;rcases pB i A.length with a0|hge
 ·obtain⟨x,hx,hd⟩:=wW a0;rw[hd] at c;obtain⟨go,yl⟩:=ok.item g t U.toG i x hx;refine .inr ⟨go,λP H3=>∃k d f,bF s H1 k H3/\dc X.K k H3 d P/\bZ X.K k f H3/\dM bd b (A.drop (i+1)) d f=.ok fl S,λP H3 ⟨k,d,f,n1,n2,n3,n4⟩=>⟨m-1,by lia,by lia,k,d,f,n1,n2,n3,n4⟩,λy H3 hy=>?_⟩;obtain⟨y1,y4⟩:=yl y H3 hy;obtain⟨y2,y3⟩:=y4 _ I;unfold dM at c;cases hbd:bd x n with
  |none=>rw[hbd] at c;cases c
  |some σ1=>
   rw[hbd] at c;dsimp only at c;have Y:=U.trans y1;refine⟨g,n,x,σ1,a2.ext y1,y3,hbd,λa6 a4=>?_⟩;cases hr:b σ1 j with
   |stuck=>rw[hr] at c;cases c
   |exc z w=>rw[hr] at c;cases c
   |ok fb f=>
    rw[hr] at c;refine⟨g,σ1,j,fb,f,a4,y2,hr,?_⟩;cases fb with
    |nx d=>exact λl o C p h r=>⟨l,d,f,Y.trans p,r,h,c⟩
    |ct d=>exact λl o C p h r=>⟨l,d,f,Y.trans p,r,h,c⟩
    |brk d=>
     dsimp only at c;cases c;exact λl o C p h r=>q1 _ _ _ (Y.trans p) h r
    |ret v=>
     dsimp only at c;cases c;exact λl o u p h r=>q1 _ _ _ (Y.trans p) h r
 ·rw[C9 hge] at c;unfold dM at c;cases c;exact .inl ⟨ok.done g t U.toG i hge,q1 _ _ _ U I a2⟩
theorem Ld{X:Cx}(hp:PassesOwn (model X.prog X.w) X.A X.env X.xe)(hc:DT X c t)(hb:mN X body b):jo X (.While c body [] pos) (dE t b):=li (Mp hp hc hb) λE τ H a3=>by
 obtain⟨ρ,σ,au,fl,P,a,rp,e,q⟩:=a3;unfold dE at e;generalize mr=n at e;refine⟨λm C S=>∃i g j,bF ρ H i S/\dc X.K i S g C/\bZ X.K i j S/\de t b m g j=.ok fl P,⟨n,ρ,σ,au,.refl _ _,a,rp,e⟩,?_⟩;rintro m C S ⟨i,g,j,x2,a2,a1,Q⟩;cases m with
 |zero=>unfold de at Q;cases Q
 |succ m=>
  unfold de at Q;obtain⟨x,r,e3,f⟩:=za Q;refine⟨i,g,j,x,r,a2,a1,e3,λa0 H3 Y J=>?_⟩;have y:=x2.trans Y;cases x with
  |false=>
   rw[if_neg (by decide)] at f;cases f;exact kZ (q _ _ _ y J (a2.ext Y))
  |true=>
   rw[if_pos rfl] at f;refine kY ⟨λs U=>∃p I G,bF ρ H p U/\dc X.K p U I s/\bZ X.K p G U/\de t b m I G=.ok fl P,λs U hh=>⟨m,yo m,hh⟩,?_⟩;cases hr:b g r with
   |stuck=>rw[hr] at f;cases f
   |exc z w=>rw[hr] at f;cases f
   |ok fb st5=>
    rw[hr] at f;refine⟨a0,g,r,fb,st5,a2.ext Y,J,hr,?_⟩;cases fb with
    |nx σ3=>exact λh k A l d o=>⟨h,σ3,st5,y.trans l,o,d,f⟩
    |ct σ3=>exact λh k A l d o=>⟨h,σ3,st5,y.trans l,o,d,f⟩
    |brk σ3=>
     dsimp only at f;cases f;exact λh k A l d o=>q _ _ _ (y.trans l) d o
    |ret v=>
     dsimp only at f;cases f;exact λh k u l d o=>q _ _ _ (y.trans l) d o
def bm(g:SG) (c:ST) (f:SE):List D->DS->ab->bu (List D)
 |[],_,au=>.ok [] au
 |x::xs,σ,au=>match g x σ with
  |none=>.stuck
  |some σ1=>(c σ1 au).bind λb a=>if b=true then(f σ1 a).bind λy d=>(bm g c f xs σ1 d).bind λh e=>.ok (y::h) e else bm g c f xs σ1 a
def aT(k:Nat) (is:List Nat) (a:DS):DS:=List.replicate k none++is.map λi=>(a[i]?).getD none
def aG(g:SA) (k:Nat) (is:List Nat) (j:SG) (c:ST) (f:SE):SE:=λe i=>(g e i).bind λd b=>if d.length<=sizeLine then(bm j c f d (aT k is e) b).bind λh a=>.ok (.lst h) a else .stuck
def aI:ST:=λ_ a=>.ok true a
theorem dc.start{K:Fg}(h:dc K ρ H σ τ)(k:Nat)(is:List Nat):dc K ρ H (aT k is σ) (fN k is τ):=by
 have f:∀{a c:DS}{b d:St},dc K ρ H a b->dc K ρ H c d->dc K ρ H (a++c) (b++d):=λm l=>by
  induction m with
  |nil=>exact l
  |cons r t ih=>exact .cons r ih
 refine f ?_ ?_
 ·induction k with
  |zero=>exact .nil
  |succ k ih=>exact .cons (λd e=>nomatch e) ih
 ·induction is with
  |nil=>exact .nil
  |cons i is ih=>
   refine .cons (λd e=>?_) ih;have e:(σ[i]?).getD none=some d:=e;have g:σ[i]?=some (some d):=by
    cases q:σ[i]? with
    |none=>rw[q] at e;cases e
    |some o=>rw[q] at e;exact congrArg some e
   obtain⟨u,j,a⟩:=h.get g;exact⟨u,by show(τ[i]?).getD none=some u;rw[j];rfl,a⟩
def Loc.with(a:Loc) (p:Addr):Loc:=⟨a.m,p::a.g⟩
theorem Kz(a:H p=none):Mv ρ H (ρ.with p) (bf H p o):=⟨λe n=>⟨by rw[zx (zp e a)];exact e,n.1,λz=>by
 rcases ca.mp z with z|z
 ·exact zp e a z
 ·exact n.2 z⟩,br _,λ_ _ _ e=>e⟩
theorem At.with{K:Fg}(a:H p=none) (h:At K ρ H d v):At K (ρ.with p) (bf H p o) d v:=h.mv (Kz a)
theorem xb{c b:Loc}(d:b.m=c.m)(g:p∈c.g)(f:∀a,a∈b.g->a∈c.g):Mv c H b (bf H p o):=⟨λe n=>⟨by rw[zx (by rintro rfl;exact n.2 g)];exact e,by rw[d];exact n.1,λz=>n.2 (f _ z)⟩,by rw[d];exact br _,λ_ _ _ e=>by rw[d] at e;exact e⟩
theorem At.grow{K:Fg}{ρ ρ':Loc}(e:ρ'.m=ρ.m)(b:p∈ρ.g)(c:∀a,a∈ρ'.g->a∈ρ.g) (h:At K ρ H d v):At K ρ' (bf H p o) d v:=h.mv (xb e b c)
theorem ae.grow{K:Fg}{ρ ρ':Loc}(e:ρ'.m=ρ.m)(b:p∈ρ.g)(c:∀a,a∈ρ'.g->a∈ρ.g) (h:ae K ρ H d v):ae K ρ' (bf H p o) d v:=h.mv (xb e b c)
theorem lc.map{K:Fg}(k:∀d v,At K ρ H d v->At K ρ' H' d v)(j:∀b f u,H b=some (.frz f u)->H' b=some (.frz f u))(same:H' a=H a)(h:lc K ρ H x a):lc K ρ' H' x a:=by
 have g:∀{d:List D}{v:List V},ae K ρ H d v->ae K ρ' H' d v:=λ{d v} h=>by
  induction d generalizing v with
  |nil=>cases h;exact .nil
  |cons x xs ih=>cases h with|cons a b=>exact .cons (k _ _ a) (ih b)
 cases x with
 |lst xs=>obtain⟨e,q,r⟩:=h;exact⟨e,by rw[same];exact q,g r⟩
 |dT kvs=>obtain⟨e,q,r⟩:=h;exact⟨e,by rw[same];exact q,Paired.mapP r λp q z=>⟨z.1,k _ _ z.2⟩⟩
 |fT kvs=>obtain⟨e,f,q,r⟩:=h;exact⟨e,f,by rw[same];exact q,Paired.mapP r λp q z=>⟨z.1,k _ _ z.2⟩⟩
 |dI kvs=>obtain⟨e,q,r⟩:=h;exact⟨e,by rw[same];exact q,Paired.mapP r λp q z=>⟨z.1,k _ _ z.2⟩⟩
 |dP ks=>obtain⟨e,q,n,l,u,r⟩:=h;exact⟨e,by rw[same];exact q,n,l,u,r.map k⟩
 |dead=>exact h.elim
 |tab=>obtain⟨c,i,q,r⟩:=h;exact⟨c,i,by rw[same];exact q,r.map j⟩
theorem bZ.with{K:Fg}(r:bZ K ρ au H)(c:H p=none)(f:List V):bZ K (ρ.with p) au (bf H p (.lst f)):=
 ⟨r.len,r.inj,λm b y j i=>by
  have q:=r.obj m b y j i;obtain⟨u,k⟩:=q.has;exact q.map (λd v h=>h.with c) (λb o u e=>by rw[zx (zp e c)];exact e) (zx (zp k c)),λa ha=>by
  rcases ca.mp ha with rfl|ha
  ·exact⟨⟨f,zy⟩,(EJ r c).1⟩
  ·obtain⟨⟨n,g⟩,l⟩:=r.gh a ha
   exact⟨⟨n,by rw[zx (zp g c)];exact g⟩,l⟩,r.live⟩
theorem bZ.grow{K:Fg}{ρ':Loc}(r:bZ K ρ au H)(c:ρ'.m=ρ.m)(g:p∈ρ.g)(j:∀a,a∈ρ'.g->a∈ρ.g)(i:List V):bZ K ρ' au (bf H p (.lst i)):=
 ⟨by rw[c];exact r.len,by rw[c];exact r.inj,λm b y f l=>by
  rw[c] at f;refine(r.obj m b y f l).map (λd v h=>h.grow c g j) (λb s u e=>by rw[zx (by rintro rfl;obtain⟨⟨_,z⟩,_⟩:=r.gh _ g;rw[e] at z;cases z)];exact e) (zx ?_);rintro rfl;exact(r.gh b g).2 (ew f),λa k=>by
  obtain⟨⟨o,q⟩,n⟩:=r.gh a (j a k);refine⟨?_,by rw[c];exact n⟩;by_cases e:a=p
  ·subst e;exact⟨i,zy⟩
  ·exact⟨o,by rw[zx e];exact q⟩,by rw[c];exact r.live⟩
theorem dc.map{K:Fg}(k:∀d v,At K ρ H d v->At K ρ' H' d v)(h:dc K ρ H σ τ):dc K ρ' H' σ τ:=Paired.mapP h λo v z d e=>by
 obtain⟨u,b,a⟩:=z d e;exact⟨u,b,k _ _ a⟩
inductive CI (K:Fg) (bd:SG) (c:ST) (f:SE) (xs ys:List D) (st2:ab) (ρ1:Loc) (H1:Hp) (p:Addr) (i:Nat) (τ:St) (H':Hp):Prop where
 |mk {ρ2:Loc}{σ2:DS}{st3:ab}{acc:List D}{accV:List V}{zs:List D}(x2:eR ρ1 H1 ρ2 H') (hg:ρ2.g=p::ρ1.g) (hpp:H' p=some (.lst accV)) (hal:ae K ρ2 H' acc accV) (hli:acc.length<=i) (a2:dc K ρ2 H' σ2 τ) (rp2:bZ K ρ2 st3 H') (e3:bm bd c f (xs.drop i) σ2 st3=.ok zs st2) (hac:acc++zs=ys):CI K bd c f xs ys st2 ρ1 H1 p i τ H'
theorem Go{k:Nat}{is:List Nat}{K:Fg}(a:dc K ρ H σ τ)(rp:bZ K ρ au H)(e1:it σ au=.ok xs st1)(a9:xs.length<=sizeLine)(e2:bm bd c f xs (aT k is σ) st1=.ok ys st2)
 (b5:∀j H1 p l r g,bF ρ H j H1->bZ K j st1 H1->H1 p=none->eR j H1 l r->l.g=p::j.g->r p=some (.lst g)->ae K l r ys g->bZ K l st2 r->Q (.ref p) r):kb (iD K it) k is (gD K bd) (nm K c) (tD K f) τ H Q:=by
 refine⟨ρ,σ,au,xs,st1,a,rp,e1,λj H1 J x1 b4 ok p P=>?_⟩
 refine⟨λi m a3 r=>i+m=xs.length/\CI K bd c f xs ys st2 j H1 p i a3 r,
  ⟨xs.length,by lia,.mk ?_ rfl zy .nil (gX _) (((a.ext x1).start k is).map λd v h=>h.with P) (b4.with P []) e2 rfl⟩,?_⟩
 ·have E:bF j H1 j (bf H1 p (.lst [])):=bF.new P _
  exact⟨E.len,E.old,E.keep,λa h=>by
   rcases ca.mp h with rfl|h
   ·exact .inr P
   ·exact .inl h,E.frz⟩
 rintro i m a3 r ⟨c2,@⟨l,b2,b9,acc,g,zs,x2,hg,b3,X,I,a2,S,q,t⟩⟩;have c0:p∈l.g:=by rw[hg];exact dB
 rcases pB i xs.length with b0|hge
 ·obtain⟨x,hx,hd⟩:=wW b0;rw[hd] at q;obtain⟨go,yl⟩:=ok.item l r x2 i x hx
  refine .inr ⟨go,CI K bd c f xs ys st2 j H1 p (i+1),
   λb6 H4 hh=>⟨m-1,by lia,by lia,hh⟩,λy H3 hy=>?_⟩
  obtain⟨y1,y4⟩:=yl y H3 hy;obtain⟨y2,y3⟩:=y4 _ S;unfold bm at q;cases hbd:bd x b2 with
  |none=>rw[hbd] at q;cases q
  |some σ1=>
   rw[hbd] at q;dsimp only at q;obtain⟨bb,a7,e4,e5⟩:=za q;refine⟨l,b2,x,σ1,a2.ext y1,y3,hbd,λb6 a4=>?_⟩;have Y:some p∉l.m:=(S.gh p c0).2;have z:=(y1.keep p _ b3 Y).1;refine⟨l,σ1,b9,bb,a7,a4,y2,e4,λa0 H5 s a5=>?_⟩;have A:=(s.keep p _ z Y).1;have C:=(X.ext y1).ext s;have g5:a0.g=p::j.g:=s.gho.trans hg;cases bb with
   |false=>
    rw[if_neg (by decide)] at e5;exact kZ (.mk ((x2.then y1).then s) g5 A C (oi I) (a4.ext s) a5 e5 t)
   |true=>
    rw[if_pos rfl] at e5;obtain⟨w,b8,e6,e7⟩:=za e5;obtain⟨c4,c3,e8,e9⟩:=za e7;cases e9;refine kY ⟨a0,σ1,a7,w,b8,a4.ext s,a5,e6,λb1 H6 u x6 b7 a6=>?_⟩;have a8:some p∉a0.m:=(s.keep p _ z Y).2;have a1:=(x6.keep p _ A a8).1;have g6:b1.g=p::j.g:=x6.gho.trans g5;have U:p∈b1.g:=by rw[g6];exact dB
    have c1:g.length<=i:=by rw[X.length];exact I
    refine⟨g,a1,jl c1 (da b0 a9),.mk (acc:=acc++[w]) (accV:=g++[u]) ?_ g6 zy ?_ (by rw[cQ];exact n9 I) ?_ (b7.grow rfl U (λ_ h=>h) _) e8 (by rw[←t,ff];rfl)⟩
    ·have G:=((x2.then y1).then s).then x6;refine⟨G.len,G.old,λb o e n=>?_,G.gho,λb ob uu e=>?_⟩
     ·rw[zx (zp e P)];exact G.keep b o e n
     ·rw[zx (zp e P)];exact G.frz b ob uu e
    ·exact((C.ext x6).append (.cons a6 .nil)).grow rfl U (λ_ h=>h)
    ·exact(a4.ext (s.trans x6)).map λd v h=>h.grow rfl U (λ_ h=>h)
 ·rw[C9 hge] at q;unfold bm at q;cases q;rw[jA] at t;subst t;exact .inl ⟨ok.done _ _ x2 i hge,b5 _ _ _ _ _ _ x1 b4 P x2 hg b3 X S⟩
theorem vO{K:Fg}:∀t H Q,tD K (aG it k is bd c f) t H Q->kb (iD K it) k is (gD K bd) (nm K c) (tD K f) t H Q:=λt H Q w=>by
 obtain⟨X,σ,au,v,a0,a,rp,e,q⟩:=w;obtain⟨xs,Y,U,e⟩:=za e;split at e
 ·rename_i m;obtain⟨ys,S,G,e⟩:=za e;cases e;refine Go a rp U m G λi H1 p d H' h P y J s C r u n=>?_
  have j:p∈d.g:=by rw[C];exact dB
  have x:some p∉d.m:=(n.gh p j).2;have l:bf H' p (.lst h)=H':=MQ r;have sub:∀a,a∈(⟨d.m,i.g⟩:Loc).g->a∈d.g:=λb I=>by rw[C];exact bU _ I
  have E:bF i H1 ⟨d.m,i.g⟩ H':=⟨s.len,s.old,s.keep,rfl,s.frz⟩
  have R:=n.grow (ρ':=⟨d.m,i.g⟩) rfl j sub h;have L:=ae.grow (ρ:=d) (ρ':=⟨d.m,i.g⟩) (o:=.lst h) rfl j sub u;rw[l] at R L;refine q _ _ _ (P.trans E) R (.lst r ⟨x,λz=>?_⟩ L);obtain⟨⟨ws,A⟩,_⟩:=y.gh p z;rw[J] at A;cases A
 ·cases e
theorem Gr{X:Cx}{N:List Str}(a:X.calm=true)(j:DI X tg iter it)(g:∀b C d s H,DG (eV X N scope b C d s H) tg bd)(i:∀b C d s H,nt (eV X N scope b C d s H) ifs (nm X.K c))(h:∀b C d s H,DE (eV X N scope b C d s H) elt f)
 (S:bG X N k is scope)(e:∀x,foldedSetIterable iter X.env x=pure x:=by intro _;rfl):DE X (.ListComp elt [⟨tg,iter,ifs,0⟩] scope pos) (aG it k is bd c f):=fK (J0 a j g i h S e) vO
theorem IW{X:Cx}{N:List Str}{b:Pos}(d:X.calm=true)(n:X.N.Nodup)(l:X.N[i]?=some x)(A:L2.Loc X.env.scope x)(o:DI X tg iter it)(J:∀j C g s H,DG (eV X N scope j C g s H) tg bd)
  (P:∀j C g s H,nt (eV X N scope j C g s H) ifs (nm X.K c))(Y:∀j C g s H,DE (eV X N scope j C g s H) elt f)(S:bG X N k is scope)
  (m:swapsWith (.ListComp elt [⟨tg,iter,ifs,0⟩] scope pos) (some (.Name x pos')) b.line X.env=pure true:=by rfl)
  (p:X.fn x=true\/X.env.scope.names.lookup x=some .local:=by first|exact .inl rfl|exact .inr rfl|assumption)
  (y:∀x,foldedSetIterable iter X.env x=pure x:=by intro _;rfl):jo X (.Assign [.Name x pos'] (.ListComp elt [⟨tg,iter,ifs,0⟩] scope pos) b) (aF i (aG it k is bd c f)):=
 li (Ke d n l A o J P Y S m p y) λE z H h=>by
  obtain⟨Q,G,au,fl,a0,a,rp,e,q⟩:=h;obtain⟨v,U,w,e⟩:=za e;cases e;exact vO z H _ ⟨Q,G,au,v,_,a,rp,w,λI H' u x r t=>q _ _ _ x r ((a.ext x).set t i)⟩
theorem IM:nt X [] (nm X.K aI):=λc s d H Q I b=>by
 obtain⟨j,g,i,v,f,a,h,e,q⟩:=b;cases e;exact J7 c s d H Q I (q _ _ (.refl _ _) h)
theorem IN(h:DT X c t):nt X [c] (nm X.K t):=J8 h
end Dd
namespace Dd
open L2 PyProof.Rows
def Dk(K:Fg) (h:Nat) (F:cX):Sp:=λf H Q _=>∃d e g v b,ae K d H e f/\bZ K d g H/\F e g=.ok v b/\f.length=h/\∀a c u,bF d H a c->bZ K a b c->At K a c v u->Q u c
def fD(P:Program) (w:World) (K:Fg) (b:Str->Option Value) (base:Heap) (x:Str) (k:Nat) (a:List Str) (F:cX):Prop:=Callee P w K b base x k a (Dk K a.length F)
def cC(n b:Nat) (a:SS):cX:=λc d=>if c.length=b then(match a (c.map some++List.replicate (n-b) none) d with
 |.ok (.ret v) st'=>.ok v st'
 |.ok (.nx _) st'=>.ok .non st'
 |.exc x st'=>.exc x st'
 |_=>.stuck) else .stuck
section
variable {x:Str}{F:cX}{e:Expr}
theorem Gm{K:Fg}{d:Nat}{f:SA}(o:∀m l v b,F m l=.ok v b->m.length=d):∀g H Q,tD K (aE F f) g H Q->mx (Dk K d F) [] E0 (O6 K f) g H Q:=λg H Q i=>by
 obtain⟨z,y,l,v,b,a,A,e,q⟩:=i;obtain⟨x,c,t,e⟩:=za e;refine⟨z,y,l,x,c,a,A,t,λk H1 u s j n=>?_⟩;show Dk K d F (u++[]) H1 Q E0;rw[jA];exact⟨k,x,c,v,b,n,j,e,by rw[n.length];exact o _ _ _ _ e,λh r w p=>q h r w (s.trans p)⟩
end
theorem Gq{X:Cx}(c:fD X.prog X.w X.K X.mg X.base x k ps F)(h:∀ f n v b,F f n=.ok v b->f.length=ps.length)(l:cq k X.A)(j:Gl X x)(i:DA X (e::es) g)(a:(x==("__debug__" : Str))=false:=by decide)
 (m:starEach (e::es) X.env=(false,eval e X.env)::starEach es X.env:=by rfl)(d:(backTo pos (starEach es X.env)).any (·.1)=false:=by rfl):
 DE X (.Call (.Name x p) (e::es) [] pos) (aE F g):=fK (Mc c l j i a m d) (Gm h)
theorem AW{n np:Nat}{b:SS}{c:List D}{d a:ab}{v:D}(h:cC n np b c d=.ok v a):c.length=np:=by
 unfold cC at h;split at h
 ·assumption
 ·cases h
theorem ae.some{K:Fg}{g:Loc}{H:Hp}:∀{c:List D}{f:List V},ae K g H c f->dc K g H (c.map Option.some) (f.map Option.some)
 |_,_,.nil=>.nil
 |_,_,.cons a b=>.cons (λd e=>by cases e;exact⟨_,rfl,a⟩) (ae.some b)
theorem dc.append{K:Fg}{e:Loc}{H:Hp}:∀{a c:DS}{b d:L2.St},dc K e H a b->dc K e H c d->dc K e H (a++c) (b++d)
 |_,_,_,_,.nil,h=>h
 |_,_,_,_,.cons r t,h=>.cons r (dc.append t h)
theorem dc.nones{K:Fg}{a:Loc}{H:Hp}:∀n,dc K a H (List.replicate n none) (List.replicate n none)
 |0=>.nil
 |n+1=>.cons (λd e=>nomatch e) (dc.nones n)
theorem vK{K:Fg}{N:List Str}{np:Nat}{b:SS}{i:List V}{H:Hp}{Q:VK}{E:XK}(h:Dk K np (cC N.length np b) i H Q E):Dj K b {nx:=λ_ d=>Q .non d,rt:=Q} (L2.start N i) H:=by
 obtain⟨n,g,l,v,f,a,j,e,k,q⟩:=h;have o:g.length=np:=by rw[←a.length];exact k
 unfold cC at e;rw[if_pos o] at e;have m:dc K n H (g.map Option.some++List.replicate (N.length-np) none) (L2.start N i):=by
  unfold L2.start;rw[k];exact a.some.append (.nones _)
 refine⟨n,g.map Option.some++List.replicate (N.length-np) none,l,?_⟩;cases hr:b (g.map Option.some++List.replicate (N.length-np) none) l with
 |stuck=>rw[hr] at e;cases e
 |exc z w=>rw[hr] at e;cases e
 |ok fl st1=>
  rw[hr] at e;cases fl with
  |ret w=>
   dsimp only at e;cases e;exact⟨.ret v,f,m,j,rfl,λc d u x r t=>q c d u x r t⟩
  |nx σ=>
   dsimp only at e;cases e;exact⟨.nx σ,f,m,j,rfl,λc d p x r t=>q c d .non x r .non⟩
  |brk σ=>cases e
  |ct σ=>cases e
theorem Iw{P:Program}{w:World}{K:Fg}{l:Str->Option Value}{base h:Heap}{x:Str}{g:Stmt}{N j:List Str}{k:Nat}{b:SS}(T:ai K x g)(X:K.In h)(G:h.Ns mainGlobals l)(S:cm N j (af g))
  (y:∀(kV o u:Value) (z:Option Addr) (d r:Value) (m:List Value),m.length=j.length->bindArgs (W.fnOf x x (cy g) (bo g) (af g) .none kV o u z d r) ⟨m,[]⟩=pure (j.zip m))
  (i:∀(f:Addr) (d:Value) (A:Around) (c:List Env) (s:Shared) (H:Hp) (E:XK),cq k (A.deeper (envOfC x (af g) s.heap.objs.size f d)) ->
   mN (gm jV P w K l base N x (af g) f d A c s H E).nox (bo g) b):fD P w K l base x (k+1) j (cC N.length j.length b):=
 QX T X G S y (λp H Q E n=>by obtain⟨U,J,g,v,I,a,Y,e,C,q⟩:=n;exact C) λf d A c s H p Q E t n=>⟨_,i f d A c s H E t,vK n⟩
def i3(K:Fg):Sp:=λc H Q _=>∃(a:Addr) (b:List Int),c=[.ref a]/\dr K H a (b.map V.int)/\b.length<=63/\∀d,Q (.bl true) d
theorem G9{P:Program}{w:World}{K:Fg}{y:Str->Option Value}{base:Heap}{l:Stmt}{N p:List Str}{k:Nat}{b:SS}{f:Addr}{z:FuncData}(F:oY K "law" "law" l f z)(S:cm N p (af l))(Y:p.length=1)
  (j:∀(d:Value) (A:Around) (c:List Env) (s:Shared) (H:Hp) (E:XK),cq k (A.deeper (envOfC "law" (af l) s.heap.objs.size f d)) ->
   mN (gm jV P w K y base N "law" (af l) f d A c s H E).nox (bo l) b)
  (holds:∀g:List Int,g.length<=63->∃i,cC N.length 1 b [.scr (g.map .int)] []=.ok (.bl true) i):gM P w K y base jV (k+1) f z p (i3 K):=by
 refine F.ok S (λI H Q E v=>?_) (λd A c s H I Q E U v=>⟨_,j d A c s H E U,?_⟩)
 ·obtain⟨a,g,rfl,_⟩:=v;exact Y.symm
 ·obtain⟨a,g,rfl,J,X,q⟩:=v;obtain⟨i,e⟩:=holds g X;refine vK (np:=1) (E:=E) ⟨⟨[],[]⟩,[.scr (g.map .int)],[],_,i,.cons (.scr ?_ (uS g)) .nil,⟨rfl,λn m a e _=>by simp at e,λn a o e _=>by simp at e,λa h=>(by cases h),λn o e _=>by simp at e⟩,e,rfl,λG C u x r t=>?_⟩
  ·rcases J with h|h
   ·exact .inl ⟨h,by simp[dX]⟩
   ·exact .inr λC=>.inr h
  ·cases t;exact q C
end Dd
namespace Dd
open L2
def gj:D->ab->bu D:=λx a=>match x with
 |.int i=>.ok (.int (-i)) a
 |_=>.stuck
def fO:SS:=λ_ _=>.stuck
def jm(c:ab):D->Option Bool
 |.non=>some false
 |.bl b=>some b
 |.int i=>some (i != 0)
 |.tup a=>some !a.isEmpty
 |d=>(fw c d).map λa=>!a.isEmpty
def cW(f:SE):ST:=λd c=>(f d c).bind λv a=>match jm a v with
 |some b=>.ok b a
 |none=>.stuck
theorem RL{K:Fg}(h:ae K ρ H ds vs):ds.isEmpty=vs.isEmpty:=by
 cases h<;>rfl
theorem Ih{K:Fg}(h:bZ K ρ au H) (a:At K ρ H d u)(e:jm au d=some b):sn K u H b:=by
 unfold jm at e;split at e
 ·cases a;cases e;exact rfl
 ·cases a;cases e;exact rfl
 ·cases a;cases e;exact rfl
 ·cases e;cases a with
  |tup c f h3=>exact .inr (.inl ⟨_,cH.of c,by rw[RL h3]⟩)
 ·obtain⟨j,g,rfl⟩:=jE.mp e;obtain⟨p,i,rfl,c,f⟩:=lU h a g;exact .inl ⟨_,dr.of c,by rw[RL f]⟩
theorem Fv(h:DE X a f):DE X (.UnaryOp .USub a pos) (lR gj f):=fK (FY Ik h) λs H Q b=>by
 obtain⟨l,p,n,v,m,c,i,e,q⟩:=b;obtain⟨x,d,j,e⟩:=za e;refine⟨l,p,n,x,d,c,i,j,λk H1 u r g o=>?_⟩;cases x<;>try (cases e;done)
 cases e;cases o;exact⟨_,rfl,q _ _ _ r g (.int _)⟩
theorem Le(l:dv X (compareOp op) r)(e:dv X (compareOp op') r')(k:gJ X.K g r)(d:gJ X.K g' r')(i:DE X a f)(j:DE X b f')(m:DE X c f'')
 (n:lastMarks [op,op'] [b,c]=false:=by with_unfolding_all rfl):DT X (.Compare a [op,op'] [b,c] pos) (eB (gF g g' f f' f'')):=kI (Mr l e i j m n) λo H Q h=>Iz k d _ _ _ (r0 _ _ _ h)
theorem La:jo X sm fO:=λd s h H E I ⟨f,c,i,g,b,a,j,e,q⟩=>by cases e
theorem GO(h:DE X a f)(o:∀b,isTrue a X.env b=(do let v ←b;standAt a.pos;holding [v] (truthy v)):=by intro _;rfl):DT X a (cW f):=kI (Qy h o) λz H Q d=>by
 obtain⟨m,t,r,v,p,g,j,e,q⟩:=d;obtain⟨x,i,k,e⟩:=za e;refine⟨m,t,r,x,i,g,j,k,λn H1 u w c s=>?_⟩;split at e
 ·rename_i y l;cases e;exact⟨_,Ih c s l,q _ _ w c⟩
 ·cases e
end Dd
namespace Dd
open Spec PyProof.Rows L2
noncomputable def gk:Int->List D->List D
 |_,[]=>[]
 |n,x::xs=>.tup [.int n,x]::gk (n+1) xs
def i8(f:SE):SA:=λc b=>(f c b).bind λx a=>match x with
 |.tup xs=>.ok (gk 1 xs) a
 |_=>.stuck
theorem Ep:∀{a:List D}{n:Int}{i:Nat}{d:D},(gk n a)[i]?=some d->∃x,a[i]?=some x/\d=.tup [.int (n+i),x]
 |[],_,_,_,h=>by simp[gk] at h
 |x::a,n,0,d,h=>by
  simp[gk] at h;exact⟨x,rfl,by rw[←h];simp⟩
 |x::a,n,i+1,d,h=>by
  simp only[gk,yC] at h;obtain⟨y,b,c⟩:=Ep h;exact⟨y,by simpa using b,by rw[c];congr 3;push_cast;lia⟩
theorem Cc:∀{xs:List D}{n:Int},(gk n xs).length=xs.length
 |[],_=>rfl
 |_::xs,n=>by simp[gk,Cc (xs:=xs)]
theorem K6(Q:Gl X "enumerate")(C:X.mg "enumerate"=none)(hl:DE X l f)(he:starEach [l] X.env=[(false,eval l X.env)]:=by rfl):
  DI X (.Tuple elts k tpos) (.Call (.Name "enumerate" p) [l] [⟨some "start",.Constant (.int 1) j cpos,kpos⟩] pos) (i8 f):=nQ (Ml Q C hl he) λτ H R m=>by
 obtain⟨U,P,t,xs,a0,a,rp,e,q⟩:=m;obtain⟨x,n,G,e⟩:=za e;refine⟨U,P,t,x,n,a,rp,G,λY H1 u E o S=>?_⟩;split at e
 ·rename_i ys;cases e;cases S with
  |tup h1 h2 h3=>
   refine⟨_,rfl,⟨_,cH.of h1⟩,q _ _ _ E o ⟨λr H2 b i d e=>?_,λr H2 b i h=>?_⟩⟩
   ·obtain⟨z,hz,rfl⟩:=Ep e;obtain⟨v,s,J⟩:=h3.get hz;refine⟨⟨_,v,cH.of (b.out h1 h2).1,s⟩,λy H3 w=>?_⟩;obtain⟨p,g,rfl,A⟩:=w;rw[A _ _ (cH.of (b.out h1 h2).1) s];refine⟨bF.new g _,λt c=>⟨c.new g _,?_⟩⟩;have I:(1:Int)+(i:Int)=((i+1:Nat):Int):=by push_cast;lia
    rw[I];exact At.newT c g (.cons (.int _) (.cons (J.extG b) .nil))
   ·rw[Cc] at h;exact⟨_,cH.of (b.out h1 h2).1,by rw[h3.length];exact h⟩
 ·cases e
end Dd
namespace Dd
open L2
def PD:List D->ab->bu D:=λb a=>match b with
 |[.int i]=>.ok (.int i) a
 |[.bl k]=>.ok (.int (if k then 1 else 0)) a
 |_=>.stuck
def mJ(g:SA) (k:Nat) (is:List Nat) (j:SG) (c:ST) (f:SE):SE:=λe i=>(g e i).bind λd b=>if d.length<=sizeLine then(bm j c f d (aT k is e) b).bind λh a=>.ok (.ref a.length) (a++[.lst h]) else .stuck
noncomputable def fi:Expr->Bool
 |.Starred _ _=>false
 |_=>true
theorem RW(h:fi e=true):starEach (e::es) env=(false,eval e env)::starEach es env:=by
 cases e<;>first|rfl|cases h
theorem K3(a:DE X e f)(b:DA X es g)(c:fi e=true:=by rfl):DA X (e::es) (aB f g):=II a b (RW c)
def qa(b:Bool):List D->ab->bu D:=λc a=>match c with
 |[x]=>match (cS a x).bind bP with
  |some (n::ns)=>.ok (.int (cG b n ns)) a
  |_=>.stuck
 |_=>.stuck
noncomputable def jK:List D->List D->List D
 |x::xs,y::ys=>.tup [x,y]::jK xs ys
 |_,_=>[]
def p7(g:SA):SA:=λf d=>(g f d).bind λe c=>match e with
 |[.tup a,.tup b]=>.ok (jK a b) c
 |_=>.stuck
def i4(d:SG) (f:SE):SS:=λb c=>(f b c).bind λv a=>match d v b with
 |some σ1=>.ok (.nx σ1) a
 |none=>.stuck
theorem IX{b:Pos}(w:DE X e f)(p:DG X tg bd)(n:swapsWithSole [tg] e b.line X.env=pure false:=by rfl)(r:swappedStores [tg] e X.env=pure none:=by rfl)
  (k:(assignEach [tg] X.env).map (·.2)=[assign tg X.env]:=by rfl):jo X (.Assign [tg] e b) (i4 bd f):=
 li (wu w p n r k) λE A H d=>by
 obtain⟨t,c,y,C,x,a,z,e,q⟩:=d;obtain⟨v,g,m,e⟩:=za e;refine⟨t,c,y,v,g,a,z,m,λi H1 u j h s=>?_⟩;cases hb:bd v c with
 |none=>rw[hb] at e;cases e
 |some σ1=>
  rw[hb] at e;cases e;exact⟨i,c,v,σ1,a.ext j,s,hb,λo l=>q _ _ _ j h l⟩
end Dd
namespace Dd
open L2 PyProof.Rows
structure JE (X:Cx) (e:Expr) (f:SE):Prop where out:DE X e f
structure JT (X:Cx) (e:Expr) (f:ST):Prop where out:DT X e f
structure JW (X:Cx) (e:Expr) (f:ST):Prop where out:DW X e f
structure JA (X:Cx) (e:List Expr) (f:SA):Prop where out:DA X e f
structure JS (X:Cx) (s:Stmt) (f:SS):Prop where out:jo X s f
structure JB (X:Cx) (s:List Stmt) (f:SS):Prop where out:mN X s f
structure JO (X:Cx) (e:Option Expr) (f:DS->ab->bu (Option Int)):Prop where out:DO X e f
structure JG (X:Cx) (e:Expr) (b:SG):Prop where out:DG X e b
structure Dr (X:Cx) (e:List Expr) (b:List D->DS->Option DS):Prop where out:AI X e b
structure JI (X:Cx) (tg iter:Expr) (f:SA):Prop where out:DI X tg iter f
structure Dq (X:Cx) (ifs:List Expr) (c:ST):Prop where out:nt X ifs (nm X.K c)
structure JC (X:Cx) (op:CmpOp) (a b:Expr) (f:SE):Prop where out:PC X op a b (tD X.K f)
theorem JW.pt(h:JW X e t):JT X e t:=⟨PW.pt h.out⟩
theorem iO(h:PE X e (oy i)):JE X e (aA i):=⟨FD h⟩
theorem sI(h:PE X e (tC v))(k:∀a H,At X.K a H d v):JE X e (eC d):=⟨lY h k⟩
theorem ze{i j pos}:JE X (.Constant (.int i) j pos) (eC (.int i)):=⟨Ft⟩
theorem iq{b j pos}:JE X (.Constant (.bool b) j pos) (eC (.bl b)):=⟨Pz⟩
theorem qP{j pos}:JE X (.Constant .none j pos) (eC .non):=⟨Fw⟩
theorem sJ{x j pos}:JE X (.Constant (.str x) j pos) (eC (.str x)):=⟨FB⟩
theorem eZ(h:dv X (binaryOp op) r)(e:gJ X.K g r)(c:JE X a f)(d:JE X b f'):JE X (.BinOp a op b pos) (aS g f f'):=⟨Pv h e c.out d.out⟩
theorem o1(i:dv X (compareOp op) r)(h:gJ X.K g r)(d:JE X a f)(e:JE X b f')(c:behindInMarks op b=false):JE X (.Compare a [op] [b] pos) (aS g f f'):=⟨Fq i h d.out e.out c⟩
theorem fc(i:dv X (compareOp op) r)(h:gJ X.K g r)(d:JE X a f)(e:JE X b f')(c:behindInMarks op b=false):JT X (.Compare a [op] [b] pos) (eB (aS g f f')):=⟨GL i h d.out e.out c⟩
theorem qQ{op}(h:JE X a f):JE X (.BoolOp op [a] pos) f:=⟨Fy h.out⟩
section
variable {X:Cx}{a:Expr}{b:Expr}{rest:List Expr}{f:SE}{f':SE}{pos:Pos}
theorem nX(c:JE X a f)(d:JE X (.BoolOp .And (b::rest) pos) f'):JE X (.BoolOp .And (a::b::rest) pos) (iI f f'):=⟨Fp c.out d.out⟩
end
theorem vT(b:JE X a f):JE X (.UnaryOp .Not a pos) (k7 f):=⟨Fx b.out⟩
theorem sM{op}(h:JT X a t)(b:op=.And\/op=.Or):JW X (.BoolOp op [a] pos) t:=⟨GR h.out b⟩
section
variable {X:Cx}{a:Expr}{b:Expr}{rest:List Expr}{t:ST}{t':ST}{pos:Pos}
theorem IY(c:JT X a t)(d:JW X (.BoolOp .And (b::rest) pos) t'):JW X (.BoolOp .And (a::b::rest) pos) (k8 t t'):=⟨GQ c.out d.out⟩
end
section
variable {X:Cx}{a:Expr}{b:Expr}{rest:List Expr}{t:ST}{t':ST}{pos:Pos}
theorem uq(c:JT X a t)(d:JW X (.BoolOp .Or (b::rest) pos) t'):JW X (.BoolOp .Or (a::b::rest) pos) (oR t t'):=⟨FG c.out d.out⟩
end
theorem nE(b:JT X a t):JT X (.UnaryOp .Not a pos) (fU t):=⟨GN b.out⟩
theorem vp(d:JT X c t)(g:JE X a f)(e:JE X b f'):JE X (.IfExp c a b pos) (uh t f f'):=⟨Px d.out g.out e.out⟩
theorem jq:JA X [] aC:=⟨Gz⟩
theorem jj{x1}(h:JA X es g):JE X (.Tuple es x1 pos) (aR g):=⟨FC h.out⟩
theorem ny(h:JA X es g):JE X (.List es pos) (dO g):=⟨Fu h.out⟩
theorem o7(h:JA X es g):JE X (.List es pos) (dA g):=⟨Gx h.out⟩
theorem qo:JO X none cF:=⟨IQ⟩
theorem qp(a:JE X e f):JO X (some e) (cE f):=⟨IR a.out⟩
theorem eY(c:JE X a f)(d:JE X b f')(e:iL b):JE X (.Subscript a b pos) (aS cn f f'):=⟨Pw c.out d.out e⟩
section
variable {X:Cx}{e:Expr}{f:SE}{pos:Pos}{lo:Option Expr}{hi:Option Expr}{l:DS->ab->bu (Option Int)}{h:DS->ab->bu (Option Int)}
theorem js{a:Pos}(c:JE X e f)(b:JO X lo l)(d:JO X hi h):JE X (.Subscript e (.Slice lo hi none a) pos) (iU f l h):=⟨Pu c.out b.out d.out⟩
end
theorem zl{x:Str}{id:String}(l:bN X (.builtin id) r)(j:jh X.K g r)(i:Gl X x)(m:X.mg x=none)(h:bootBuiltins x=some (.builtin id))(d:JA X (e::es) f)(c:x≠"__name__":=by decide)(a:(x==("__debug__" : Str))=false:=by decide)(k:starEach (e::es) X.env=(false,eval e X.env)::starEach es X.env:=by rfl)(b:(backTo pos (starEach es X.env)).any (·.1)=false:=by rfl):JE X (.Call (.Name x p) (e::es) [] pos) (aE g f):=⟨ID l j i m h d.out c a k b⟩
theorem mU{T:String}(l:bN X (.type T) r)(j:jh X.K g r)(i:Gl X x)(m:X.mg x=none)(h:bootBuiltins x=some (.type T))(d:JA X (e::es) f)(c:x≠"__name__":=by decide)(a:(x==("__debug__" : Str))=false:=by decide)(k:starEach (e::es) X.env=(false,eval e X.env)::starEach es X.env:=by rfl)(b:(backTo pos (starEach es X.env)).any (·.1)=false:=by rfl):JE X (.Call (.Name x p) (e::es) [] pos) (aE g f):=⟨KZ l j i m h d.out c a k b⟩
theorem uz:JE X (.Dict [] [] pos) eU:=⟨Gu⟩
theorem wp{X:Cx}(a:X.A.units+1<cLine)(b:JE X i g)(c:JE X o f):JC X .In i o (aS (iB false) g f):=⟨FU a b.out c.out⟩
theorem Fs(h:JC X op a b t)(c:behindInMarks op b=false:=by first|exact nobehind _ (by decide) (by decide)|rfl):JE X (.Compare a [op] [b] pos) t:=⟨sd h.out c⟩
theorem GM(h:JC X op a b t)(c:behindInMarks op b=false:=by first|exact nobehind _ (by decide) (by decide)|rfl):JT X (.Compare a [op] [b] pos) (eB t):=⟨FF h.out c⟩
theorem IF{X:Cx}(d:X.A.units+1<cLine)(a:JE X o f)(c:JE X i g)(b:oU i):JE X (.Subscript o i pos) (aS eT f g):=⟨Gs d a.out c.out b⟩
theorem K0{X:Cx}(c:X.A.units + 1<cLine)(b:JE X o f)(a:JE X e g)(d:JE X f' h)(m:M2 X o "get" apos e f' cpos):JE X (.Call (.Attribute o "get" apos) [e,f'] [] cpos) (iH f g h):=⟨IE c b.out a.out d.out m⟩
theorem IG{X:Cx}(c:X.A.units + 1<cLine)(b:JE X o f)(a:JE X e g)(m:M1 X o "pop" apos e cpos):JE X (.Call (.Attribute o "pop" apos) [e] [] cpos) (kq f g):=⟨Gv c b.out a.out m⟩
theorem Eg{X:Cx}{a:Pos}(d:X.A.units+1<cLine)(j:JE X o f)(e:JE X i g)(c:JE X value h)(b:swapsWith value (some (.Subscript o i pos')) a.line X.env=pure false):JS X (.Assign [.Subscript o i pos'] value a) (f6 f g h):=⟨IU d j.out e.out c.out b⟩
theorem pi{b:Pos}(j:JE X o f)(h:JA X (e::es) ga)(c:attributeBase o "append" X.env (eval o X.env)=eval o X.env:=by rfl)(g:((backTo cpos (starEach (e::es) X.env)).all (λx=>!x.1)&&(backToKw cpos (keywordEach [] X.env)).all (λx=>x.1.isSome)
 && decide ((e::es).length + ([]:List Keyword).length + (if([]:List Keyword).isEmpty then 0 else 1)<30))=true:=by rfl) (d:(b.endLine==cpos.line)=true:=by rfl) (i:starEach (e::es) X.env=(false,eval e X.env)::starEach es X.env:=by rfl) (a:(backTo cpos (starEach es X.env)).any (·.1)=false:=by rfl):JE X (.Call (.Attribute o "append" b) (e::es) [] cpos) (bQ f ga):=⟨KY j.out h.out c g d i a⟩
theorem qD(a:JE X o f):JE X o (p8 f):=⟨Py a.out⟩
theorem fE:JB X [] eD:=⟨GG⟩
theorem Nf:JS X (.Break pos) mz:=⟨K9⟩
theorem zk(a:JE X e f):JS X (.Return (some e) pos) (aV f):=⟨GJ a.out⟩
theorem iX{a:Pos}(b:JE X e f)(c:swapsWith e none a.line X.env=pure false:=by rfl):JS X (.Expr e a) (bX f):=⟨IV b.out c⟩
theorem AU{X:Cx}{a:Pos}(d:X.N.Nodup)(j:X.N[i]?=some x)(h:L2.Loc X.env.scope x)(g:JE X e f)(c:swapsWith e (some (.Name x pos')) a.line X.env=pure false:=by rfl)(b:X.fn x=true\/X.env.scope.names.lookup x=some .local:=by first|exact .inl rfl|exact .inr rfl|assumption):JS X (.Assign [.Name x pos'] e a) (aF i f):=⟨GK d j h g.out c b⟩
theorem zd(a:JS X sm s):JB X [sm] s:=⟨GH a.out⟩
section
variable {X:Cx}{sm:Stmt}{rest:List Stmt}{s:SS}{t:SS}
theorem zb(a:JS X sm s)(b:JB X rest t):JB X (sm::rest) (aD s t):=⟨IT a.out b.out⟩
end
theorem fr(a:JT X c b)(e:JB X a' s)(d:JB X b' t):JS X (.If c a' b' pos) (dZ b s t):=⟨FE a.out e.out d.out⟩
theorem wX{X:Cx}(b:X.N.Nodup)(j:X.N[i]?=some x)(h:L2.Loc X.env.scope x)(c:JE X e f)(k:AF X op ti)(d:PR X.K g ti)(a:X.fn x=true\/X.env.scope.names.lookup x=some .local:=by first|exact .inl rfl|exact .inr rfl|assumption):JS X (.AugAssign (.Name x pos') op e pos) (jI i g f):=⟨GC b j h c.out k d a⟩
theorem Q3{a:Pos}(d:JE X value h)(k:JE X o f)(j:JE X i g)(b:∀v,assign (.Subscript o i pos') X.env v=(do
 let ov ←holding [v] (eval o X.env)
 let iv ←holding [v,ov] (eval i X.env)
 standAt pos'
 holding [v,ov,iv] (setItem ov iv v)
 release [v,ov,iv] []):=by intro _;rfl) (c:swapsWithSole [.Subscript o i pos'] value a.line X.env=pure false:=by rfl) (e:swappedStores [.Subscript o i pos'] value X.env=pure none:=by rfl) (l:(assignEach [.Subscript o i pos'] X.env).map (·.2)=[assign (.Subscript o i pos') X.env]:=by rfl):JS X (.Assign [.Subscript o i pos'] value a) (fg f g h):=⟨Lc d.out k.out j.out b c e l⟩
theorem jZ{X:Cx}(a:X.N.Nodup)(c:X.N[i]?=some x)(b:L2.Loc X.env.scope x)(d:X.fn x=true\/X.env.scope.names.lookup x=some .local:=by first|exact .inl rfl|exact .inr rfl|assumption):JG X (.Name x pos) (gN i):=⟨IJ a c b d⟩
theorem uR:Dr X [] eo:=⟨IK⟩
theorem mV(b:JG X e t)(c:Dr X es u)(a:(assignEach (e::es) X.env).map (·.2)=assign e X.env::(assignEach es X.env).map (·.2):=by rfl):Dr X (e::es) (bv t u):=⟨K4 b.out c.out a⟩
theorem uB{X:Cx}(b:X.calm=true)(h:Dr X es u)(c:(assignEach es X.env).length=n:=by rfl)(a:(assignEach es X.env).findIdx? (·.1)=none:=by rfl):JG X (.Tuple es k pos) (gT n u):=⟨GA b h.out c a⟩
theorem ge(a:JE X l f):JI X tg l (aH f):=⟨GB a.out⟩
theorem lA(c:Gl X "range")(e:X.mg "range"=none)(b:JA X [a] g)(d:starEach [a] X.env=[(false,eval a X.env)]:=by rfl):JI X tg (.Call (.Name "range" p) [a] [] pos) (hU g):=⟨Nb c e b.out d⟩
theorem K5(a:JE X l f):JI X tg l (ig f):=⟨IL a.out⟩
theorem wY{X:Cx}(g:PassesOwn (model X.prog X.w) X.A X.env X.xe)(e:X.calm=true)(f:JI X tg iter it)(d:JG X tg bd)(a:JB X body b)(c:∀x,foldedSetIterable iter X.env x=pure x:=by intro _;rfl):JS X (.For tg iter body [] pos) (cb it bd b):=⟨GF g e f.out d.out a.out c⟩
theorem BR{X:Cx}(e:PassesOwn (model X.prog X.w) X.A X.env X.xe)(a:JT X c t)(d:JB X body b):JS X (.While c body [] pos) (dE t b):=⟨Ld e a.out d.out⟩
theorem o6{X:Cx}{N:List Str}(d:X.calm=true)(j:JI X tg iter it)(g:∀a C b s H,JG (eV X N scope a C b s H) tg bd)(i:∀a C b s H,Dq (eV X N scope a C b s H) ifs c)(h:∀a C b s H,JE (eV X N scope a C b s H) elt f)(S:bG X N k is scope)(e:∀x,foldedSetIterable iter X.env x=pure x:=by intro _;rfl):JE X (.ListComp elt [⟨tg,iter,ifs,0⟩] scope pos) (aG it k is bd c f):=⟨Gr d j.out (λa C b s H=>(g a C b s H).out) (λa C b s H=>(i a C b s H).out) (λa C b s H=>(h a C b s H).out) S e⟩
theorem Eh{X:Cx}{N:List Str}{d:Pos}(e:X.calm=true)(m:X.N.Nodup)(g:X.N[i]?=some x)(q:L2.Loc X.env.scope x)(r:JI X tg iter it)(n:∀a C b s H,JG (eV X N scope a C b s H) tg bd)(p:∀a C b s H,Dq (eV X N scope a C b s H) ifs c)(o:∀a C b s H,JE (eV X N scope a C b s H) elt f)(S:bG X N k is scope)(h:swapsWith (.ListComp elt [⟨tg,iter,ifs,0⟩] scope pos) (some (.Name x pos')) d.line X.env=pure true:=by rfl)(j:X.fn x=true\/X.env.scope.names.lookup x=some .local:=by first|exact .inl rfl|exact .inr rfl|assumption)(l:∀x,foldedSetIterable iter X.env x=pure x:=by intro _;rfl):JS X (.Assign [.Name x pos'] (.ListComp elt [⟨tg,iter,ifs,0⟩] scope pos) d) (aF i (aG it k is bd c f)):=⟨IW e m g q r.out (λa C b s H=>(n a C b s H).out) (λa C b s H=>(p a C b s H).out) (λa C b s H=>(o a C b s H).out) S h j l⟩
theorem BD:Dq X [] aI:=⟨IM⟩
theorem qm(h:JT X c t):Dq X [c] t:=⟨IN h.out⟩
theorem AT{X:Cx}(c:fD X.prog X.w X.K X.mg X.base x k ps F)(h:∀ f n v b,F f n=.ok v b->f.length=ps.length)(l:cq k X.A)(j:Gl X x)(i:JA X (e::es) g)(a:(x==("__debug__" : Str))=false:=by decide)(m:starEach (e::es) X.env=(false,eval e X.env)::starEach es X.env:=by rfl)(d:(backTo pos (starEach es X.env)).any (·.1)=false:=by rfl):JE X (.Call (.Name x p) (e::es) [] pos) (aE F g):=⟨Gq c h l j i.out a m d⟩
theorem P2{P:Program}{w:World}{K:Fg}{j:Str->Option Value}{base h:Heap}{x:Str}{d:Stmt}{N g:List Str}{k:Nat}{b:SS}(T:ai K x d)(X:K.In h)(G:h.Ns mainGlobals j)(S:cm N g (af d))(o:∀(kV l q:Value) (p:Option Addr) (c m:Value) (i:List Value),i.length=g.length->bindArgs (W.fnOf x x (cy d) (bo d) (af d) .none kV l q p c m) ⟨i,[]⟩=pure (g.zip i))(e:∀(f:Addr) (c:Value) (A:Around) (a:List Env) (s:Shared) (H:Hp) (E:XK),cq k (A.deeper (envOfC x (af d) s.heap.objs.size f c)) ->
 JB (gm jV P w K j base N x (af d) f c A a s H E).nox (bo d) b):fD P w K j base x (k+1) g (cC N.length g.length b):=Iw T X G S o (λf c A a s H E n=>(e f c A a s H E n).out)
theorem Jm{P:Program}{w:World}{K:Fg}{i:Str->Option Value}{base:Heap}{e:Stmt}{N g:List Str}{k:Nat}{b:SS}{f:Addr}{j:FuncData}(F:oY K "law" "law" e f j)(S:cm N g (af e))(n:g.length=1)(d:∀(c:Value) (A:Around) (a:List Env) (s:Shared) (H:Hp) (E:XK),cq k (A.deeper (envOfC "law" (af e) s.heap.objs.size f c)) ->
 JB (gm jV P w K i base N "law" (af e) f c A a s H E).nox (bo e) b) (holds:∀ l:List Int,l.length<=63->∃ h,cC N.length 1 b [.scr (l.map .int)] []=.ok (.bl true) h):gM P w K i base jV (k + 1) f j g (i3 K):=G9 F S n (λc A a s H E m=>(d c A a s H E m).out) holds
theorem uo(h:JE X a f):JE X (.UnaryOp .USub a pos) (lR gj f):=⟨Fv h.out⟩
theorem Ng(k:dv X (compareOp op) r)(e:dv X (compareOp op') r')(j:gJ X.K g r)(d:gJ X.K g' r')(h:JE X a f)(i:JE X b f')(l:JE X c f'')(m:lastMarks [op,op'] [b,c]=false:=by with_unfolding_all rfl):JT X (.Compare a [op,op'] [b,c] pos) (eB (gF g g' f f' f'')):=⟨Le k e j d h.out i.out l.out m⟩
theorem BQ:JS X sm fO:=⟨La⟩
theorem jr(h:JE X a f)(c:∀b,isTrue a X.env b=(do let v ←b;standAt a.pos;holding [v] (truthy v)):=by intro _;rfl):JT X a (cW f):=⟨GO h.out c⟩
theorem Na(a:Gl X "enumerate")(d:X.mg "enumerate"=none)(b:JE X l f)(c:starEach [l] X.env=[(false,eval l X.env)]:=by rfl):JI X (.Tuple elts k tpos) (.Call (.Name "enumerate" p) [l] [⟨some "start",.Constant (.int 1) j cpos,kpos⟩] pos) (i8 f):=⟨K6 a d b.out c⟩
theorem zh(a:JE X e f)(b:JA X es g)(c:fi e=true:=by rfl):JA X (e::es) (aB f g):=⟨K3 a.out b.out c⟩
theorem Lb{a:Pos}(d:JE X e f)(c:JG X tg bd)(b:swapsWithSole [tg] e a.line X.env=pure false:=by rfl)(g:swappedStores [tg] e X.env=pure none:=by rfl)(h:(assignEach [tg] X.env).map (·.2)=[assign tg X.env]:=by rfl):JS X (.Assign [tg] e a) (i4 bd f):=⟨IX d.out c.out b g h⟩
end Dd
namespace L2
open Spec PyProof.Rows
section
open AutoSeq1
end
end L2
namespace Dd
open L2
end Dd
namespace L2
open Spec PyProof.Rows
end L2
namespace Dd
open L2 PyProof.Rows
end Dd
namespace L2
open Spec PyProof.Rows
def y8(K:Fg) (b:Bool):R2:=λx c H Q=>∃d p a,ku K H x d/\ku K H c p/\(p=.tuple a\/p=.list a)/\PySem.SeqAt.shaped d=true/\PySem.SeqAt.shaped p=true/\Q (.bl (if b then !a.any λy=>PyData.eqv y d else a.any λy=>PyData.eqv y d)) H
theorem H0(h:p=.tuple xs\/p=.list xs)(s:PySem.SeqAt.shaped p=true):PyData.canLayAll0 xs=true/\PyData.depthAll xs<=63:=by
 have:(PyData.canLayAll0 xs&&decide (PyData.depthAll xs+1<=64))=true:=by rcases h with rfl|rfl<;>exact s
 rw[j8] at this;exact⟨this.1,by have:=gR this.2;lia⟩
theorem xM(s:PySem.SeqAt.shaped d=true):d.canLay0=true:=by
 unfold PySem.SeqAt.shaped at s;rw[j8] at s;exact s.1
theorem Hs{X:Cx}(r:X.A.units+64<cLine):dv X (compareOp .In) (y8 X.K false):=by
 intro o s A H x y v u Q I n j h;obtain⟨d,p,g,m,l,i,c,k,q⟩:=h;obtain⟨w,e⟩:=qq I m n;obtain⟨t,b⟩:=qq I l j;obtain⟨f,z⟩:=H0 i k;have a:X.A.units+1+min (PyData.depthAll g) d.depth<cLine:=by have:=rx (PyData.depthAll g) d.depth;lia
 rcases i with rfl|rfl
 ·exact SeqAt.in_tuple_reads b e f (xM c) a ⟨.bl _,H,I,rfl,q⟩
 ·exact SeqAt.in_list_reads b e f (xM c) a ⟨.bl _,H,I,rfl,q⟩
theorem U5:fillsNumberSlot (.type "tuple") "mul"=pure false:=
 PySem.fillsNumberSlot_seq (id:="tuple.__mul__") (r:=some (.builtin "tuple.__rmul__")) yn.lookup (by decide +kernel) F.slot_tuple_rmul.lookup (by decide +kernel)
theorem Kj:seqRepeat? (.type "tuple")=pure (some (.builtin "tuple.__mul__")):=by
 unfold seqRepeat?;rw[PySem.seqSlot_of (T:="tuple") (name:="__mul__") (id:="tuple.__mul__") yn.lookup (by decide +kernel),PySem.seqSlot_of (T:="tuple") (name:="__rmul__") (id:="tuple.__rmul__") F.slot_tuple_rmul.lookup (by decide +kernel)]
 rfl
theorem Mx(a:Int)(t:Tok)(l:Addr)(b:Array Value)(n:Nat)(f:Option Addr)(e:Array (Option Value)):
  Meets (Builtin.«int.__rmul__» ⟨[.int a t,.ref l],[]⟩) (λ_ R s=>s.heap.get? l=some { cls:=.type "tuple",dict:=f,data:=.seq b n,slots:=e }/\R (.ok (.ret Value.notImplemented)) s):=
 .of_wp λc w A R s h=>by
  obtain⟨j,g,d,i,os⟩:=s;obtain⟨k,h⟩:=h
  wp_walk
  exact⟨_,rfl,h⟩
theorem nb(h:b=false):decide (b=true)=false:=by rw[h];rfl
section
open AutoSeq1
variable (l:Addr)(items:Array Value)(n:Nat)(dd:Option Addr)(sl:Array (Option Value))(x:Int)(u:Tok)
theorem ND(lo:-1000000<=x)(c:x<=0)(b:items.isEmpty=false):
  Meets (Builtin.«tuple.__mul__» ⟨[.ref l,.int x u],[]⟩) (λ_ R s=>s.heap.get? l=some { cls:=.type "tuple",dict:=dd,data:=.seq items n,slots:=sl }/\R (.ok (.ret (.ref s.heap.objs.size))) { s with heap:=s.heap.push { cls:=.type "tuple",data:=.seq #[] } }):=
 .of_wp λa w A R s h=>by
  obtain⟨i,g,d,e,os⟩:=s;obtain⟨f,h⟩:=h
  wp_walk
  try
   refine n7 ?c1 ?_
   case c1=>exact nb (by rw[ua];exact⟨cO (by lia),cO (by lia)⟩)
   wp_walk
  try
   refine n7 ?c1 ?_
   case c1=>exact nb (by rw[ua];exact⟨b,beq_false_of_ne (by lia)⟩)
   wp_walk
  try
   refine wpAny_ite_true ?c1 ?_
   case c1=>exact yb (by rw[N2];exact .inl (cI c))
   wp_walk
  exact⟨_,rfl,h⟩
theorem LR(b:x=1):
  Meets (Builtin.«tuple.__mul__» ⟨[.ref l,.int x u],[]⟩) (λ_ R s=>s.heap.get? l=some { cls:=.type "tuple",dict:=dd,data:=.seq items n,slots:=sl }/\R (.ok (.ret (.ref l))) s):=
 .of_wp λa w A R s h=>by
  obtain⟨f,g,d,c,os⟩:=s;obtain⟨e,h⟩:=h
  wp_walk
  try
   refine n7 ?c1 ?_
   case c1=>exact nb (by rw[ua];exact⟨cO (by lia),cO (by lia)⟩)
   wp_walk
  try
   refine wpAny_ite_true ?c1 ?_
   case c1=>exact yb (by rw[N2];exact .inr (by rw[b];rfl))
   wp_walk
  exact⟨_,rfl,h⟩
theorem NC(o:2<=x)(p:x<=1000000)(e:items.isEmpty=false)(k:((items.size:Nat):Int)*x<=1000000)(i:Builtin.Tuple.tupleTooMany (((items.size:Nat):Int)*x)=false)
  (b:(List.foldl (λc a=>c++a) #[] (List.replicate x.toNat items)).size<=sizeLine):
  Meets (Builtin.«tuple.__mul__» ⟨[.ref l,.int x u],[]⟩) (λ_ R s=>s.heap.get? l=some { cls:=.type "tuple",dict:=dd,data:=.seq items n,slots:=sl }/\R (.ok (.ret (.ref s.heap.objs.size))) { s with heap:=s.heap.push { cls:=.type "tuple",data:=.seq (List.foldl (λc a=>c++a) #[] (List.replicate x.toNat items)) } }):=
 .of_wp λf w A R s h=>by
  obtain⟨q,g,d,j,os⟩:=s;obtain⟨m,h⟩:=h
  wp_walk
  try
   refine n7 ?c1 ?_
   case c1=>exact nb (by rw[ua];exact⟨cO (by lia),cO (by lia)⟩)
   wp_walk
  try
   refine n7 ?c1 ?_
   case c1=>exact nb (by rw[ua];exact⟨e,beq_false_of_ne (by lia)⟩)
   wp_walk
  try
   refine n7 ?c1 ?_
   case c1=>exact nb (by rw[ua];exact⟨cO (by lia),e⟩)
   wp_walk
  try
   refine n7 ?c1 ?_
   case c1=>exact cO (by lia)
   wp_walk
  try
   refine n7 ?c1 ?_
   case c1=>exact nb i
   wp_walk
  try (refine n7 (cO (Nat.not_lt.mpr b)) ?_;wp_walk)
  exact⟨_,rfl,h⟩
end
noncomputable def dC{α:Type}(a:List α) (n:Int):List α:=(List.replicate n.toNat a).flatten
theorem RJ{b:Type}(a:List b):∀(n:Nat) (acc:List b),(List.foldl (λ(d c:Array b)=>d++c) acc.toArray (List.replicate n a.toArray))=(acc++(List.replicate n a).flatten).toArray
 |0,acc=>by simp
 |n+1,acc=>by
  rw[pL,lC,pL,tR,←ff,←RJ a n (acc++a)]
  congr 1
  simp
theorem am.times(r:am xs us):∀n:Nat,am (List.replicate n xs).flatten (List.replicate n us).flatten
 |0=>.nil
 |n+1=>by
  rw[pL,tR,pL,tR];exact r.append (am.times r n)
def pX(K:Fg):R2:=λx y H Q=>∃t a n,x=.ref t/\y=.int n/\cH K H t a/\a≠[]/\-1000000<=n/\n<=1000000/\(a.length:Int)*n<=1000000/\(n=1->Q (.ref t) H)/\(n≠1->∀p,H p=none->Q (.ref p) (bf H p (.tup (dC a n))))
theorem EN{b:Type}(a:List b):∀n:Nat,(List.replicate n a).flatten.length=n*a.length
 |0=>by simp
 |n+1=>by rw[pL,tR,cQ,EN a n,Cu];lia
theorem xD:dv X (binaryOp .Mult) (pX X.K):=by
 intro aU s σ H x y v u Q I r1 r2 h;obtain⟨t,f,n,rfl,rfl,ht,ne,lo,hi,hz,q1,q2⟩:=h;cases r1;obtain⟨g,rfl⟩:=r2;obtain⟨d,r,⟨o,e,G,m,S⟩,z⟩:=I.tuple ht;obtain⟨cls,A,data,C⟩:=o;dsimp only at G S;subst G S;have i:=r.length;have j:d.toArray.isEmpty=false:=by
  cases d with
  |nil=>cases r;exact absurd rfl ne
  |cons a l=>rfl
 have q:∀{E:Value->Shared->Prop},wpAny (model X.prog X.w) X.A (call (.builtin "tuple.__mul__") [.ref t,.int n g]) E X.xe s->wpAny (model X.prog X.w) X.A (binaryOp .Mult (.ref t) (.int n g)) E X.xe s:=λ{E} hq=>
  wpAny_binaryOp_repeat_ref (T:="tuple") (U:="int") (by decide) ⟨_,e,rfl⟩ (λs'=>typeIs_int s' n g) U5 F.fills_int_mul F.slot_int_rmul Kj F.slot_int_index.lookup
   (tH F.slot_int_rmul (typeIs_int s n g) F.entry_int_rmul (F.args_int_rmul_2 _ _) (Mx n g t d.toArray m A C) ⟨e,rfl,⟨_,e,rfl⟩,hq⟩)
 refine q ?_;by_cases c:n=1
 ·exact tH yn ⟨_,e,rfl⟩ Of (Oo _ _) (LR t d.toArray m A C n g c) ⟨e,.ref t,H,I,rfl,q1 c⟩
 have done:∀ w:List Value,am (dC f n) w->(dC f n).length<=sizeLine->EP X aU σ Q (.ref s.heap.objs.size) { s with heap:=s.heap.push { cls:=.type "tuple",data:=.seq w.toArray } }:=λw rt hl=>
  ⟨.ref s.heap.objs.size,_,I.laid (t':=s.toks) (o:=.tup (dC f n)) (λb ob hb=>dY _ hb) (br _) ⟨hl,w,rt,IsTup.new s.heap _⟩,rfl,q2 c _ (I.hok.fresh (br _))⟩
 have p:(dC f n).length=n.toNat*f.length:=EN f n.toNat;by_cases c2:n<=0
 ·refine tH yn ⟨_,e,rfl⟩ Of (Oo _ _) (ND t d.toArray m A C n g lo c2 j) ⟨e,?_⟩;have J:dC f n=[]:=by unfold dC;rw[show n.toNat=0 by lia];rfl
  exact done [] (by rw[J];exact .nil) (by rw[J];exact gX _)
 ·have a0:n.toNat*f.length<=1000000:=by
   have:((n.toNat*f.length:Nat):Int)=(f.length:Int)*n:=by rw[Int.natCast_mul,Ot (by lia),Int.mul_comm]
   lia
  have k:n.toNat*f.length<=sizeLine:=by rw[me];lia
  have P:List.foldl (λ(x1 Y:Array Value)=>x1++Y) #[] (List.replicate n.toNat d.toArray)=((List.replicate n.toNat d).flatten).toArray:=by
   have:=RJ d n.toNat []
   simpa using this
  have zi:((d.toArray.size:Nat):Int)*n<=1000000:=by rw[eE,←i];exact hz
  refine tH yn ⟨_,e,rfl⟩ Of (Oo _ _) (NC t d.toArray m A C n g (by lia) hi j zi (cO (by rw[me];lia)) (by rw[P,eE,EN,←i];exact k)) ⟨e,?_⟩;rw[P];exact done _ (r.times n.toNat) (by rw[p];exact k)
end L2
namespace Dd
open L2 PyProof.Rows
def i6(a:Bool) (x c:D) (b:ab):bu D:=match dataOf b x,dataOf b c with
 |some d,some (.tuple xs)=>if PySem.SeqAt.shaped d=true/\PySem.SeqAt.shaped (.tuple xs)=true then .ok (.bl (if a then !xs.any λy=>PyData.eqv y d else xs.any λy=>PyData.eqv y d)) b else .stuck
 |some d,some (.list xs)=>if PySem.SeqAt.shaped d=true/\PySem.SeqAt.shaped (.list xs)=true then .ok (.bl (if a then !xs.any λy=>PyData.eqv y d else xs.any λy=>PyData.eqv y d)) b else .stuck
 |_,_=>.stuck
theorem FP{K:Fg}{f:Bool}:gJ K (i6 f) (y8 K f):=λm H l x y u v z k Q c a b e q=>by
 unfold i6 at e;split at e
 ·rename_i d i j h;split at e
  ·rename_i g;cases e;exact⟨_,_,i,sY c a j,sY c b h,.inl rfl,g.1,g.2,q _ _ _ (.refl _ _) c (.bl _)⟩
  ·cases e
 ·rename_i d i j h;split at e
  ·rename_i g;cases e;exact⟨_,_,i,sY c a j,sY c b h,.inr rfl,g.1,g.2,q _ _ _ (.refl _ _) c (.bl _)⟩
  ·cases e
 ·cases e
def kh(x y:D) (a:ab):bu D:=match x,y with
 |.tup xs,.int n=>if xs≠[]/\-1000000<=n/\n<=1000000/\(xs.length:Int)*n<=1000000 then .ok (.tup (dC xs n)) a else .stuck
 |_,_=>.stuck
theorem ae.times{K:Fg}{c:Loc}{H:Hp}{a:List D}{b:List V}(h:ae K c H a b):∀n:Nat,ae K c H (List.replicate n a).flatten (List.replicate n b).flatten
 |0=>.nil
 |n+1=>by
  rw[pL,tR,pL,tR];exact h.append (ae.times h n)
theorem xB{K:Fg}:gJ K kh (pX K):=λk H j x y u v z i Q f a b e q=>by
 unfold kh at e;split at e
 ·rename_i xs n;split at e
  ·rename_i c;cases e;cases b;cases a with
   |tup h1 h2 h3=>
    have h:=h3.length;refine⟨_,_,n,rfl,rfl,cH.of h1,λz=>?_,c.2.1,c.2.2.1,by rw[h];exact c.2.2.2,λz=>?_,λz p d=>?_⟩
    ·subst z;cases h3;exact c.1 rfl
    ·subst z;refine q _ _ _ (.refl _ _) f ?_;have g:dC xs 1=xs:=by simp[dC]
     rw[g];exact .tup h1 h2 h3
    ·exact q _ _ _ (bF.new d _) (f.new d _) (.newT f d (h3.times n.toNat))
  ·cases e
 ·cases e
end Dd
namespace L2
open Spec PyProof.Rows PySem.W
theorem sL{a:List Int}(r:am (a.map V.int) us) (b:i<a.length):∃t,us.getD i Value.none=Value.int (a.getD i 0) t:=by
 have e:(a.map V.int)[i]?=some (V.int a[i]):=by rw[fM,bV b];rfl
 obtain⟨u,d,t,c⟩:=r.get e;refine⟨t,?_⟩;rw[cJ,d,cJ,bV b];exact c
theorem Kw{d:List Int}(r:am (d.map V.int) a):∀v∈a,∃i t,v=Value.int i t:=λv b=>by
 obtain⟨i,f,rfl⟩:=nh b;have c:=r.length;rw[bj] at c;obtain⟨t,e⟩:=sL r (i:=i) (by lia);rw[cJ,bV f] at e;exact⟨_,t,e⟩
theorem Rr(a b:Int):HT.lexLt [a] [b]=decide (a<b):=by
 by_cases h:a=b
 ·subst h;simp[HT.lexLt]
 ·simp[HT.lexLt,h]
noncomputable abbrev ones(a:List Int):List (List Int):=a.map λn=>[n]
theorem sV{a:List Int}(b:i<a.length):(ones a).getD i []=[a.getD i 0]:=by
 rw[cJ,fM,bV b,cJ,bV b]
 rfl
theorem KH{a:List Int}(l:2<=a.length)(r:am (a.map V.int) us):Srt.Answers P w B (Srt.dL (ones a)) us sg:=by
 have g:=r.length;rw[bj] at g;refine⟨oneType',λR d=>?_,λi j C h k b=>?_⟩
 ·exact kas_kind (T:=.type "int") (by lia) (λv f=>by
   obtain⟨i,t,rfl⟩:=Kw r v f
   exact Looks.now) (by decide) (by decide) d
 ·obtain⟨t,c⟩:=sL r (i:=i) (by lia);obtain⟨m,e⟩:=sL r (i:=j) (by lia);unfold kas_ask;rw[c,e];rw[Srt.uF (by rw[bj];lia) (by rw[bj];lia),sV (by lia),sV (by lia),Rr] at b;rw[keyLt'_oneType];exact oneLt_int b
theorem KS{a:List Int}(r:am (a.map V.int) us):Srt.sG (Srt.dL (ones a)) us:=λi j f g e=>by
 have d:=r.length;rw[bj] at d;obtain⟨t,b⟩:=sL r (i:=i) (by lia);obtain⟨h,c⟩:=sL r (i:=j) (by lia);rw[b,c] at e;have:a.getD i 0=a.getD j 0:=by injection e
 unfold Srt.dL;rw[sV (by lia),sV (by lia),this]
theorem Ez{c:Type}{f:c->V}{g:c->Value}:∀{l:List c},(∀a∈l,RelV (f a) (g a))->am (l.map f) (l.map g)
 |[],_=>.nil
 |a::l,h=>.cons (h a dB) (Ez λb d=>h b (bU _ d))
theorem L7{ns:List Int}{l:List Value}(r:am (ns.map V.int) l){p:Array Nat}(d:p.Perm (List.toArray (List.range ns.length)))(P:Srt.Up (Srt.dL (ones ns)) p ns.length):
  ∃m:List Int,m.Perm ns/\m.Pairwise (·<=·)/\am (m.map V.int) (Srt.cT l p).toList:=by
 have J:=r.length;rw[bj] at J;have H:p.size=ns.length:=by rw[d.size_eq];simp
 have o:∀i∈p.toList,i<ns.length:=λi b=>by
  have E:=(d.mem_iff (a:=i)).mp (by rw[←OE];exact b);exact bR.mp (List.mem_toArray.mp E)
 refine⟨p.toList.map λi=>ns.getD i 0,?_,?_,?_⟩
 ·have A:p.toList.Perm (List.range ns.length):=by
   have:=uf.mp d
   simpa using this
  have q:=A.map λi=>ns.getD i 0
  have C:((List.range ns.length).map λi=>ns.getD i 0)=ns:=by
   apply CN
   ·simp
   ·intro i Q I;simp[cJ,I]
  rw[C] at q;exact q
 ·rw[ue];intro i j b c h;rw[CM,CM];rw[bj] at b c;have G:i<p.size:=by simpa using b
  have y:j<p.size:=by simpa using c
  have w:=P i j (dj h) (by lia);have g:∀k,(x:k<p.toList.length)->p.getD k 0=p.toList[k]:=λk x=>by
   have f:k<p.size:=by simpa using x
   rw[lO,mm f];simp
  have s:=o _ (gf b);have u:=o _ (gf c);have v:=Srt.uF (ks:=ones ns) (i:=p.toList[j]) (j:=p.toList[i]) (by rw[bj];exact u) (by rw[bj];exact s);have n:Srt.lt (Srt.dL (ones ns)) p.toList[j] p.toList[i]=false:=by
   refine cO λz=>?_
   unfold Srt.At at w;rw[g i b,g j c] at w;lia
  rw[n,sV u,sV s,Rr] at v;have:=Om v.symm;lia
 ·unfold Srt.cT;rw[eS];show am _ (p.toList.map λi=>l.getD i Value.none);refine Ez λi b=>?_
  obtain⟨t,e⟩:=sL r (o i b);exact⟨t,e⟩
end L2
namespace Dd
open L2 PyProof.Rows
noncomputable def sortI(l:List Int):List Int:=l.mergeSort λa b=>decide (a<=b)
theorem EV(l:List Int):(sortI l).Perm l:=List.mergeSort_perm _ _
theorem MI(l:List Int):(sortI l).Pairwise (·<=·):=by
 have:=List.pairwise_mergeSort (le:=λa b:Int=>decide (a<=b)) (λa b c d e=>by simp at *;lia) (λa b=>by simp;lia) l;exact this.imp λh=>by simpa using h
theorem MG{a:List Int}(p:a.Perm b)(h:a.Pairwise (·<=·)):a=sortI b:=
 (p.trans (EV b).symm).eq_of_pairwise (λx y _ _ c d=>by lia) h (MI b)
end Dd
namespace L2
open Spec PyProof.Rows
end L2
namespace Dd
open L2 PyProof.Rows
end Dd
namespace Dd
variable {α:Type}
section
variable {motive:List α->Prop}
@[elab_as_elim] theorem zP (us:List α) (a:us.length=0) (h:motive []):motive us:=by rw[List.eq_nil_of_length_eq_zero a];exact h
@[elab_as_elim] theorem oJ {n:Nat}(us:List α) (b:us.length=n+1) (h:∀a us,us.length=n->motive (a::us)):motive us:=by
 cases us with
 |nil=>cases b
 |cons a us=>exact h a us (Nat.succ.inj b)
@[elab_as_elim] theorem zO (us:List α) (b:us.length=1) (h:∀a,motive [a]):motive us:=oJ us b λa us b=>zP us b (h a)
@[elab_as_elim] theorem oK (us:List α) (c:us.length=2) (h:∀a b,motive [a,b]):motive us:=oJ us c λa us c=>zO us c (h a)
@[elab_as_elim] theorem zN (us:List α) (d:us.length=3) (h:∀a b c,motive [a,b,c]):motive us:=oJ us d λa us d=>oK us d (h a)
@[elab_as_elim] theorem Pg (us:List α) (e:us.length=4) (h:∀a b c d,motive [a,b,c,d]):motive us:=oJ us e λa us e=>zN us e (h a)
end
end Dd
namespace Dd
open L2
def cY(s:cX->cX):Nat->cX
 |0=>λ_ _=>.stuck
 |n+1=>s (cY s n)
theorem TJ{K:Fg}{N:List Str}(T:ai K x b)(X:K.In h)(G:h.Ns mainGlobals mg)(S:cm N ps (af b))
  (r:∀(kV g z:Value) (t:Option Addr) (c p:Value) (d:List Value),d.length=ps.length->bindArgs (W.fnOf x x (cy b) (bo b) (af b) .none kV g z t c p) ⟨d,[]⟩=pure (ps.zip d)):fD P w K mg base x (k+1) ps (λ_ _=>.stuck):=
 QX T X G S r (λo H Q E i=>by obtain⟨y,n,b,v,l,a,u,e,m,q⟩:=i;exact m) λf c A j s H o Q E C i=>by obtain⟨y,n,b,v,l,a,u,e,m,q⟩:=i;cases e
theorem fD.iter{K:Fg}{L:Nat}(g:fD P w K mg base x L ps (λ_ _=>.stuck))(f:∀F b c v a,s F b c=.ok v a->b.length=ps.length)
  (e:∀F j,L<=j->(∀b c v a,F b c=.ok v a->b.length=ps.length)->fD P w K mg base x j ps F->fD P w K mg base x (j+1) ps (s F)):∀n,fD P w K mg base x (L+n) ps (cY s n):=λn=>by
 have d:∀n,(∀b c v a,cY s n b c=.ok v a->b.length=ps.length)/\fD P w K mg base x (L+n) ps (cY s n):=λn=>by
  induction n with
  |zero=>exact⟨λ_ _ _ _ h=>(by cases h),g⟩
  |succ n ih=>exact⟨f _,e _ _ (ft _ _) ih.1 ih.2⟩
 exact(d n).2
end Dd
namespace L2
open Spec PyProof.Rows
end L2
namespace Dd
open L2 PyProof.Rows
end Dd
namespace L2
open Spec PyProof.Rows
end L2
namespace Dd
open L2
end Dd
namespace Dd
open L2 PyProof.Rows
end Dd
namespace L2
open Spec PyProof.Rows
end L2
namespace Dd
open L2
end Dd
namespace L2
open Spec PyProof.Rows
end L2
namespace Dd
open L2
end Dd
namespace L2
open Spec PyProof.Rows
end L2
namespace Dd
open L2
end Dd
namespace L2
open Spec PyProof.Rows
end L2
namespace L2
namespace St
noncomputable abbrev lt(a b:Nat):Prop:=a<b
theorem DD(e:Array Nat)(j:Nat)(f:∀a b,a<=b->b<e.size->e.getD a j<=e.getD b j):∀(fuel lo hi:Nat),lo<=hi->hi<=e.size->hi-lo<=fuel->(∀i,i<lo->e.getD i j<j)->(∀i,hi<=i->i<e.size->j<=e.getD i j) ->
  SetTable.below.go e j fuel lo hi<=e.size/\(∀i,i<SetTable.below.go e j fuel lo hi->e.getD i j<j)/\(∀i,SetTable.below.go e j fuel lo hi<=i->i<e.size->j<=e.getD i j)
 |0,lo,hi,h1,h2,h3,a,b=>by
  have:lo=hi:=by lia
  subst this;unfold SetTable.below.go;exact⟨h2,a,b⟩
 |fuel+1,lo,hi,h1,h2,h3,a,b=>by
  unfold SetTable.below.go;by_cases c:lo<hi
  ·rw[if_pos c];dsimp only;by_cases d:e.getD ((lo+hi)/2) j<j
   ·rw[if_pos d]
    exact DD e j f fuel _ hi (by lia) h2 (by lia) (λi g=>by
     have:=f i ((lo+hi)/2) (by lia) (by lia)
     lia) b
   ·rw[if_neg d]
    exact DD e j f fuel lo _ (by lia) (by lia) (by lia) a (λi g h=>by
     have:=f ((lo+hi)/2) i g h
     lia)
  ·rw[if_neg c];have:lo=hi:=by lia
   subst this;exact⟨h2,a,b⟩
def Up(a:Array Nat):Prop:=a.toList.Pairwise lt
theorem sZ(a:Array Nat)(i d:Nat):a.getD i d=a.toList.getD i d:=by
 rw[lO,cJ,gU]
theorem Up.mono(h:Up xs)(d a b:Nat)(i:a<=b)(g:b<xs.size):xs.getD a d<=xs.getD b d:=by
 rcases pB a b with c|c
 ·have f:b<xs.toList.length:=by simpa using g
  have e:a<xs.toList.length:=by lia
  rw[sZ,sZ,cJ,cJ,bV e,bV f];exact dj (ue.mp h a b e f c)
 ·have:a=b:=by lia
  subst this;exact br _
theorem va(h:Up xs)(j:Nat):SetTable.below xs j<=xs.size/\(∀i,i<SetTable.below xs j->xs.getD i j<j)/\(∀i,SetTable.below xs j<=i->i<xs.size->j<=xs.getD i j):=
 DD xs j (h.mono j) xs.size 0 xs.size (by lia) (by lia) (by lia) (λi a=>absurd a (by lia)) (λi c b=>absurd b (by lia))
theorem RE(h:Up b)(j:Nat):∀y∈b.toList.take (SetTable.below b j),y<j:=λy c=>by
 obtain⟨g,d,f⟩:=va h j;obtain⟨i,e,rfl⟩:=List.mem_iff_getElem.mp c;rw[g9] at e;have a:i<b.toList.length:=by lia
 have:=d i (by lia);rw[sZ,cJ,bV a] at this;rw[Og];exact this
theorem EQ(h:Up a)(j:Nat):∀y∈a.toList.drop (SetTable.below a j),j<=y:=λy c=>by
 obtain⟨k,f,d⟩:=va h j;obtain⟨i,e,rfl⟩:=List.mem_iff_getElem.mp c;rw[mY] at e;have g:a.toList.length=a.size:=by simp
 have b:SetTable.below a j+i<a.toList.length:=by lia
 have:=d (SetTable.below a j+i) (by lia) (by lia);rw[sZ,cJ,bV b] at this;rw[Oh];exact this
theorem MX(h:Up xs) (hj:j∈xs.toList):xs[SetTable.below xs j]?=some j:=by
 have c:=RE h j;have a:=EQ h j;rw[←j9 (SetTable.below xs j) xs.toList] at hj;rcases dk.mp hj with hj|hj
 ·exact absurd (c j hj) (n6 _)
 ·have b:(xs.toList.drop (SetTable.below xs j)).Pairwise lt:=uc (Oi _ _) h;have:(xs.toList.drop (SetTable.below xs j))[0]?=some j:=by
   cases e:xs.toList.drop (SetTable.below xs j) with
   |nil=>rw[e] at hj;cases hj
   |cons y l=>
    rw[e] at hj a b;rcases ca.mp hj with rfl|hj
    ·rfl
    ·have f:=a y (by simp);have d:y<j:=(rC.mp b).1 j hj;lia
  rw[oj] at this;rw[←gU]
  simpa using this
theorem Cb{b:Type}(a:Array b)(p:Nat)(x:b):(SetTable.insertAt a p x).toList=a.toList.take p++x::a.toList.drop p:=by
 unfold SetTable.insertAt;rw[kO,mZ,OC,OC];simp[List.extract];exact ka (by simp)
theorem Up.insert(h:Up xs) (g:j∉xs.toList):Up (SetTable.insertAt xs (SetTable.below xs j) j):=by
 unfold Up;rw[Cb,rF];refine⟨uc (CV _ _) h,rC.mpr ⟨λy c=>?_,uc (Oi _ _) h⟩,λa f b hb=>?_⟩
 ·have d:=EQ h j y c;have i:y≠j:=λe=>g (e ▸ pM c)
  show j<y;lia
 ·have d:=RE h j a f;rcases ca.mp hb with rfl|hb
  ·exact d
  ·have:=EQ h j b hb;show a<b;lia
end St
namespace St
structure Tb (t:SetTable):Prop where
 up:Up t.place
 nd:t.dummies=#[]
 inm:∀y∈t.place.toList,y<=t.mask
 pl:t.plain=true
theorem Qe(j:Nat):SetTable.has #[] j=false:=by
 unfold SetTable.has;simp
theorem Tb.slot(h:Tb t)(j:Nat):(t.slot j=.empty/\j∉t.place.toList)\/(∃i,t.slot j=.live i)/\j∈t.place.toList:=by
 unfold SetTable.slot;dsimp only;by_cases c:t.place[SetTable.below t.place j]?=some j
 ·right
  rw[if_pos (by rw[c];exact ry _)];rw[←gU] at c;exact⟨⟨_,rfl⟩,ew c⟩
 ·left
  rw[if_neg (by simpa using c),h.nd,Qe];exact⟨rfl,λa=>c (MX h.up a)⟩
noncomputable def ug(a:Nat):Nat->Nat->Nat->Nat
 |0,i,_=>i
 |k+1,i,per=>ug a k ((i*5+1+per/32)%(a+1)) (per/32)
noncomputable def i7(a:Nat) (p:SetTable.Probe):SetTable.Probe:={j:=(p.i*5+1+p.perturb/32)%(a+1),more:=SetTable.runEnd a ((p.i*5+1+p.perturb/32)%(a+1))-(p.i*5+1+p.perturb/32)%(a+1),i:=(p.i*5+1+p.perturb/32)%(a+1),perturb:=p.perturb/32,dummy:=p.dummy}
theorem KE{t:SetTable}{p:SetTable.Probe}(h:p.more=m+1):t.advance p={p with j:=p.j+1,more:=m}:=by
 unfold SetTable.advance;rw[if_pos (by lia),h]
 rfl
theorem KD{t:SetTable}{p:SetTable.Probe}(h:p.more=0):t.advance p=i7 t.mask p:=by
 unfold SetTable.advance;rw[if_neg (by lia)]
 rfl
theorem mq(g:Tb t)(h:Int):∀(m d:Nat) (p:SetTable.Probe),p.more=m->p.dummy=none ->
  (∃j,SetTable.probe.go t (λ_=>h+1) h (d+m+1) p=some (.empty j none)/\j∉t.place.toList/\j<=p.j+m) \/
  (p.j∈t.place.toList/\∃l,l.i=p.i/\l.perturb=p.perturb/\l.dummy=none/\SetTable.probe.go t (λ_=>h+1) h (d+m+1) p=SetTable.probe.go t (λ_=>h+1) h d (i7 t.mask l))
 |0,d,p,hm,hd=>by
  have e:SetTable.probe.go t (λ_=>h+1) h (d+0+1) p=match t.slot p.j with
   |.empty=>some (.empty p.j p.dummy)
   |.dummy=>SetTable.probe.go t (λ_=>h+1) h d (t.advance {p with dummy:=some p.j})
   |.live i=>if h+1==h then some (.candidate p.j i (t.advance p)) else SetTable.probe.go t (λ_=>h+1) h d (t.advance p):=rfl
  rw[e];rcases g.slot p.j with⟨k,f⟩|⟨⟨i,k⟩,f⟩
  ·rw[k,hd];exact .inl ⟨p.j,rfl,f,by lia⟩
  ·rw[k];dsimp only;rw[if_neg (by simp;lia)];exact .inr ⟨f,p,rfl,rfl,hd,by rw[KD hm]⟩
 |m+1,d,p,hm,hd=>by
  have e:SetTable.probe.go t (λ_=>h+1) h (d+(m+1)+1) p=match t.slot p.j with
   |.empty=>some (.empty p.j p.dummy)
   |.dummy=>SetTable.probe.go t (λ_=>h+1) h (d+(m+1)) (t.advance {p with dummy:=some p.j})
   |.live i=>if h+1==h then some (.candidate p.j i (t.advance p)) else SetTable.probe.go t (λ_=>h+1) h (d+(m+1)) (t.advance p):=rfl
  rw[e];rcases g.slot p.j with⟨k,f⟩|⟨⟨i,k⟩,f⟩
  ·rw[k,hd];exact .inl ⟨p.j,rfl,f,by lia⟩
  ·rw[k];dsimp only;rw[if_neg (by simp;lia),KE hm,←Cz];rcases mq g h m d {p with j:=p.j+1,more:=m} rfl hd with⟨j,a,b,c⟩|⟨a,l,b⟩
   ·exact .inl ⟨j,a,b,by dsimp only at c;lia⟩
   ·exact .inr ⟨f,l,b⟩
theorem Rp(h:i<=mask):i<=SetTable.runEnd mask i/\SetTable.runEnd mask i<=mask/\SetTable.runEnd mask i<=i+9:=by
 unfold SetTable.runEnd;split<;>lia
theorem my(g:Tb t)(h:Int):∀(L d:Nat) (p:SetTable.Probe),10*L<=d->p.j=p.i->p.i<=t.mask->p.more=SetTable.runEnd t.mask p.i-p.i->p.dummy=none->(∃k,k<L/\ug t.mask k p.i p.perturb∉t.place.toList) ->
  ∃j,SetTable.probe.go t (λ_=>h+1) h d p=some (.empty j none)/\j∉t.place.toList/\j<=t.mask
 |0,_,_,_,_,_,_,_,⟨k,hk,_⟩=>absurd hk (by lia)
 |L+1,d,p,hf,hj,hi,hm,hd,⟨k,hk,hk2⟩=>by
  obtain⟨r,q,o⟩:=Rp hi;have m:d=(d-p.more-1)+p.more+1:=by lia
  have w:=mq g h p.more (d-p.more-1) p rfl hd;rw[←m] at w;rcases w with⟨j,a,b,c⟩|⟨a,i,l,e,f,n⟩
  ·exact⟨j,a,b,by lia⟩
  ·rw[n];cases k with
   |zero=>exact absurd a (by rw[hj];exact hk2)
   |succ k=>
    refine my g h L _ (i7 t.mask i) (by lia) rfl (by unfold i7;exact h7 (xZ _ (by lia))) rfl f ⟨k,by lia,?_⟩;unfold i7;dsimp only;rw[l,e];exact hk2
/- the leaps meet all places -/
noncomputable def oS(a:Nat):Nat->Nat->Nat->Nat->Nat
 |0,acc,_,_=>acc
 |L+1,acc,i,per=>oS a L (acc ||| 2^i) ((i*5+1+per/32)%(a+1)) (per/32)
theorem wK(a j:Nat):∀(L acc i b:Nat),(oS a L acc i b).testBit j=true->acc.testBit j=true\/∃k,k<L/\ug a k i b=j
 |0,acc,i,b,h=>.inl h
 |L+1,acc,i,b,h=>by
  rcases wK a j L _ _ _ h with h|⟨k,d,c⟩
  ·rw[Nat.testBit_or,C2,N2,tU] at h;rcases h with h|h
   ·exact .inl h
   ·exact .inr ⟨0,by lia,h⟩
  ·exact .inr ⟨k+1,by lia,c⟩
def oP(a h:Nat):Bool:=Nat.beq (oS a (a+3) 0 (h%(a+1)) h) (2^(a+1)-1)
theorem PB:(List.range 64).all (oP 7)=true:=by decide +kernel
theorem zY:(List.range 64).all (oP 31)=true:=by decide +kernel
theorem se:(List.range 64).all (oP 127)=true:=by decide +kernel
noncomputable def dF(m:Nat):Prop:=m=7\/m=31\/m=127
theorem SX(b:dF mask)(a:h<64)(d:j<=mask):∃k,k<mask+3/\ug mask k (h%(mask+1)) h=j:=by
 have c:oP mask h=true:=by
  rcases b with rfl|rfl|rfl
  ·exact dW.mp PB h (bR.mpr a)
  ·exact dW.mp zY h (bR.mpr a)
  ·exact dW.mp se h (bR.mpr a)
 have e:=pN c;have t:(oS mask (mask+3) 0 (h%(mask+1)) h).testBit j=true:=by
  rw[e,Nat.testBit_two_pow_sub_one];exact cI (by lia)
 rcases wK mask j _ _ _ _ t with z|z
 ·simp at z
 ·exact z
theorem room(g:Tb t)(h:t.place.size<=t.mask):∃j,j<=t.mask/\j∉t.place.toList:=by
 by_cases c:∃j,j<=t.mask/\j∉t.place.toList
 ·exact c
 ·exfalso
  have b:List.range (t.mask+1) ⊆ t.place.toList:=λj a=>by
   by_cases z:j∈t.place.toList
   ·exact z
   ·exact absurd ⟨j,by have:=bR.mp a;lia,z⟩ c
  have:=yF (rz) b;simp at this;lia
theorem Nk(g:Tb t)(o:dF t.mask){h:Nat}(e:h<64)(i:t.place.size<=t.mask):∃j,t.freeSlot (h:Int)=some (j,false)/\j∉t.place.toList/\j<=t.mask:=by
 obtain⟨p,n,d⟩:=room g i;obtain⟨k,a,m⟩:=SX o e n;have b:SetTable.bits (h:Int)=h:=by
  unfold SetTable.bits;lia
 have s:=my g (h:Int) (t.mask+3) (10*SetTable.turns t.mask) (t.probeStart (h:Int)) (by unfold SetTable.turns;lia) rfl (by unfold SetTable.probeStart;exact h7 (xZ _ (by lia))) rfl rfl ⟨k,a,by
  show ug t.mask k (SetTable.bits (h:Int)%(t.mask+1)) (SetTable.bits (h:Int))∉_;rw[b,m]
  exact d⟩
 obtain⟨j,l,c,f⟩:=s;refine⟨j,?_,c,f⟩;unfold SetTable.freeSlot SetTable.probe;rw[l]
 rfl
end St
namespace St
theorem vf{b:Type}(a:Array b)(p:Nat)(x:b)(h:p<=a.size):(SetTable.insertAt a p x).size=a.size+1:=by
 have:=congrArg List.length (Cb a p x);simp at this;lia
theorem Jn{b:Array (Int×Value)}{h:Nat}(g:Tb t)(o:dF t.mask)(k:h<64)(e:t.place.size=b.size)(p:t.place.size<t.mask):
  ∃a c,layNew t b (h:Int) x=(a,c,false,false)/\Tb c/\c.mask=t.mask/\c.led=t.led/\c.place.size=a.size/\a.size=b.size+1/\a.toList.Perm (((h:Int),x)::b.toList):=by
 obtain⟨j,m,l,n⟩:=Nk g o k (by lia);have d:=(va g.up j).1;refine⟨SetTable.insertAt b (SetTable.below t.place j) ((h:Int),x),{t with place:=SetTable.insertAt t.place (SetTable.below t.place j) j},?_,?_,rfl,rfl,?_,?_,?_⟩
 ·have i:t.put j=({t with place:=SetTable.insertAt t.place (SetTable.below t.place j) j},SetTable.below t.place j):=by
   unfold SetTable.put;dsimp only;rw[g.nd,Qe]
   rfl
  have f:({t with place:=SetTable.insertAt t.place (SetTable.below t.place j) j}:SetTable).fits (SetTable.insertAt b (SetTable.below t.place j) ((h:Int),x)).size=true:=by
   unfold SetTable.fits SetTable.fill;dsimp only;rw[vf _ _ _ d,vf _ _ _ (by lia),g.nd,e];simp;lia
  unfold layNew;rw[m];dsimp only;rw[i];dsimp only;unfold SetTable.orStandIn;rw[f]
  rfl
 ·refine⟨g.up.insert l,g.nd,λy hy=>?_,g.pl⟩;dsimp only at hy ⊢;rw[Cb] at hy;rcases dk.mp hy with hy|hy
  ·exact g.inm y (ml hy)
  ·rcases ca.mp hy with rfl|hy
   ·exact n
   ·exact g.inm y (pM hy)
 ·dsimp only;rw[vf _ _ _ d,vf _ _ _ (by lia),e]
 ·rw[vf _ _ _ (by lia)]
 ·rw[Cb];refine(N9).trans ?_;rw[j9]
/- laid anew -/
noncomputable def mC(a:Array (Option Nat)) (b:Nat):List Nat:=(List.range (b+1)).filterMap λj=>a.getD j none
structure Ow (mask n:Nat) (owner:Array (Option Nat)):Prop where
 size:owner.size=mask+1
 perm:(mC owner mask).Perm (List.range n)
theorem JV(h:Ow b n owner)(o:n<=b):∃j,j<=b/\owner.getD j (some 0)=none:=by
 by_cases c:∃j,j<=b/\owner.getD j (some 0)=none
 ·exact c
 ·exfalso
  have k:∀j∈List.range (b+1),(owner.getD j none).isSome=true:=λj d=>by
   have d:=bR.mp d;have i:j<owner.size:=by rw[h.size];exact d
   cases e:owner.getD j none with
   |some x=>rfl
   |none=>
    refine absurd ⟨j,by lia,?_⟩ c;rw[lO,mm i] at e ⊢;exact e
  have g:(mC owner b).length=b+1:=by
   unfold mC;have:∀l:List Nat,(∀j∈l,(owner.getD j none).isSome=true)->(l.filterMap λj=>owner.getD j none).length=l.length:=λl=>by
    induction l with
    |nil=>intro _;rfl
    |cons a l ih=>
     intro g;obtain⟨x,m⟩:=Option.isSome_iff_exists.mp (g a (by simp));rw[nk (f:=λj=>owner.getD j none) m,dw,dw,ih λj d=>g j (bU _ d)]
   rw[this _ k,pH]
  have:=h.perm.length_eq;rw[g,pH] at this;lia
theorem xa{owner:Array (Option Nat)}:∀(fuel i b:Nat),i<=mask->(∃k,k<fuel/\owner.getD (ug mask k i b) (some 0)=none)->∃j,SetTable.layClean.free mask owner fuel i b=some j/\j<=mask/\owner.getD j (some 0)=none
 |0,_,_,_,⟨k,hk,_⟩=>absurd hk (by lia)
 |fuel+1,i,b,hi,⟨k,hk,a⟩=>by
  obtain⟨l,g,f⟩:=Rp hi;unfold SetTable.layClean.free;cases e:(List.range (SetTable.runEnd mask i+1-i)).find? λk=>(owner.getD (i+k) (some 0)).isNone with
  |some z=>
   have d:=CH e;have h:=bR.mp (Df e);exact⟨i+z,rfl,by lia,by simpa using d⟩
  |none=>
   dsimp only;have c:=tV.mp e 0 (bR.mpr (by lia));cases k with
   |zero=>
    exfalso
    rw[tL] at c;have a:owner.getD i (some 0)=none:=a;rw[a] at c;exact c rfl
   |succ k=>
    exact xa fuel _ _ (h7 (xZ _ (by lia))) ⟨k,by lia,a⟩
theorem BF{c i:Type}{f g:c->Option i}:∀{l:List c},(∀x∈l,f x=g x)->l.filterMap f=l.filterMap g
 |[],_=>rfl
 |a::l,h=>by
  have b:=BF (l:=l) λx j=>h x (bU _ j)
  have d:=h a (by simp);cases e:g a with
  |none=>rw[pS (d.trans e),pS e,b]
  |some z=>rw[nk (d.trans e),nk e,b]
theorem Sw(b:Array (Option Nat)){j n:Nat}(g:b.getD j (some 0)=none)(k:j<b.size):∀l:List Nat,l.Nodup->j∈l ->
  (l.filterMap λi=>(b.setIfInBounds j (some n)).getD i none).Perm (n::l.filterMap λi=>b.getD i none)
 |[],_,h=>by cases h
 |a::l,nd,h=>by
  have m:∀i,i≠j->(b.setIfInBounds j (some n)).getD i none=b.getD i none:=λi o=>by
   rw[lO,lO,SM (fX o)]
  have r:(b.setIfInBounds j (some n)).getD j none=some n:=by
   rw[lO,SN k]
   rfl
  have q:b.getD j none=none:=by
   rw[lO,mm k] at g ⊢;exact g
  have d:=g7.mp nd;by_cases c:a=j
  ·subst c;rw[nk (f:=λi=>(b.setIfInBounds a (some n)).getD i none) r,pS (f:=λi=>b.getD i none) q];have:(l.filterMap λi=>(b.setIfInBounds a (some n)).getD i none)=l.filterMap λi=>b.getD i none:=BF λi o=>m i λe=>d.1 (e ▸ o)
   rw[this]
  ·have s:j∈l:=by
    rcases ca.mp h with h|h
    ·exact absurd h.symm c
    ·exact h
   have p:=Sw b (n:=n) g k l d.2 s;cases e:b.getD a none with
   |none=>rw[pS (f:=λi=>(b.setIfInBounds j (some n)).getD i none) (by rw[m a c];exact e),pS (f:=λi=>b.getD i none) e];exact p
   |some z=>
    rw[nk (f:=λi=>(b.setIfInBounds j (some n)).getD i none) (by rw[m a c];exact e),nk (f:=λi=>b.getD i none) e];exact(List.Perm.cons z p).trans (List.Perm.swap n z _)
theorem Ow.step{a n:Nat}{b:Array (Option Nat)}(h:Ow a n b)(o:dF a){hv:Nat}(f:hv<64)(c:n<=a):
  ∃j,SetTable.layClean.free a b (SetTable.turns a) (SetTable.bits (hv:Int)%(a+1)) (SetTable.bits (hv:Int))=some j/\Ow a (n+1) (b.setIfInBounds j (some n)):=by
 have d:SetTable.bits (hv:Int)=hv:=by
  unfold SetTable.bits;lia
 obtain⟨s,l,e⟩:=JV h c;obtain⟨k,q,i⟩:=SX o f l;rw[d];obtain⟨j,g,r,m⟩:=xa (owner:=b) (mask:=a) (SetTable.turns a) (hv%(a+1)) hv (h7 (xZ _ (by lia))) ⟨k,by unfold SetTable.turns;lia,by rw[i];exact e⟩;refine⟨j,g,⟨by rw[Array.size_setIfInBounds];exact h.size,?_⟩⟩;have p:=Sw b (n:=n) m (by rw[h.size];lia) (List.range (a+1)) rz (bR.mpr (by lia));refine p.trans ((List.Perm.cons n h.perm).trans ?_);rw[pD];exact(List.perm_append_singleton n _).symm
noncomputable def jS(h:Int):Prop:=∃n:Nat,n<64/\h=n
theorem Qh{b:Nat}(f:dF b):∀(l:List Int) (n:Nat) (a:Array (Option Nat)),Ow b n a->(∀h∈l,jS h)->n+l.length<=b ->
  ∃c,l.foldl (λacc h=>do
   let (a,k) ←acc
   let j ←SetTable.layClean.free b a (SetTable.turns b) (SetTable.bits h%(b+1)) (SetTable.bits h)
   pure (a.setIfInBounds j (some k),k+1)) (some (a,n))=some (c,n+l.length)/\Ow b (n+l.length) c
 |[],n,a,o,_,_=>⟨a,rfl,o⟩
 |h::l,n,a,o,hs,hl=>by
  rw[dw] at hl ⊢;obtain⟨d,s,rfl⟩:=hs h (by simp);obtain⟨j,q,p⟩:=o.step f s (by lia);obtain⟨g,i,m⟩:=Qh f l (n+1) _ p (λx r=>hs x (bU _ r)) (by lia);refine⟨g,?_,by rw[show n+(l.length+1)=n+1+l.length by lia];exact m⟩;rw[lC]
  have e:(do
   let (a,k) ←some (a,n)
   let j ←SetTable.layClean.free b a (SetTable.turns b) (SetTable.bits (d:Int)%(b+1)) (SetTable.bits (d:Int))
   pure (a.setIfInBounds j (some k),k+1):Option (Array (Option Nat)×Nat))=some (a.setIfInBounds j (some n),n+1):=by
   show(SetTable.layClean.free b a (SetTable.turns b) (SetTable.bits (d:Int)%(b+1)) (SetTable.bits (d:Int))).bind _=_;rw[q]
   rfl
  rw[e,i,show n+(l.length+1)=n+1+l.length by lia]
theorem V8(a:Nat):Ow a 0 (Array.replicate (a+1) none):=by
 refine⟨by simp,?_⟩;unfold mC;have:(List.range (a+1)).filterMap (λj=>(Array.replicate (a+1) (none:Option Nat)).getD j none)=(List.range (a+1)).filterMap λ_=>(none:Option Nat):=BF λj _=>by
  rw[lO,Array.getElem?_replicate];split<;>rfl
 rw[this];have:∀l:List Nat,l.filterMap (λ_=>(none:Option Nat))=[]:=λl=>by induction l<;>simp_all
 rw[this];exact N0 _
theorem Nv(b:dF mask){hs:Array Int}(h:∀x∈hs.toList,jS x)(a:hs.size<=mask):∃owner,SetTable.layClean mask hs=some owner/\Ow mask hs.size owner:=by
 obtain⟨o,e,w⟩:=Qh b hs.toList 0 _ (V8 mask) h (by simpa using a);rw[iS] at e w;refine⟨o,?_,by simpa using w⟩;unfold SetTable.layClean;rw[←Array.foldl_toList,e]
 rfl
theorem Qk(b:Array (Option Nat)):∀l:List Nat,(l.filterMap λj=>(b.getD j none).map λk=>(j,k)).map (·.1)=l.filter λj=>(b.getD j none).isSome
 |[]=>rfl
 |a::l=>by
  have c:=Qk b l;cases e:b.getD a none with
  |none=>rw[pS (f:=λj=>(b.getD j none).map λk=>(j,k)) (by rw[e];rfl),hE (by rw[e];decide),c]
  |some z=>rw[nk (f:=λj=>(b.getD j none).map λk=>(j,k)) (by rw[e];rfl),gV (by rw[e];rfl),cr,c]
theorem Ql(b:Array (Option Nat)):∀l:List Nat,(l.filterMap λj=>(b.getD j none).map λk=>(j,k)).map (·.2)=l.filterMap λj=>b.getD j none
 |[]=>rfl
 |a::l=>by
  have c:=Ql b l;cases e:b.getD a none with
  |none=>rw[pS (f:=λj=>(b.getD j none).map λk=>(j,k)) (by rw[e];rfl),pS (f:=λj=>b.getD j none) e,c]
  |some z=>rw[nk (f:=λj=>(b.getD j none).map λk=>(j,k)) (by rw[e];rfl),nk (f:=λj=>b.getD j none) e,cr,c]
theorem NV{b:Type}(es:List b):(List.range es.length).filterMap (λi=>es[i]?)=es:=by
 induction es with
 |nil=>rfl
 |cons a l ih=>
  rw[dw,List.range_succ_eq_map,nk (f:=λi=>(a::l)[i]?) rfl,List.filterMap_map]
  congr 1
theorem yR{t:SetTable}{b:Array (Int×Value)}{wanted:Nat}(g:Tb t)(E:∀e∈b.toList,jS e.1)(p:dF (SetTable.sizeAbove wanted-1))(o:b.size<=SetTable.sizeAbove wanted-1):
  ∃f h,relayAll t b wanted=(f,h,false)/\Tb h/\h.mask=SetTable.sizeAbove wanted-1/\h.led=t.led/\h.place.size=f.size/\f.size=b.size/\f.toList.Perm b.toList:=by
 obtain⟨a,q,w⟩:=Nv p (hs:=b.map (·.1)) (λx r=>by
  rw[Array.toList_map] at r;obtain⟨e,G,rfl⟩:=bS.mp r
  exact E e G) (by simpa using o)
 rw[Array.size_map] at w;generalize hmk:SetTable.sizeAbove wanted-1=mask at q w p o
 let live:=(List.range (mask+1)).filterMap λj=>(a.getD j none).map λk=>(j,k)
 have s:live.map (·.1)=(List.range (mask+1)).filter λj=>(a.getD j none).isSome:=Qk a _
 have z:live.map (·.2)=mC a mask:=Ql a _;have m:=w.perm;rw[←z] at m;have c:((live.map (·.2)).filterMap λi=>b[i]?).Perm b.toList:=by
  refine(m.filterMap _).trans ?_;have:=NV b.toList;rw[fZ] at this;rw[show(List.range b.size).filterMap (λi=>b[i]?)=b.toList from(BF λi _=>(gU (xs:=b)).symm).trans this]
 have d:((live.map (·.2)).filterMap λi=>b[i]?).length=b.size:=by rw[c.length_eq,fZ]
 have l:live.length=b.size:=by
  have:=m.length_eq;rw[bj,pH] at this;exact this
 have u:t.relaid (b.map (·.1)) wanted=some ({mask,place:=(live.map (·.1)).toArray,dummies:=#[],finger:=t.finger,led:=t.led,moves:=t.movedTo mask,plain:=t.plain},(live.map (·.2)).toArray):=by
  unfold SetTable.relaid SetTable.laid;rw[hmk,q]
  rfl
 refine⟨((live.map (·.2)).filterMap λi=>b[i]?).toArray,{mask,place:=(live.map (·.1)).toArray,dummies:=#[],finger:=t.finger,led:=t.led,moves:=t.movedTo mask,plain:=t.plain},?_,⟨?_,rfl,λy n=>?_,g.pl⟩,rfl,rfl,?_,?_,?_⟩
 ·unfold relayAll;rw[u];dsimp only;have C:coversAll (live.map (·.2)).toArray b.size=true:=by
   unfold coversAll;exact List.isPerm_iff.mpr m
  have A:(live.map (·.2)).toArray.filterMap (λx=>b[x]?)=((live.map (·.2)).filterMap λi=>b[i]?).toArray:=by simp
  rw[A,C];have v:({mask,place:=(live.map (·.1)).toArray,dummies:=#[],finger:=t.finger,led:=t.led,moves:=t.movedTo mask,plain:=t.plain}:SetTable).fits ((live.map (·.2)).filterMap λi=>b[i]?).toArray.size=true:=by
   unfold SetTable.fits SetTable.fill;dsimp only;rw[eE,eE,d,bj,l];simp;lia
  rw[v]
  rfl
 ·show(live.map (·.1)).toArray.toList.Pairwise lt;rw[List.toList_toArray,s];exact uc yw List.pairwise_lt_range
 ·dsimp only at n ⊢;rw[s] at n;have:=bR.mp (dH.mp n).1;lia
 ·dsimp only;rw[eE,eE,d,bj,l]
 ·rw[eE,d]
 ·rw[List.toList_toArray];exact c
end St
namespace St
theorem L9{a:Type}{l:List a}(h:i<l.length):(l[i]::l.eraseIdx i).Perm l:=by
 rw[List.eraseIdx_eq_take_drop_succ];refine N9.symm.trans ?_;rw[←lN h,j9]
theorem xH{c:Type}(next:Nat->Nat):∀(fuel k:Nat) (left:List c) (b:Array c),left.length<=fuel->(pickOrder.go next fuel k left b).toList.Perm (b.toList++left)
 |0,k,left,b,h=>by
  have:left=[]:=yB.mp (by lia);subst this;unfold pickOrder.go;rw[jA]
 |fuel+1,k,left,b,h=>by
  unfold pickOrder.go;cases e:left[next k%left.length]? with
  |none=>
   have:left=[]:=by
    cases left with
    |nil=>rfl
    |cons a l=>
     have:=List.getElem?_eq_none_iff.mp e;have:=xZ (next k) (show(a::l).length > 0 by simp);lia
   subst this;dsimp only;rw[jA]
  |some x=>
   dsimp only;obtain⟨d,rfl⟩:=db.mp e;have f:=xH next fuel (k+1) (left.eraseIdx (next k%left.length)) (b.push left[next k%left.length]) (by rw[List.length_eraseIdx_of_lt d];lia);refine f.trans ?_;rw[mZ,ff];exact ud _ (L9 d)
theorem NP{b:Type}(next:Nat->Nat)(a:Array b):(pickOrder next a).toList.Perm a.toList:=by
 unfold pickOrder;exact xH next a.size 0 a.toList #[] (by simp)
theorem TB(h:Up xs) (n:i<xs.size):SetTable.below xs (xs.getD i 0+1)=i+1:=by
 obtain⟨q,l,m⟩:=va h (xs.getD i 0+1);have up:∀a b,a<b->b<xs.size->xs.getD a 0<xs.getD b 0:=λa b k p=>by
  have j:b<xs.toList.length:=by simpa using p
  have f:a<xs.toList.length:=by lia
  rw[sZ,sZ,cJ,cJ,bV f,bV j];exact ue.mp h a b f j k
 have dflt:∀a d,a<xs.size->xs.getD a d=xs.getD a 0:=λa d o=>by
  rw[lO,lO,mm o]
  rfl
 generalize SetTable.below xs (xs.getD i 0+1)=b at q l m;rcases Nat.lt_trichotomy b (i+1) with c|c|c
 ·have:=m i (by lia) n;have e:=dflt i (xs.getD i 0+1) n;lia
 ·exact c
 ·have:=l (i+1) c;have g:i+1<xs.size:=by lia
  have e:=dflt (i+1) (xs.getD i 0+1) g;have:=up i (i+1) (by lia) g;lia
theorem TC(h:Up xs):SetTable.below xs 0=0:=by
 obtain⟨d,a,b⟩:=va h 0;rcases yu (SetTable.below xs 0) with c|c
 ·exact c
 ·exact absurd (a 0 c) (by lia)
end St
end L2
namespace L2
open PySem.W PyProof.Rows Spec
namespace St
structure Es (l:List (Int×Value)) (ks:List Nat):Prop where
 all:∀e∈l,∃(n:Nat) (t:Tok),n<64/\e=((n:Int),Value.int (n:Int) t)
 perm:(l.map (·.1)).Perm (ks.map λ(n:Nat)=>(n:Int))
 nd:ks.Nodup
theorem Es.small(h:Es l a):∀k∈a,k<64:=λk d=>by
 have f:(k:Int)∈l.map (·.1):=h.perm.mem_iff.mpr (bS.mpr ⟨k,d,rfl⟩);obtain⟨e,c,b⟩:=bS.mp f;obtain⟨n,t,g,rfl⟩:=h.all e c;dsimp only at b;lia
theorem Es.len(h:Es l ks):l.length=ks.length:=by
 have:=h.perm.length_eq
 simpa using this
theorem Es.few(h:Es l ks):l.length<=64:=by
 rw[h.len];have:=yF h.nd (l₂:=List.range 64) λk a=>bR.mpr (h.small k a)
 simpa using this
theorem Es.of_perm{a:List (Int×Value)}(h:Es l ks)(p:a.Perm l):Es a ks:=
 ⟨λe b=>h.all e (p.mem_iff.mp b),(p.map _).trans h.perm,h.nd⟩
theorem Es.add(h:Es l ks) (a:n<64)(b:n∉ks):Es (((n:Int),Value.int (n:Int) t)::l) (n::ks):=
 ⟨λe he=>by
  rcases ca.mp he with rfl|he
  ·exact⟨n,t,a,rfl⟩
  ·exact h.all e he,h.perm.cons _,g7.mpr ⟨b,h.nd⟩⟩
theorem RK{n:Nat}(h:n<64):hashInt (n:Int)=n:=by
 have e:rawHash (n:Int)=n:=by
  unfold rawHash;have b:(((n:Int).natAbs:Int)%((2^61-1:Nat):Int))=n:=by
   rw[Int.natAbs_natCast];exact Int.emod_eq_of_lt (by lia) (by lia)
  rw[b];dsimp only;have c:¬ ((n:Int)<0):=by lia
  rw[if_neg c];have a:((n:Int)==-1)=false:=by
   rw[pK];lia
  rw[a]
  rfl
 unfold hashInt;rw[e];have a:((n:Int)==-1)=false:=by
  rw[pK];lia
 rw[a]
 rfl
structure Tt (w:World) (es:Array (Int×Value)) (t:SetTable) (ks:List Nat):Prop where
 tb:Tb t
 mo:dF t.mask
 ld:t.led=!w.params.followText "set-order"
 sz:t.place.size=es.size
 room:t.place.size*5<t.mask*3
 el:Es es.toList ks
theorem Tt.fits(h:Tt w es t ks):t.fits es.size=true:=by
 have:=h.room;have a:=h.sz;unfold SetTable.fits SetTable.fill;rw[h.tb.nd];simp;lia
theorem Tt.few(h:Tt w es t ks):es.size<=64:=by
 have:=h.el.few
 simpa using this
theorem Tt.elems{c:List Nat}(h:Tt w es t c):ElemsOf (intKind P w) es.toList:=λe a=>by
 obtain⟨m,t,b,rfl⟩:=h.el.all e a;exact⟨⟨(m:Int),intKind_is _ _ _ _,(RK b).symm⟩,rfl⟩
noncomputable def Sn(w:World) (h:Heap) (a:Addr) (e:List Nat):Prop:=∃b c d t,h.get? a=some b/\b.ExactSet/\b.data=.set c d t/\Tt w c t e
theorem Sn.kept{h':Heap}(x:Sn w h a ks)(k:∀o,h.get? a=some o->h'.get? a=some o):Sn w h' a ks:=
 let ⟨ob,es,ep,t,e,r⟩:=x;⟨ob,es,ep,t,k _ e,r⟩
theorem Ja{t:SetTable}(f:t.dummies=#[])(b:dF t.mask)(g:t.place.size=m+1)(room:m*5<t.mask*3)(d:m+1<=64):
  (t.tooFull=false/\(m+1)*5<t.mask*3)\/(t.tooFull=true/\dF (SetTable.sizeAbove (SetTable.grown (m+1))-1)/\m+1<=SetTable.sizeAbove (SetTable.grown (m+1))-1/\(m+1)*5<(SetTable.sizeAbove (SetTable.grown (m+1))-1)*3):=by
 have a:t.fill=m+1:=by
  unfold SetTable.fill;rw[f,g]
  rfl
 rcases b with e|e|e
 ·by_cases c:m=4
  ·subst c
   right
   refine⟨by unfold SetTable.tooFull;rw[a,e];decide,?_,by decide,by decide⟩;exact .inr (.inl (by decide))
  ·left
   refine⟨?_,by lia⟩;unfold SetTable.tooFull;rw[a,e];simp;lia
 ·by_cases c:m=18
  ·subst c
   right
   refine⟨by unfold SetTable.tooFull;rw[a,e];decide,?_,by decide,by decide⟩;exact .inr (.inr (by decide))
  ·left
   refine⟨?_,by lia⟩;unfold SetTable.tooFull;rw[a,e];simp;lia
 ·left
  refine⟨?_,by lia⟩;unfold SetTable.tooFull;rw[a,e];simp;lia
theorem ww{h:Heap}(d:h.get? a=some o)(f:o.data=.set es ep t)(b:Array (Int×Value))(c:SetTable):
  (h.update a (Obj.putSet b c)).get? a=some {o with data:=.set b (ep+1) c}:=by
 have e:=putSet_of b c f;have g:=pQ (Obj.putSet b c) d (by rw[e];rfl)
 rwa [e] at g
theorem Ga{s:Shared}{ks:List Nat}{n:Nat}(U:n<64)(S:Sn w s.heap a ks)
  (o:∀v b,Heap.SameBut a s.heap v->Sn w v a (if n∈ks then ks else n::ks)->Q b {s with heap:=v}):
  wpAny (model P w) B (setAddHashed a (.int (n:Int) tok) (hashInt (n:Int))) Q E s:=by
 obtain⟨ob,A,ep,t,C,u,H,T⟩:=id S;have a8:=T.few;have hb:A.size<scanBound:=by unfold scanBound;lia
 unfold setAddHashed setAddHashedIn;refine jz (ag (CP C H T.fits ?_));dsimp only;rw[byScan_of (knd:=intKind P w) (x:=.int (n:Int) tok) rfl hb T.elems,if_pos rfl];unfold setAddByScan;refine ag (ag (nZ (ag (wpAny_setScan_of (knd:=intKind P w) (k:=(n:Int)) (intKind_is _ _ _ _) C H T.fits T.elems ?_))));cases hr:List.findIdx? (λe=>(intKind P w).is (n:Int) e.2) A.toList with
 |some j=>
  dsimp only;obtain⟨hj,hp,_⟩:=List.findIdx?_eq_some_iff_getElem.mp hr;obtain⟨m,y,Y,e⟩:=T.el.all _ (gf hj);rw[e] at hp;have X:(n:Int)=(m:Int):=(intKind P w).inj _ _ _ hp (intKind_is P w (m:Int) y);have h1:(n:Int)∈A.toList.map (·.1):=bS.mpr ⟨_,gf hj,by rw[e];exact X.symm⟩;obtain⟨k,hk,ek⟩:=bS.mp (T.el.perm.mem_iff.mp h1);have a4:n∈ks:=by
   have:k=n:=by lia
   exact this ▸ hk
  have f:=o s.heap false (Heap.SameBut.refl a s.heap);rw[if_pos a4] at f;exact aW (aW (f S))
 |none=>
  dsimp only;have no:n∉ks:=λhk=>by
   have h1:(n:Int)∈A.toList.map (·.1):=T.el.perm.mem_iff.mpr (bS.mpr ⟨n,hk,rfl⟩);obtain⟨e,I,G⟩:=bS.mp h1;obtain⟨m,y,Y,rfl⟩:=T.el.all e I;have z:=List.findIdx?_eq_none_iff.mp hr _ I;dsimp only at G z;rw[G,intKind_is] at z;cases z
  rw[RK U];obtain⟨c,J,G,d,i,r,a0,h,a3⟩:=Jn (x:=Value.int (n:Int) tok) T.tb T.mo U T.sz (by have:=T.room;lia);have g:Es c.toList (n::ks):=(T.el.add (t:=tok) U no).of_perm a3;rw[G];dsimp only;refine ag (aW ?_);rw[d.pl,if_pos rfl,hashByValue_scannable 8 (x:=Value.int (n:Int) tok) rfl];refine ag (aW ?_);rw[show plainKind (Value.int (n:Int) tok)=true from rfl,if_pos rfl];have a7:c.size<=64:=by have:=g.few;simpa using this
  refine ag (wpAny_storeSet_of C H ?_ (by rw[me];lia));have g1:=ww C H c J;have q:=ng s.heap a (Obj.putSet c J);have f:=λv b=>o v b
  rw[if_neg no] at f;rcases Ja (t:=J) (m:=A.size) d.nd (by rw[i];exact T.mo) (by lia) (by have:=T.room;have:=T.sz;rw[i];lia) (by lia) with⟨c1,c2⟩|⟨c1,c2,c3,c4⟩
  ·rw[c1];refine aW (aW (f _ _ q ⟨_,c,ep+1,J,g1,u,rfl,d,by rw[i];exact T.mo,r.trans T.ld,a0,?_,g⟩));lia
  ·rw[c1]
   obtain⟨l,y,e2,a6,p,a2,a1,a9,a5⟩:=yR (wanted:=SetTable.grown c.size) d (λe I=>by
    obtain⟨m,tt,Y,rfl⟩:=g.all e I
    exact⟨m,Y,rfl⟩) (by rw[h];exact c2) (by rw[h];exact c3)
   rw[e2];refine ag (aW ?_);refine ag (wpAny_storeSet_of g1 rfl ?_ (by show l.size<=_;rw[me];lia));refine aW (aW (f _ _ (q.trans (ng _ a _)) ⟨_,l,ep+1+1,y,ww g1 rfl l y,u,rfl,a6,by rw[p,h];exact c2,a2.trans (r.trans T.ld),a1,?_,g.of_perm a5⟩));rw[p,h];lia
end St
namespace St
noncomputable def met:List Nat->List Nat->List Nat
 |[],ks=>ks
 |n::l,ks=>met l (if n∈ks then ks else n::ks)
theorem RO:entryFor table "set.update.loop"=some Builtin.«set.update.loop»:=entryFor_of_tree (by kernel_rfl)
theorem ET:plainId "set.update.loop"=true:=by decide +kernel
section
variable {P:Program}{w:World}{B:Around}{R:Result->Shared->Prop}{it:Addr}{fp:List Addr}{wr:List Addr}{G:Array GenState->Array GenState->Prop}{N:Nat}{It:Nat->Value->Prop}{St:Nat->Shared->Prop}
theorem xk(W:WalksS P w B.in1 it fp wr G N It St)(a:Addr)(p:a∉fp)(d:List Nat)(I:d.length=N)(small:∀n∈d,n<64)
  (g:∀i v,It i v->∃t,v=Value.int ((d.getD i 0:Nat):Int) t):∀(r:List Nat) (i:Nat) (k:List Nat) (s:Shared),d.drop i=r->i<=N->St i s->Sn w s.heap a k ->
   (∀ c,Moved (a::wr) G s c->Sn w c.heap a (met r k)->R (.ok (.ret .none)) c)->codeAny (model P w) B (.builtin "set.update.loop" ⟨[.ref a,.ref it],[]⟩) R s
 |[],i,k,s,hr,hi,au,S,fin=>by
  have e:i=N:=by
   have:=congrArg List.length hr;simp at this;lia
  subst e;refine yi RO ?_;rw[OB ET _];refine ag (m:=pyNext (.ref it)) (W.done s _ _ au λc h=>?_);have u:a∉wr:=λz=>p (W.sub _ z)
  exact aW (fin c (h.mono λb f=>bU _ f) (S.kept λo e=>h.heap a o u e))
 |n::r,i,k,s,hr,hi,au,S,fin=>by
  have j:i<N:=by
   have:=congrArg List.length hr;simp at this;lia
  have x:d.getD i 0=n/\n∈d/\d.drop (i+1)=r:=by
   have A:d[i]?=some n:=by
    have:=congrArg (λl:List Nat=>l[0]?) hr
    simpa using this
   refine⟨by rw[cJ,A];rfl,ew A,?_⟩;rw[←CD,hr]
   rfl
  have u:a∉wr:=λz=>p (W.sub _ z)
  refine yi RO ?_;rw[OB ET _];refine ag (m:=pyNext (.ref it)) (W.item i s _ _ j au λv c pv y h=>?_);obtain⟨t,rfl⟩:=g i v pv;rw[x.1];refine ag (m:=holding [Value.int (n:Int) t] (setAdd a (.int (n:Int) t))) (jz ?_);unfold setAdd;refine jz (ag (wpAny_pyHash_int ?_));refine Ga (s:={c with toks:=c.toks+1}) (small n x.2.1) (S.kept λo e=>h.heap a o u e) λJ b sb H=>?_
  refine aW ⟨plainId_quiet ET _,xk W a p d I small g r (i+1) _ _ x.2.2 j (W.frame _ c _ _ y (tJ _) λb f o e=>?_) H λE q C=>?_⟩
  ·rw[sb.2 b (λz:b=a=>p (z ▸ f))];exact e
  ·refine fin E (Moved.trans W.gtrans ((h.mono λb f=>bU _ f).then_heap (tJ _) λb o f e=>?_) q) C;rw[sb.2 b (λz:b=a=>f (z ▸ dB))];exact e
end
noncomputable def iC(w:World):Obj:={ cls:=.type "set",dict:=none,data:=.set #[] 0 (.fresh 0 0 (!w.params.followText "set-order")) }
theorem Hb{s:Shared}(x:Value){W:Value->Shared->Prop}(a:W (.ref s.heap.objs.size) {s with heap:=s.heap.push (iC w)}):
  codeAny (model P w) B (.call (.builtin "set.__new__") ⟨[.type "set",x],[]⟩) (wants W E) s:=by
 refine codeAny_call_builtin_code (plainId_quiet F.plain_set_new _) (wpAny_of_eq (F.newCall_set_1 x) (yi F.entry_set_new ?_));rw[OB F.plain_set_new _];have sub:=sub_set_self;unfold Builtin.«set.__new__» Builtin.Frozenset.newClass;obtain⟨c,g,d,b,os⟩:=s
 wp_walk
 refine yk (aW ?_);simp only[newObj];exact ag (wpAny_alloc (aW (aW a)))
theorem Hc{h:Heap}(e:h.get? a=some (iC w)):Sn w h a []:=
 ⟨_,#[],0,_,e,⟨rfl,rfl,rfl⟩,rfl,⟨List.Pairwise.nil,rfl,λy b=>(by cases b),rfl⟩,.inl rfl,rfl,rfl,(by show 0*5<7*3;decide),⟨λe c=>(by cases c),N0 _,mX⟩⟩
section
variable {P:Program}{w:World}{B:Around}{E:Value->Shared->Prop}{s:Shared}
theorem Ix{l:Addr}{a:List Value}{f:List Nat}{W:Value->Shared->Prop}(hh:B.handled=none)(H:s.heap.IsList l a.toArray)(X:IntsAre a (f.map λ(n:Nat)=>(n:Int)))(small:∀n∈f,n<64)
  (A:∀(g:Heap) (y:Nat),Sn w g s.heap.objs.size (met f [])->(∀b o,s.heap.get? b=some o->g.get? b=some o)->W (.ref s.heap.objs.size) {s with heap:=g,toks:=y}):
  wpAny (model P w) B (call (.type "set") [.ref l]) W E s:=by
 have G:a.length=f.length:=by simpa using X.length
 obtain⟨c,tl,a0⟩:=pA.mro;have I:=pA.made;have S:=pA.sub;have h1:=pA.notType;have h2:=pA.canCreate;have a4:=F.typeCall_set_1 (.ref l);refine wpAny_call (codeAny_of_tree (show wpAny _ _ (callAny (.type "set") _) _ _ _ from aW ⟨Code.quiet_builtin _ (by decide +kernel),yi F.entry_type_call ?_⟩))
 rw[Around.under_plain (weight_type_call_type "set" [.ref l] []) rfl]
 repeat (any_goals (first|assumption|wp_step))
 refine rf (Hb (w:=w) (.ref l) (E:=E) (W:=λv Q=>v=.ref s.heap.objs.size/\Q={s with heap:=s.heap.push (iC w)}) ⟨rfl,rfl⟩) λr Q k=>?_
 match r,k with
 |.error e,k=>exact k
 |.ok (.ret v),k=>
  obtain⟨rfl,rfl⟩:=k;have U:(s.heap.push (iC w)).get? s.heap.objs.size=some (iC w):=fY _ rfl;have ty:Shared.TypeIs { s with heap:=s.heap.push (iC w) } (.ref s.heap.objs.size) "set":=⟨_,U,rfl⟩
  have a1:=pA.init.lookup;have a2:=pA.init.bind (.ref s.heap.objs.size)
  repeat (any_goals (first|assumption|wp_step))
  refine rf (Ox (R:=wants (λv q=>v=.none/\∃g y,q={s with heap:=g,toks:=y}/\Sn w g s.heap.objs.size (met f [])/\∀b o,s.heap.get? b=some o->g.get? b=some o) E) pA.init.plain F.entry_set_init (check_set_init_1 ty ?body)) λr2 q d=>?_
  case body=>
   obtain⟨ol,u,j,nl,p⟩:=id H;obtain⟨oc,od,a3,C⟩:=ol;simp only at j p;subst j p;have m:(s.heap.push (iC w)).get? l=some { cls:=.type "list",dict:=od,data:=.seq a.toArray nl,slots:=C }:=dY _ u
   have h:(s.heap.push (iC w)).IsList l a.toArray:=⟨_,m,rfl,nl,rfl⟩
   have a6:=F.sub_list_set;have a5:=F.sub_list_frozenset;have ne:(Value.type "list"==Value.type "dict")=false:=by decide
   unfold Builtin.«set.__init__» noKeywords Builtin.Frozenset.updateFrom;generalize hPI:pyIter=PI
   wp_walk
   subst hPI;have Y:l<s.heap.objs.size:=cZ u;have J:(s.heap.push (iC w)).objs.size=s.heap.objs.size+1:=CB ..
   refine CQ h (ag (wpAny_runValue ?_))
   refine xk ((Walks.list (by simp[hh]) _ l (dJ (by rw[J];exact tS Y)) a.toArray).toS) s.heap.objs.size (λz=>by
    rw[J] at z;rcases ca.mp z with z|z
    ·exact dJ (yo _) z
    ·exact tN Y (et.mp z)) f (by simp[G]) small (λi v hv=>?_) f 0 [] _ rfl (gX _) ⟨⟨_,fY _ rfl,rfl,rfl⟩,h.push _⟩ (Hc (dY _ U)) λq mv S2=>?_
   ·obtain⟨t,e⟩:=IntsAre.int_at X i v (by simpa using hv);refine⟨t,e.trans ?_⟩
    congr 1
    rw[cJ,fM,cJ];cases f[i]?<;>rfl
   ·rw[Moved.eq_with mv];refine aW (aW ⟨rfl,q.heap,q.toks,rfl,S2,λb o e=>?_⟩);have lt:=cZ e
    exact mv.heap b o (λz=>by
     rw[J] at z;rcases ca.mp z with z|z
     ·exact dJ lt z
     ·exact dJ (tS lt) (et.mp z)) (dY _ (dY _ e))
  match r2,d with
  |.error e,d=>exact d
  |.ok (.ret v),d=>
   obtain⟨rfl,g,y,rfl,S',x⟩:=d
   repeat (any_goals (first|assumption|wp_step))
   exact A _ _ S' x
end
end St
namespace St
theorem wn:Manifest.owners.lookup (String.ofList ("rotareti_tes".toList).reverse)=some Manifest.sig_set_iterator:=by kernel_rfl
theorem sP:Slot "set_iterator" "__next__" "set_iterator.__next__":=by
 refine Slot.of (owner:="set_iterator") (n:="__next__") ?_ (by decide +kernel) (by decide +kernel) (by decide +kernel) ?_ ?_
 ·rw[typeLookup_type,builtinLookup_eq_fast]
  kernel_rfl
 ·first
   |exact .inl (by decide +kernel)
   |exact .inr (by decide +kernel)
 ·rw[isSubtype_type]
  kernel_rfl
theorem Qs:entryFor table "set_iterator.__next__"=some Builtin.«set_iterator.__next__»:=entryFor_of_tree (by kernel_rfl)
theorem xz(a:Value):argsOk "set_iterator.__next__" ⟨[a],[]⟩:=by
 unfold argsOk;rw[signature?_of (id:="set_iterator.__next__") (n:="__txen__".toList) (o:="rotareti_tes".toList) (by kernel_rfl) wn]
 kernel_rfl
theorem xN:Slot "set_iterator" "__iter__" "set_iterator.__iter__":=by
 refine Slot.of (owner:="set_iterator") (n:="__iter__") ?_ (by decide +kernel) (by decide +kernel) (by decide +kernel) ?_ ?_
 ·rw[typeLookup_type,builtinLookup_eq_fast]
  kernel_rfl
 ·first
   |exact .inl (by decide +kernel)
   |exact .inr (by decide +kernel)
 ·rw[isSubtype_type]
  kernel_rfl
theorem MF:entryFor table "set_iterator.__iter__"=some Builtin.«dict_keyiterator.__iter__» :=
 entryFor_alias (id':="dict_keyiterator.__iter__") (by kernel_rfl) rfl (by decide +kernel) (by kernel_rfl)
theorem Km(a:Value):argsOk "set_iterator.__iter__" ⟨[a],[]⟩:=by
 unfold argsOk;rw[signature?_of (id:="set_iterator.__iter__") (n:="__reti__".toList) (o:="rotareti_tes".toList) (by kernel_rfl) wn]
 kernel_rfl
theorem Lz:entryFor table "set.__iter__"=some Builtin.«frozenset.__iter__» :=
 entryFor_alias (id':="frozenset.__iter__") (by kernel_rfl) rfl (by decide +kernel) (by kernel_rfl)
noncomputable def At(h:Heap) (a:Addr) (d:Array (Int×Value)) (c:Nat) (t:SetTable):Prop:=∃b,h.get? a=some b/\b.ExactSet/\b.data=.set d c t
theorem At.kept{h':Heap}(x:At h a es ep t)(k:∀o,h.get? a=some o->h'.get? a=some o):At h' a es ep t:=
 let ⟨ob,e,r⟩:=x;⟨ob,k _ e,r⟩
theorem At.is{s:Shared}(x:At s.heap a es ep t):s.TypeIs (.ref a) "set":=let ⟨ob,e,c,_⟩:=x; ⟨ob,e,c.1⟩
theorem At.lt(x:At h a es ep t):a<h.objs.size:=let ⟨_,e,_⟩:=x;cZ e
noncomputable def ord(w:World) (a:Addr) (b:Array (Int×Value)) (c:Nat):Array (Int×Value):=if w.params.followText "set-order"=true then pickOrder (w.params.setOrder a c) b else b
theorem Qv(w:World)(a:Addr)(b:Array (Int×Value))(c:Nat):(ord w a b c).toList.Perm b.toList:=by
 unfold ord;split
 ·exact NP _ _
 ·exact N0 _
theorem BK(w:World)(a:Addr)(b:Array (Int×Value))(c:Nat):(ord w a b c).size=b.size:=by
 have:=(Qv w a b c).length_eq
 simpa using this
noncomputable def slotAt(w:World) (t:SetTable):Nat->Nat
 |0=>0
 |i + 1=>if w.params.followText "set-order"=true then 0 else t.place.getD i 0 + 1
theorem Rs{w:World}(h:w.params.followText "set-order"=true)(t:SetTable):∀ i,slotAt w t i=0
 |0=>rfl
 |i+1=>if_pos h
theorem QE{w:World}(h:¬ w.params.followText "set-order"=true)(t:SetTable)(i:Nat):slotAt w t (i + 1)=t.place.getD i 0 + 1:=if_neg h
theorem Ud{w:World}(h:¬ w.params.followText "set-order"=true){t:SetTable}(up:Up t.place):∀ i,i<=t.place.size->SetTable.below t.place (slotAt w t i)=i
 |0,_=>TC up
 |i+1,hi=>by rw[QE h];exact TB up (by lia)
theorem xp{s:Shared}(x:At s.heap a es ep t)(T:Tt w es t ks)(n:i<=es.size)(b:Q (((ord w a es ep)[i]?).map λe=>(e.2,slotAt w t (i+1))) s):
  wpAny (model P w) B (setNext a (slotAt w t i) i ep) Q E s:=by
 obtain⟨l,g,j,d⟩:=x;unfold setNext setsByText;refine ag (CP g d T.fits ?_);dsimp only;refine ag (ag (yk (aW ?_)));show wpAny _ _ (if w.params.followText "set-order"=true then _ else _) _ _ _
 by_cases hb:w.params.followText "set-order"=true
 ·rw[Rs hb] at b;rw[if_pos hb,if_neg (by simp),Rs hb];unfold setWalk setsByText;refine ag (ag (CP g d T.fits ?_));dsimp only;refine ag (ag (yk (aW ?_)));show wpAny _ _ (if w.params.followText "set-order"=true then _ else _) _ _ _
  rw[if_pos hb];refine ag (yk (aW (aW ?_)));unfold ord at b;rw[if_pos hb] at b;exact b
 ·rw[if_neg hb];have k:t.led=true:=by rw[T.ld];simpa using hb
  have m:=T.sz;refine yh (λz=>?_) (λ_=>?_)
  ·change (!t.plain&&_)=true at z
   rw[T.tb.pl] at z;cases z
  refine ag (yh (λz=>?_) (λ_=>aW ?_))
  ·change (!t.led&&_)=true at z
   rw[k] at z;cases z
  rw[Ud hb T.tb.up i (by lia)];unfold ord at b;rw[if_neg hb,QE hb] at b;by_cases c:i<es.size
  ·rw[mm c] at b ⊢;have f:i<t.place.size:=by lia
   rw[mm f];have h:t.place.getD i 0=t.place[i]:=by
    rw[lO,mm f]
    rfl
   rw[h] at b;exact aW b
  ·rw[yA (by lia)] at b ⊢;exact aW b
def hX(w:World) (h:Heap) (c a:Addr) (i n b:Nat) (t:SetTable):Prop:=∃ o,h.get? c=some o/\o.cls=.type "set_iterator"/\o.data=.fields #[.int (slotAt w t i:Nat) 0,.int i 0,.ref a,.int n 0,.int b 0]
theorem hX.kept{h':Heap}(x:hX w h it a i n ep t)(k:∀o,h.get? it=some o->h'.get? it=some o):hX w h' it a i n ep t:=
 let ⟨o,e,r⟩:=x;⟨o,k _ e,r⟩
theorem hX.is{s:Shared}(x:hX w s.heap it a i n ep t):s.TypeIs (.ref it) "set_iterator":=let ⟨o,e,c,_⟩:=x; ⟨o,e,c⟩
noncomputable def Wb(a:Addr) (n b:Nat):Obj:={ cls:=.type "set_iterator",data:=.fields #[.int 0 0,.int 0 0,.ref a,.int n 0,.int b 0] }
theorem Jj{s:Shared}{W:Value->Shared->Prop}(x:At s.heap a es ep t)(T:Tt w es t ks)(b:W (.ref s.heap.objs.size) {s with heap:=s.heap.push (Wb a es.size ep)}):wpAny (model P w) B (pyIter (.ref a)) W E s:=by
 obtain⟨f,d,e,c⟩:=id x;refine Ob x.is F.slot_set_iter (lE F.slot_set_iter x.is Lz ?body (F.args_set_iter_1 _))
 case body=>
  unfold Builtin.«frozenset.__iter__» Builtin.Frozenset.sizeOf;refine ag (m:=Builtin.Frozenset.slot0 "__iter__" _) (aW (ag (ag (Os d c T.fits (aW ?_)))))
  unfold setDrawn setsByText;refine ag (ag (CP d c T.fits ?_));dsimp only;refine ag (ag (yk (aW (aW ?_))));refine yh (λz=>?_) (λ_=>ag (aW ?_))
  ·change (_&&(!t.plain&&_))=true at z
   rw[T.tb.pl] at z;simp at z
  refine ag (wpAny_setEpoch_of d c T.fits ?_);unfold newFields;exact ag (mi (aW ⟨_,rfl, "set_iterator",_,⟨_,fY _ rfl,rfl⟩,sP.lookup,b⟩))
theorem HU{h:Heap}{o:Obj}{i n b:Nat}(j:h.get? it=some o)(g:o.cls=.type "set_iterator")(e:o.data=.fields #[.int (slotAt w t i:Nat) 0,.int i 0,.ref a,.int n 0,.int b 0]):
  hX w ((h.update it (Obj.mapFields (·.setIfInBounds 0 (rawInt (slotAt w t (i+1):Nat))))).update it (Obj.mapFields (·.setIfInBounds 1 (rawInt ((i:Int)+1))))) it a (i+1) n b t:=by
 have d:=rE e (·.setIfInBounds 0 (rawInt (slotAt w t (i+1):Nat)));have f:=pQ _ j (yy d);have c:=rE d (·.setIfInBounds 1 (rawInt ((i:Int)+1)));refine⟨_,pQ _ f (yy c),(CU ..).trans ((CU ..).trans g),?_⟩;rw[c];simp[rawInt]
theorem Ji{s:Shared}{W:Option Value->Shared->Prop}(x:At s.heap a es ep t)(T:Tt w es t ks)(f:hX w s.heap it a i es.size ep t)(j:(ord w a es ep)[i]?=some e)
  (d:∀g:Heap,hX w g it a (i+1) es.size ep t->Heap.SameBut it s.heap g->W (some e.2) {s with heap:=g}):wpAny (model P w) B (pyNext (.ref it)) W E s:=by
 obtain⟨q,b,k,c⟩:=id f;obtain⟨r,p,o,n⟩:=id x;have lt:i<es.size:=by
  have:=(SJ.mp j).1
  rwa [BK] at this
 unfold pyNext;refine ag (ye (wpAny_callSpecial?_slot (name:=Str.ofString "__next__") f.is sP (lE sP f.is Qs ?body (xz _))))
 case body=>
  refine ag (m:=slotArgs "__next__" 0 _) (aW (ag (CA b c ?_)))
  refine ag (Os p n T.fits ?_);rw[if_neg (by simp)];refine ag (m:=setNext a (slotAt w t i) i ep) (xp x T (dj lt) ?_);rw[j];dsimp only[Option.map];refine ag (rk b c (by simp) ?_);have h:=rE c (·.setIfInBounds 0 (rawInt (slotAt w t (i+1):Nat)));have l:=pQ _ b (yy h);refine ag (rk l h (by simp) ?_);exact aW ⟨_,rfl,aW (d _ (HU b k c) ((ng ..).trans (ng ..)))⟩
theorem GV{B:Around}{s:Shared}{W:Option Value->Shared->Prop}(j:B.handled=none)(x:At s.heap a es ep t)(T:Tt w es t ks)(d:hX w s.heap it a i es.size ep t)(l:i=es.size)
  (c:∀g:Heap,Heap.ExtBut it s.heap g->W none {s with heap:=g}):wpAny (model P w) B (pyNext (.ref it)) W E s:=by
 obtain⟨p,e,o,f⟩:=id d;obtain⟨q,n,k,h⟩:=id x;unfold pyNext;refine ag (ye (wpAny_callSpecial?_slot (name:=Str.ofString "__next__") d.is sP (lE sP d.is Qs ?body (xz _))))
 case body=>
  refine ag (m:=slotArgs "__next__" 0 _) (aW (ag (CA e f ?_)))
  refine ag (Os n h T.fits ?_);rw[if_neg (by simp)];refine ag (m:=setNext a (slotAt w t i) i ep) (xp x T (gQ l) ?_);rw[yA (by rw[BK];lia)];dsimp only[Option.map];refine ag (rk e f (by simp) (ag ?_));simp only[newExc,newTuple];refine ag (mi (ag (m:=firstArgMember _ _) (wpAny_of_eq (a:=Value.none) (by first|rfl|(simp only[firstArgMember];rfl)) (mi ?_ (by size_fits)))) (by size_fits));simp only[raiseNew];refine ag (wpAny_handled ?_);rw[show B.in1.handled=none from j];refine ag (aW (wpAny_throw ?_));refine ag (wpAny_isInstance (T:="StopIteration") (b:=true) ?ty isSubtype_stop (aW (c _ (((ng ..).extBut.push _).push _))))
  exact⟨_,fY _ rfl,rfl⟩
theorem MR{B:Around}(x:B.handled=none)(s:a≠it)(T:Tt w es t ks):
  Walks P w B it [it,a] [it] es.size (λi v=>∃e,(ord w a es ep)[i]?=some e/\v=e.2) (λi h=>hX w h it a i es.size ep t/\At h a es ep t) where
 sub:=λb u=>ca.mpr (.inl (et.mp u))
 frame:=λ_ _ _ z l=>⟨z.1.kept λo e=>l it dB o e,z.2.kept λo e=>l a (bU _ (et.mpr rfl)) o e⟩
 item:=λi f n m y z d=>by
  have k:(ord w a es ep)[i]?=some ((ord w a es ep)[i]'(by rw[BK];exact y)):=mm _;exact Ji z.2 T z.1 k λg p q=>d _ g f.toks ⟨_,k,rfl⟩ ⟨p,z.2.kept λo e=>q.extBut a o s e⟩ λc o j e=>q.extBut c o (λr=>j (et.mpr r)) e
 done:=λf n m z d=>GV x z.2 T z.1 rfl λg b=>d g f.toks λc o j e=>b c o (λq=>j (et.mpr q)) e
 self:=λi f n m z d=>by
  refine Ob z.1.is xN (lE xN z.1.is MF ?_ (Km _));exact aW ⟨_,rfl, "set_iterator",_,z.1.is,sP.lookup,d⟩
theorem Jc{s:Shared}(d:s.TypeIs (.ref a) "set")(c:Q false s):wpAny (model P w) B (Builtin.List.listLengthHint (.ref a)) Q E s:=by
 unfold Builtin.List.listLengthHint;refine ag (wpAny_specialOf d F.slot_set_len.lookup ?_);generalize hid:("set.__len__" : String)=id0
 wp_delta
 rw[show splitId id0=some ("set","__len__") from by subst hid; decide +kernel]
 subst hid;refine ag (wpAny_isInstance (b:=true) d sub_set_self (yh (λz=>absurd z (by decide)) (λ_=>yh (λ_=>ag (wpAny_typeOf d (aW c))) (λz=>absurd (by decide +kernel) z))))
theorem Ib(T:Tt w es t ks):KdlSrc P w "set" a a es.size (λi v=>∃ e,(ord w a es ep)[i]?=some e/\v=e.2) (λh=>At h a es ep t) where
 type:=λ_ x=>x.is
 there:=λ_ x=>⟨x.lt,x.lt⟩
 keep:=λ_ _ x c=>x.kept λo e=>c a (.inl rfl) o e
 notList:=by decide
 notTuple:=by decide
 hint:=λ_ _ _ _ x b=>Jc x.is b
 iter:=λ_ f d x=>⟨_,_,λ_ _ b=>Jj x T b,MR d (dJ x.lt) T,⟨⟨_,fY _ rfl,rfl,rfl⟩,x.kept λo e=>dY _ e⟩⟩
end St
end L2
namespace L2
open Spec PyProof.Rows PySem.W
noncomputable def hJ(a:List Nat):List Int:=a.map λ(n:Nat)=>(n:Int)
def oD(w:World) (q:Addr) (a:List Nat):HO:=.ext λh=>St.Sn w h q a
def pW(w:World) (K:Fg):List V->Hp->VK->Prop:=λb H Q=>∃(l:Addr) (a:List Nat),b=[.ref l]/\dr K H l ((hJ a).map V.int)/\(∀n∈a,n<64)/\∀q,H q=none->Q (.ref q) (bf H q (oD w q (St.met a [])))
theorem M3{X:Cx}(n:X.calm=true):bN X (.type "set") (pW X.w X.K):=by
 intro v s C H y t Q I r h;obtain⟨l,j,rfl,i,small,q⟩:=h;obtain⟨u,rfl,m⟩:=vals1 r;cases m;obtain⟨f,d,p,w⟩:=I.list i;refine St.Ix (I.ok.hd n) p.isList (vb d) small λA c S b=>?_
 refine⟨.ref s.heap.objs.size,_,I.laid (a:=s.heap.objs.size) (o:=oD X.w s.heap.objs.size (St.met j [])) (t':=c) b (br _) ⟨S,?_,λE x z k=>z.kept k⟩,rfl,q _ (I.hok.fresh (br _))⟩;obtain⟨g,_,_,_,e,_⟩:=S;exact⟨g,e⟩
def i5(w:World):List V->Hp->VK->Prop:=λd H Q=>∃(a:Addr) (c:List Nat),d=[.ref a]/\H a=some (oD w a c) /\
 ∀(q:Addr) (b:List Int),H q=none->b.Perm (hJ c)->b.Pairwise (·<=·)->Q (.ref q) (bf H q (.lst (b.map V.int)))
theorem UN{X:Cx}(hc:X.calm=true):bN X (.builtin "sorted") (i5 X.w):=by
 intro aU s σ H xs us Q I r h;obtain⟨a,ks,rfl,ha,q⟩:=h;obtain⟨u,rfl,Y⟩:=vals1 r;cases Y;obtain⟨S,_,_⟩:=(show ba X.prog X.w H s.heap a (oD X.w a ks) from I.hok a _ ha)
 obtain⟨ob,k,f,t,ho,v,hd,T⟩:=S;have a0:=T.few;refine Srt.Sg (St.Ib (P:=X.prog) (ep:=f) T) (I.ok.hd hc) ⟨ob,ho,v,hd⟩ (cM (by lia)) λvs hl hv=>?_
 have m:=St.Qv X.w a k f;have j:vs=(St.ord X.w a k f).toList.map (·.2):=by
  apply tT;intro i;by_cases hi:i<k.size
  ·have x:vs[i]?=some vs[i]:=bV (by lia);obtain⟨e,A,h3⟩:=hv i _ x;rw[x,h3,fM,gU,A]
   rfl
  ·rw[oq (by lia),oq (by rw[bj,fZ,St.BK];lia)]
 generalize hL:(St.ord X.w a k f).toList=L at m j;have E:=T.el.of_perm m;have l:am ((L.map (·.1)).map V.int) vs:=by
  rw[j,eS];refine Ez λe he=>?_
  obtain⟨n,t2,hn,rfl⟩:=E.all e he;exact⟨t2,rfl⟩
 have ln:(L.map (·.1)).length=k.size:=by
  rw[bj,m.length_eq,fZ]
 refine⟨Srt.dL (ones (L.map (·.1))),KS l,λA g J d=>KH (by lia) l,λp b g J c w G d z U=>?_⟩;have lv:vs.length=(L.map (·.1)).length:=by lia
 rw[lv] at w G;obtain⟨y,C,q2,q3⟩:=L7 l w G;refine⟨.ref b,_,I.laidN (o:=.lst (y.map V.int)) d z ⟨?_,_,c,q3,by simpa using U⟩,rfl,q b y (I.away z) (C.trans E.perm) q2⟩;rw[bj,C.length_eq,ln];exact cM (by lia)
end L2
namespace Dd
open L2 PyProof.Rows
noncomputable def hG:List Int->List Int
 |[]=>[]
 |n::l=>if n∈l then hG l else n::hG l
theorem uT:∀{l:List Int},k∈hG l↔k∈l
 |[]=>Iff.rfl
 |n::l=>by
  unfold hG;split
  ·rename_i h;rw[uT (l:=l),ca];exact⟨.inr,λz=>z.elim (λe=>e ▸ h) id⟩
  ·rw[ca,ca,uT (l:=l)]
theorem Bs:∀l:List Int,(hG l).Nodup
 |[]=>mX
 |n::l=>by
  unfold hG;split
  ·exact Bs l
  ·rename_i h;exact g7.mpr ⟨λz=>h (uT.mp z),Bs l⟩
theorem DK:∀{l b:List Nat},k∈St.met l b↔k∈l\/k∈b
 |[],b=>by simp[St.met]
 |n::l,b=>by
  unfold St.met;rw[DK (l:=l),ca];split
  ·rename_i h;exact⟨λz=>z.elim (λa=>.inl (.inr a)) .inr,λz=>z.elim (λa=>a.elim (λe=>.inr (e ▸ h)) .inl) .inr⟩
  ·rw[ca];exact⟨λz=>z.elim (λa=>.inl (.inr a)) (λa=>a.elim (λe=>.inl (.inl e)) .inr),λz=>z.elim (λa=>a.elim (λe=>.inr (.inl e)) .inl) (λa=>.inr (.inr a))⟩
theorem qV:∀{l a:List Nat},a.Nodup->(St.met l a).Nodup
 |[],a,h=>h
 |n::l,a,h=>by
  unfold St.met;split
  ·exact qV h
  ·rename_i c;exact qV (g7.mpr ⟨c,h⟩)
theorem Jx{l:List Nat}(h:l.Nodup):(hJ l).Nodup:=by
 unfold hJ;rw[yD] at h ⊢;exact Oe.mpr (h.imp λa e=>a (by lia))
theorem LP:(hJ (St.met ns [])).Perm (hG (hJ ns)):=by
 refine(SI (Jx (qV mX)) (Bs _)).mpr λk=>?_
 rw[uT];unfold hJ;rw[bS,bS];constructor
 ·rintro⟨n,h,rfl⟩;exact⟨n,(DK.mp h).elim id (λz=>by cases z),rfl⟩
 ·rintro⟨n,h,rfl⟩;exact⟨n,DK.mpr (.inl h),rfl⟩
noncomputable def gw(n:Int):Bool:=decide (0<=n)&&decide (n<64)
theorem Ue{l:List Int}(h:l.all gw=true):∃b:List Nat,l=hJ b/\∀n∈b,n<64:=by
 refine⟨l.map Int.toNat,?_,λn a=>?_⟩
 ·unfold hJ;rw[eS];refine(x9 l).symm.trans (lI λn a=>?_);have:=dW.mp h n a;simp[gw] at this;show n=((n.toNat:Nat):Int)
  lia
 ·obtain⟨m,c,rfl⟩:=bS.mp a;have:=dW.mp h m c;simp[gw] at this;lia
def dR:List D->ab->bu D:=λb a=>match b with
 |[x]=>match (fw a x).bind bP with
  |some l=>if l.all gw=true then .ok (.lst ((sortI (hG l)).map .int)) a else .stuck
  |none=>.stuck
 |_=>.stuck
def SQ(w:World) (K:Fg):List V->Hp->VK->Prop:=λa H Q=>pW w K a H λu H1=>i5 w [u] H1 Q
theorem Tw{w:World}{K:Fg}:jh K dR (SQ w K):=λG H I C E z x Q g i e q=>by
 unfold dR at e;split at e
 ·obtain⟨u,rfl,a⟩:=i.one;split at e
  ·rename_i l f;obtain⟨A,k,f⟩:=rJ.mp f;split at e
   ·rename_i s;cases e;obtain⟨p,y,rfl,n,v⟩:=lU g a k;have e:=qr v f;subst e;obtain⟨h,rfl,small⟩:=Ue s;refine⟨p,h,rfl,dr.of n,small,λb c=>⟨b,_,rfl,zy,λt r d m o=>?_⟩⟩;have j:r=sortI (hG (hJ h)):=MG (m.trans LP) o;subst j;exact q _ _ _ ((bF.new c _).trans (bF.new d _)) ((g.new c _).new d _) (.newL (g.new c _) d (uS _))
   ·cases e
  ·cases e
 ·cases e
theorem FA{X:Cx}(o:X.calm=true)(r:jh X.K g (SQ X.w X.K))(j:Gl X x)(a:X.mg x=none)(c:bootBuiltins x=some (.builtin "sorted"))(l:Gl X y)(d:X.mg y=none)(i:bootBuiltins y=some (.type "set"))(q:JA X [e] f)
  (n:x≠"__name__":=by decide)(b:(x==("__debug__" : Str))=false:=by decide)(k:y≠"__name__":=by decide)(m:(y==("__debug__" : Str))=false:=by decide)(t:fi e=true:=by rfl):
  JE X (.Call (.Name x p) [.Call (.Name y p2) [e] [] pos2] [] pos) (aE g f):=
 ⟨fK (Qx (UN o) j a c (xF (Ri (M3 o) l d i q.out k m (RW t)) wo) n b) λs H Q h=>qC r s H Q h⟩
end Dd
namespace L2
open Spec PyProof.Rows PySem.W
end L2
namespace Dd
open L2 PyProof.Rows
end Dd
namespace L2
open Spec PyProof.Rows
end L2
namespace Dd
open L2 PyProof.Rows
end Dd
namespace L2
open Spec PyProof.Rows
end L2
namespace Dd
open L2 PyProof.Rows
end Dd
namespace L2
open Spec PyProof.Rows
end L2
namespace Dd
open L2 PyProof.Rows
end Dd
namespace L2
open Spec PyProof.Rows
end L2
namespace L2
open Spec PyProof.Rows Builtin Builtin.ObjectAttr
end L2
namespace L2
open Spec PyProof.Rows
end L2
namespace Dd
open L2 PyProof.Rows
end Dd
namespace L2
open Spec PyProof.Rows
end L2
namespace Dd
open L2 PyProof.Rows
end Dd
namespace L2
open Spec PyProof.Rows
end L2
namespace Dd
open L2 PyProof.Rows
end Dd
namespace L2
open Spec PyProof.Rows
end L2
namespace Dd
open L2 PyProof.Rows
end Dd
namespace L2
open Spec PyProof.Rows
def yU(_K:Fg):V->List V->Hp->VK->Prop:=λx c H Q=>∃(a:Addr) (k:cA) (v:V) (b:List (cA×V)),x=.ref a/\c=[kV k,v]/\H a=some (.dK b)/\b.length<sizeLine /\
 (∀u,cu b k=some u->Q u H)/\(cu b k=none->Q v (bf H a (.dK (d4 b k v))))
theorem Jw: Dp X "dict.setdefault" (yU X.K):=by
 intro aU s σ H x xs v us Q I A p h;obtain⟨a,k,d,b,rfl,rfl,e,hl,U,G⟩:=h;cases A;obtain⟨u,r,rfl,C,m⟩:=vals2 p;obtain⟨z,n,l,f,o⟩:=qE I.hok e;have S:l.length<=sizeLine:=by rw[←f.length];exact z
 have j:(d4 b k d).length<=sizeLine:=by have:=E1 b k d;lia
 refine ya SL o.typeIs F.entry_dict_setdefault (F.args_dict_setdefault_3 _ _ _) (kt_meets_setdefault (aZ X.prog X.w) a (ju C) n r) ⟨l,o,S,λw J=>?_,λt P i E=>?_⟩
 ·have c:=f.val k;rw[J] at c;cases g:cu b k with
  |none=>rw[g] at c;exact c.elim
  |some y=>rw[g] at c;exact⟨y,H,I.tok _,c,U y g⟩
 ·have g:cu b k=none:=by
   have c:=f.val k;rw[t] at c;cases g:cu b k with
   |none=>rfl
   |some y=>rw[g] at c;exact c.elim
  have Y:∃q,P.get? a=some q:=let ⟨q,_,_,hq,_⟩:=i;⟨q,hq⟩
  exact⟨d,_,uA I (by rw[e];exact True.intro) E Y (qR j n (f.put k m) i),m,G g⟩
def mB(d:List V) (H:Hp) (Q:VK):Prop:=∃(a:Addr) (n:Int) (c:List Int) (b:List (cA×V)),d=[.ref a]/\Rd H a (.dK b)/\b.map (·.1)=(n::c).map Sum.inl/\Q (.int (cG true n c)) H
theorem TL{X:Cx}(hc:X.calm=true):bN X (.builtin "max") mB:=by
 intro aU s σ H xs us Q I r h;obtain⟨a,n,d,j,rfl,e,ek,q⟩:=h;obtain⟨u,rfl,ru⟩:=vals1 r;cases ru;obtain⟨z,hd,c,E,dd⟩:=jt I.hok e;obtain⟨ep,J⟩:∃ep,s.heap.DictAt (aZ X.prog X.w) a c ep:=by
  obtain⟨o,es,ep,h⟩:=dd;exact⟨ep,o,es,h⟩
 obtain⟨oI,St,l,W,au⟩:=(W.kdl_dict (prog:=X.prog) (w:=X.w) (knd:=aZ X.prog X.w) (kvs:=c) (ep:=ep) hd).iter X.A.in1 s (I.ok.hd hc) J;have P:c.map (·.1)=(n::d).map Sum.inl:=E.keys.symm.trans ek;have f:c.length=(n::d).length:=by have:=congrArg List.length P;simpa using this
 have g:∀i v,(∃k x,c[i]?=some (k,x)/\(aZ X.prog X.w).is k v=true)->∃t,v=.int ((n::d).getD i 0) t:=λi v C=>by
  obtain⟨k,x,hi,G⟩:=C;have S:(c.map (·.1))[i]?=some k:=by rw[fM,hi];rfl
  rw[P,fM] at S;obtain⟨y,Y,rfl⟩:=jE.mp S;rw[cJ,Y];rcases mW (show gE (Sum.inl y) v=true from G) with⟨i,t,m,rfl⟩|⟨x,t,m,rfl⟩
  ·cases m;exact⟨t,rfl⟩
  ·cases m
 have p:a<s.heap.objs.size:=J.lt_size;refine call_max_walk (l _ _ ⟨s.heap.objs.size,_,_,_,_,St,_,rfl,W,au,λb hb=>?_,by rw[f];simp,CmpOf.ints_gt (λi=>(n::d).getD i 0) g,λv h' U hP G=>?_⟩)
 ·rw[CB];have A:b=s.heap.objs.size\/b=a:=by simpa using hb
  rcases A with z|z
  ·rw[z];exact yo _
  ·rw[z];exact tS p
 ·obtain⟨t,rfl⟩:=g _ _ hP;rw[f,TD (by simp)];exact⟨.int (cG true n d),H,I.kept (t':=U) λb u e=>G b u (by simp;exact dJ (cZ e)) (dY _ e),⟨_,rfl⟩,q⟩
def yV(_K:Fg):V->List V->Hp->VK->Prop:=λx c H Q=>∃(a:Addr) (k:cA) (v:V) (b:List (cA×V)),x=.ref a/\c=[kV k]/\H a=some (.dK b)/\cu b k=some v/\Q v (bf H a (.dK (di b k)))
theorem Jv: Dp X "dict.pop" (yV X.K):=by
 intro n s t H x p v j Q I g b h;obtain⟨a,k,d,c,rfl,rfl,e,l,q⟩:=h;cases g;obtain⟨u,rfl,i⟩:=b.one;exact Fz I e i l (.inl rfl) λm o f r=>⟨d,_,f,r,q⟩
end L2
namespace Dd
open L2 PyProof.Rows
noncomputable def eF(a:List (Int×D)) (k:Int):Option D:=(a.find? λb=>decide (b.1=k)).map (·.2)
noncomputable def kS(a:List (Int×D)) (k:Int) (v:D):List (Int×D):=
 if(a.any λb=>decide (b.1=k))=true then a.map (λb=>if b.1=k then(b.1,v) else b) else a++[(k,v)]
noncomputable def ii(a:List (Int×D)) (k:Int):List (Int×D):=a.filter λb=>decide (b.1≠k)
theorem rY:(Sum.inl a:cA)=Sum.inl b↔a=b:=⟨λe=>Sum.inl.inj e,λe=>by rw[e]⟩
section
variable {K:Fg}{ρ:Loc}{H:Hp}{kvs:List (Int×D)}{vs:List (cA×V)}
theorem ed.val(h:ed K ρ H kvs vs)(k:Int):match eF kvs k with
  |some d=>∃v,cu vs (Sum.inl k)=some v/\At K ρ H d v
  |none=>cu vs (Sum.inl k)=none:=by
 induction h with
 |nil=>rfl
 |@cons p q ps qs h t ih=>
  obtain⟨b,f⟩:=h;by_cases e:p.1=k
  ·have a:eF (p::ps) k=some p.2:=by simp[eF,lD,e]
   rw[a];exact⟨q.2,uY (by rw[b,e]),f⟩
  ·have a:eF (p::ps) k=eF ps k:=by simp[eF,lD,e]
   have c:cu (q::qs) (Sum.inl k)=cu qs (Sum.inl k):=uX (by rw[b,rY];exact e);rw[a,c];exact ih
theorem ed.keys(h:ed K ρ H kvs vs):vs.map (·.1)=(kvs.map (·.1)).map Sum.inl:=by
 induction h with
 |nil=>rfl
 |@cons p q ps qs h t ih=>rw[cr,cr,cr,ih,h.1]
theorem ed.put(h:ed K ρ H kvs vs)(k:Int){d:D}{v:V}(a:At K ρ H d v):ed K ρ H (kS kvs k d) (d4 vs (Sum.inl k) v):=by
 have b:∀{kvs:List (Int×D)}{vs:List (cA×V)},ed K ρ H kvs vs->(kvs.any λg=>decide (g.1=k))=(vs.any λg=>decide (g.1=Sum.inl k)):=λh=>by
  induction h with
  |nil=>rfl
  |@cons p q ps qs h t ih=>
   rw[ri,ri,ih,h.1]
   congr 1
   simp only[rY]
 unfold kS d4;rw[b h];split
 ·rename_i i;clear i b
  induction h with
  |nil=>exact .nil
  |@cons p q ps qs h t ih=>
   refine .cons ?_ ih;obtain⟨c,j⟩:=h;dsimp only;by_cases e:p.1=k
   ·rw[if_pos e,if_pos (by rw[c,e])];exact⟨c,a⟩
   ·rw[if_neg e,if_neg (by rw[c,rY];exact e)];exact⟨c,j⟩
 ·have f:∀{kvs:List (Int×D)}{vs:List (cA×V)},ed K ρ H kvs vs->ed K ρ H (kvs++[(k,d)]) (vs++[(Sum.inl k,v)]):=λh=>by
   induction h with
   |nil=>exact .cons ⟨rfl,a⟩ .nil
   |cons h t ih=>exact .cons h ih
  exact f h
theorem ed.drop(h:ed K ρ H kvs vs)(k:Int):ed K ρ H (ii kvs k) (di vs (Sum.inl k)):=by
 unfold ii di
 induction h with
 |nil=>exact .nil
 |@cons p q ps qs h t ih=>
  by_cases e:p.1=k
  ·rw[hE (by simp[e]),hE (by simp[h.1,e])];exact ih
  ·rw[gV (by simp[e]),gV (by simp[h.1,e])];exact .cons h ih
theorem ed.length(h:ed K ρ H kvs vs):kvs.length=vs.length:=rj h
end
section
variable {H:Hp}{vs:List (cA×V)}
theorem Br{p:Addr}(g:H p=some (.dK vs)):∀a u,H p≠some (.frz a u):=λa u z=>by rw[g] at z;cases z
end
def iG:SE:=λ_ a=>.ok (.ref a.length) (a++[.dI []])
def ko(f:SE) (g:SA):SE:=λc e=>(f c e).bind λx b=>match x with
 |.ref n=>match b[n]? with
  |some (.dI _)=>(g c b).bind λd a=>match d,a[n]? with
   |[.int k],some (.dI kvs)=>match eF kvs k with
    |some v=>.ok v (a.set n (.dI (ii kvs k)))
    |none=>.stuck
   |_,_=>.stuck
  |_=>.stuck
 |_=>.stuck
def fS(f:SE) (g:SA):SE:=λc h=>(f c h).bind λx b=>match x with
 |.ref n=>match b[n]? with
  |some (.dI _)=>(g c b).bind λe a=>match e,a[n]? with
   |[.int k,d],some (.dI kvs)=>if kvs.length<sizeLine then(match eF kvs k with
    |some v=>.ok v a
    |none=>.ok d (a.set n (.dI (kS kvs k d)))) else .stuck
   |_,_=>.stuck
  |_=>.stuck
 |_=>.stuck
def gI:List D->ab->bu D:=λb a=>match b with
 |[.ref n]=>match a[n]? with
  |some (.dI kvs)=>match kvs.map (·.1) with
   |k::ks=>.ok (.int (cG true k ks)) a
   |[]=>.stuck
  |_=>.stuck
 |_=>.stuck
def jc(f:SE):ST:=λc b=>(f c b).bind λv a=>match v with
 |.ref n=>match a[n]? with
  |some (.dI kvs)=>.ok (!kvs.isEmpty) a
  |_=>.stuck
 |_=>.stuck
theorem K1:JE X (.Dict [] [] pos) iG:=⟨fK Me λh H Q b p d=>by
 obtain⟨g,j,i,v,f,a,c,e,q⟩:=b;cases e;obtain⟨E,R⟩:=c.alloc d (x:=.dI []) (o:=.dK []) λE=>⟨[],zy,.nil⟩
 exact q _ _ _ E R (.last c.len.symm)⟩
section
variable {X:Cx}{o:Expr}{e:Expr}{a:Expr}{es:List Expr}{f:SE}{ga:SA}{apos:Pos}{cpos:Pos}
theorem IH(ho:JE X o f)(ha:JA X (e::es) ga)(d:attributeBase o "pop" X.env (eval o X.env)=eval o X.env:=by rfl)
  (g:((backTo cpos (starEach (e::es) X.env)).all (λx=>!x.1)&&(backToKw cpos (keywordEach [] X.env)).all (λx=>x.1.isSome)
   && decide ((e::es).length+([]:List Keyword).length+(if([]:List Keyword).isEmpty then 0 else 1)<30))=true:=by rfl)
  (c:(apos.endLine==cpos.line)=true:=by rfl)(hs:starEach (e::es) X.env=(false,eval e X.env)::starEach es X.env:=by rfl)(b:(backTo cpos (starEach es X.env)).any (·.1)=false:=by rfl):
  JE X (.Call (.Attribute o "pop" apos) (e::es) [] cpos) (ko f ga):=⟨fK (qJ De C8 F.type_dict_pop Jv ho.out ha.out d g c hs b) λτ H Q t=>by
 obtain⟨ρ,P,au,v,a6,a,rp,e,q⟩:=t;obtain⟨x,i,e1,e⟩:=za e;refine⟨ρ,P,au,x,i,a,rp,e1,λy H1 u G j S=>?_⟩;split at e
 ·rename_i n;split at e
  ·rename_i a5 h0;obtain⟨p,rfl,hp,a0,Y,_⟩:=iV j S h0 (by intro z;cases z);obtain⟨ys,s,e2,e⟩:=za e;refine⟨.inr (.inr (.inl ⟨rfl,.inl ⟨_,Y⟩⟩)),y,P,i,ys,s,a.ext G,j,e2,λl H2 ws C h a2=>?_⟩;split at e
   ·rename_i k a4 U;split at e
    ·rename_i z hv;cases e;obtain⟨w,rfl,a3⟩:=a2.one;cases a3;obtain⟨p',ep,m,A,r,J⟩:=iV h (S.ext C) U (by intro z;cases z);cases ep;have I:=J.val k;rw[hv] at I;obtain⟨vv,g5,g6⟩:=I;have E:bF l H2 l (bf H2 p (.dK (di A (Sum.inl k)))):=bF.wr m (Br r) _;exact⟨p,Sum.inl k,vv,A,rfl,rfl,r,g5,q _ _ _ ((G.trans C).trans E) (h.wr m (Br r) ⟨_,zy,(J.drop k).ext E⟩) (g6.ext E)⟩
    ·cases e
   ·cases e
  ·cases e
 ·cases e⟩
theorem K2(ho:JE X o f)(ha:JA X (e::es) ga)(h:attributeBase o "setdefault" X.env (eval o X.env)=eval o X.env:=by rfl)
  (m:((backTo cpos (starEach (e::es) X.env)).all (λx=>!x.1)&&(backToKw cpos (keywordEach [] X.env)).all (λx=>x.1.isSome)
   && decide ((e::es).length+([]:List Keyword).length+(if([]:List Keyword).isEmpty then 0 else 1)<30))=true:=by rfl)
  (g:(apos.endLine==cpos.line)=true:=by rfl)(hs:starEach (e::es) X.env=(false,eval e X.env)::starEach es X.env:=by rfl)(b:(backTo cpos (starEach es X.env)).any (·.1)=false:=by rfl):
  JE X (.Call (.Attribute o "setdefault" apos) (e::es) [] cpos) (fS f ga):=⟨fK (qJ De SL F.type_dict_setdefault Jw ho.out ha.out h m g hs b) λτ H Q a0=>by
 obtain⟨ρ,σ,au,v,a9,a,rp,e,q⟩:=a0;obtain⟨x,s,e1,e⟩:=za e;refine⟨ρ,σ,au,x,s,a,rp,e1,λa5 H1 u J t a1=>?_⟩;split at e
 ·rename_i n;split at e
  ·rename_i a8 h0;obtain⟨p,rfl,hp,a6,g0,_⟩:=iV t a1 h0 (by intro z;cases z);obtain⟨ys,S,e2,e⟩:=za e;refine⟨.inr (.inr (.inl ⟨rfl,.inl ⟨_,g0⟩⟩)),a5,σ,s,ys,S,a.ext J,t,e2,λA H2 ws I i a2=>?_⟩;split at e
   ·rename_i k d a7 hn;split at e
    ·rename_i r;obtain⟨w,w2,rfl,a3,a4⟩:=a2.two;cases a3;obtain⟨p',ep,C,G,P,U⟩:=iV i (a1.ext I) hn (by intro z;cases z);cases ep;have j:=U.val k;refine⟨p,Sum.inl k,w2,G,rfl,rfl,P,by rw[←U.length];exact r,λy c=>?_,λc=>?_⟩
     ·split at e
      ·rename_i z l;cases e;rw[l] at j;obtain⟨vv,Y,g6⟩:=j;rw[Y] at c;cases c;exact q _ _ _ (J.trans I) i g6
      ·rename_i l;rw[l] at j;rw[show cu G (Sum.inl k)=none from j] at c;cases c
     ·split at e
      ·rename_i z l;rw[l] at j;obtain⟨vv,Y,g6⟩:=j;rw[Y] at c;cases c
      ·rename_i l;cases e;have E:bF A H2 A (bf H2 p (.dK (d4 G (Sum.inl k) w2))):=bF.wr C (Br P) _;exact q _ _ _ ((J.trans I).trans E) (i.wr C (Br P) ⟨_,zy,(U.put k a4).ext E⟩) (a4.ext E)
    ·cases e
   ·cases e
  ·cases e
 ·cases e⟩
end
section
variable {e:Expr}{a:Expr}
theorem Ir{K:Fg}:jh K gI mB:=λr H t s o z m Q b c e q=>by
 unfold gI at e;split at e
 ·split at e
  ·rename_i n d f;split at e
   ·rename_i k i l;cases e;obtain⟨u,rfl,a⟩:=c.one;obtain⟨p,rfl,v,g,h,j⟩:=iV b a f (by intro z;cases z);exact⟨p,k,i,g,rfl,.inl h,by rw[j.keys,l],q _ _ _ (.refl _ _) b (.int _)⟩
   ·cases e
  ·cases e
 ·cases e
end
section
variable {X:Cx}{e:Expr}{a:Expr}{f:SE}
theorem Lg(h:JE X a f)(E:∀b,isTrue a X.env b=(do let v ←b;standAt a.pos;holding [v] (truthy v)):=by intro _;rfl):JT X a (jc f):=⟨kI (Qy h.out E) λS H Q j=>by
 obtain⟨A,t,I,v,G,i,J,e,q⟩:=j;obtain⟨x,k,s,e⟩:=za e;refine⟨A,t,I,x,k,i,J,s,λC H1 u m d y=>?_⟩;split at e
 ·rename_i n;split at e
  ·rename_i c l;cases e;obtain⟨p,rfl,P,g,o,r⟩:=iV d y l (by intro z;cases z);have w:c.isEmpty=g.isEmpty:=by
    have:=r.length;cases c<;>cases g<;>simp at this ⊢
   exact⟨_,.inr (.inr ⟨g,o,by rw[w]⟩),q _ _ m d⟩
  ·cases e
 ·cases e⟩
end
end Dd
namespace L2
open Spec PyProof.Rows
end L2
namespace Dd
open L2 PyProof.Rows
end Dd
namespace L2
open Spec PyProof.Rows
end L2
namespace Dd
open Spec PyProof.Rows L2
end Dd
namespace L2
open Spec PyProof.Rows PySem.W
end L2
namespace Dd
open Spec PyProof.Rows L2
end Dd
namespace Dd
open L2 PyProof.Rows
theorem sv{X:Cx}(b:X.N[i]?=some x:=by rfl)(d:uj X.env.scope x:=by first|exact Or.inl rfl|exact Or.inr (Or.inl rfl)|exact Or.inr (Or.inr rfl))(c:(x==("__debug__" : Str))=false:=by decide)
 (a:(x==("__classdict__" : Str))=false:=by decide):JE X (.Name x pos) (aA i):=iO (pv i b d c a)
theorem bx{X:Cx}(c:fD X.prog X.w X.K X.mg X.base x k ps F)(n:cq j X.A)(l:JA X (e::es) g)(i:∀f r v b,F f r=.ok v b->f.length=ps.length:=by exact λ_ _ _ _ h=>AW h)(o:k<=j:=by first|decide|lia)(m:Gl X x:=by rfl)
 (a:(x==("__debug__" : Str))=false:=by decide)(q:starEach (e::es) X.env=(false,eval e X.env)::starEach es X.env:=by rfl)(d:(backTo pos (starEach es X.env)).any (·.1)=false:=by rfl):JE X (.Call (.Name x p) (e::es) [] pos) (aE F g):=AT c i (n.mono o) m l a q d
theorem cL{X:Cx}{a:Pos}(d:X.N.Nodup)(g:JE X e f)(j:X.N[i]?=some x:=by rfl)(h:L2.Loc X.env.scope x:=by first|exact Or.inl rfl|exact Or.inr rfl)(c:swapsWith e (some (.Name x pos')) a.line X.env=pure false:=by rfl)(b:X.fn x=true\/X.env.scope.names.lookup x=some .local:=by first|exact .inl rfl|exact .inr rfl|assumption):
 JS X (.Assign [.Name x pos'] e a) (aF i f):=AU d j h g c b
theorem fI{X:Cx}(a:X.N.Nodup)(c:X.N[i]?=some x:=by rfl)(b:L2.Loc X.env.scope x:=by first|exact Or.inl rfl|exact Or.inr rfl)(d:X.fn x=true\/X.env.scope.names.lookup x=some .local:=by first|exact .inl rfl|exact .inr rfl|assumption):JG X (.Name x pos) (gN i):=jZ a c b d
theorem gx(f:JI X tg iter it)(d:JG X tg bd)(a:JB X body b)(g:PassesOwn (model X.prog X.w) X.A X.env X.xe:=by exact tO)(e:X.calm=true:=by rfl)(c:∀x,foldedSetIterable iter X.env x=pure x:=by intro _;rfl):
 JS X (.For tg iter body [] pos) (cb it bd b):=wY g e f d a c
theorem yP(N:List Str) (i:JI X (.Name x p) iter it)(h:∀b C d s H,JE (eV X N scope b C d s H) elt f)(c:N.Nodup:=by decide +kernel)(S:bG X N k is scope:=by exact lW (by rfl))(a:X.calm=true:=by rfl)
  (g:N.Nodup->∀b C d s H,JG (eV X N scope b C d s H) (.Name x p) (gN 0):=by exact λc _ _ _ _ _=>fI c)(e:∀x,foldedSetIterable iter X.env x=pure x:=by intro _;rfl):JE X (.ListComp elt [⟨.Name x p,iter,[],0⟩] scope pos) (aG it k is (gN 0) aI f):=
 o6 a i (g c) (λ_ _ _ _ _=>BD) h S e
theorem bp(b:JE X a f)(c:fi a=true:=by rfl):JA X [a] (aB f aC):=zh b jq c
theorem bB(c:JE X a f)(d:JE X b g)(h:fi a=true:=by rfl)(e:fi b=true:=by rfl):JA X [a,b] (aB f (aB g aC)):=zh c (bp d e) h
theorem ef(c:JE X a f)(d:JE X b g):JE X (.BinOp a .Add b pos) (aS aM f g):=eZ JP Hj c d
theorem iw(c:JE X a f)(d:JE X b g):JE X (.BinOp a .Sub b pos) (aS ce f g):=eZ Hw (ji λ_ _ _ _=>.int _) c d
structure En where
 P:Program
 w:World
 K:Fg
 mg:Str->Option Value
 base:Heap
 h:Heap
 X:K.In h
 G:h.Ns mainGlobals mg
abbrev Cl(Y:En) (x:Str) (k:Nat) (a:List Str) (F:cX):Prop:=fD Y.P Y.w Y.K Y.mg Y.base x k a F
section
variable {Y:En}{x:Str}{au:Stmt}{ps:List Str}{k:Nat}{b:SS}
theorem dQ(N:List Str)(T:ai Y.K x au)(g:N.Nodup->∀(f:Addr) (c:Value) (A:Around) (e:List Env) (s:Shared) (H:Hp) (E:XK),cq k (A.deeper (envOfC x (af au) s.heap.objs.size f c))->JB (gm jV Y.P Y.w Y.K Y.mg Y.base N x (af au) f c A e s H E).nox (bo au) b)
 (S:cm N ps (af au):=by exact⟨rfl,rfl,rfl,by decide +kernel,rfl,by decide +kernel,by decide +kernel⟩)
 (m:∀(kV h j:Value) (l:Option Addr) (c i:Value) (a:List Value),a.length=ps.length->bindArgs (W.fnOf x x (cy au) (bo au) (af au) .none kV h j l c i) ⟨a,[]⟩=pure (ps.zip a):=by
  first|exact λ_ _ _ _ _ _ a d=>zO a d λ_=>rfl|exact λ_ _ _ _ _ _ a d=>oK a d λ_ _=>rfl|exact λ_ _ _ _ _ _ a d=>zN a d λ_ _ _=>rfl|exact λ_ _ _ _ _ _ a d=>Pg a d λ_ _ _ _=>rfl|exact λ_ _ _ _ _ _ a d=>zP a d rfl):
 Cl Y x (k+1) ps (cC N.length ps.length b):=P2 T Y.X Y.G S m (g S.nd)
end
end Dd
namespace L2
open Spec PyProof.Rows PySem.W
end L2
namespace Dd
open L2 PyProof.Rows
end Dd
namespace L2
open Spec PyProof.Rows
end L2
namespace Dd
open L2 PyProof.Rows
end Dd
namespace L2
open Spec PyProof.Rows
end L2
namespace Dd
open L2 PyProof.Rows
end Dd
namespace L2
open Spec PyProof.Rows PySem.W
section
variable {K:Type}[DecidableEq K](knd:PySem.KeyKind prog w K)
variable {knd}
end
end L2
namespace Dd
open Spec PyProof.Rows PySem.W L2
end Dd
namespace Dd
open L2
def uZ:cX:=cC 5 2 (aD (aF 2 (eC (.int 0)))
 (aD (dZ (eB (aS fB (aA 1) (aE cz (aB (aA 0) aC)))) (aF 2 (aE k9 (aB (aS cn (aA 0) (aA 1)) aC))) eD)
 (aD (aF 3 (aS aM (aS bH (eC (.int 7919)) (aA 1)) (eC (.int 17))))
 (aD (cb (hU (aB (aE gH (aB (aE cz (aB (aA 0) aC)) (aB (eC (.int 60)) aC))) aC)) (gN 4) (aF 3 (aS fQ (aS aM (aS aM (aS bH (aA 3) (eC (.int 48271))) (aS fQ (aS cn (aA 0) (aA 4)) (eC (.int 2147483647)))) (aA 4)) (eC (.int 2147483629)))))
 (aD (dZ (eB (aS fB (aA 2) (aS Pd (eC (.int 10)) (eC (.int 18))))) (aF 2 (eC (.int 0))) eD)
 (aV (dA (aB (aA 2) (aB (aA 3) aC)))))))))
def zg:cX:=cC 5 2 (aD (dZ (eB (aS lQ (aS cn (aA 0) (eC (.int 0))) (eC (.int 0)))) (aD (aF 2 (aS fQ (aS cn (aA 0) (eC (.int 0))) (aA 1)))
 (aD (fg (aA 0) (eC (.int 0)) (aS gA (aS cn (aA 0) (eC (.int 0))) (aA 1)))
 (aV (aA 2)))) eD)
 (aD (aF 3 (eC (.int 0)))
 (aD (aF 4 (eC (.int 1)))
 (aD (dE (eB (aS fB (aA 4) (aA 1))) (aD (fg (aA 0) (eC (.int 1)) (aS fQ (aS aM (aS bH (aS cn (aA 0) (eC (.int 1))) (eC (.int 48271))) (eC (.int 7919))) (eC (.int 2147483647))))
 (aD (aF 3 (aS aM (aS bH (aA 3) (eC (.int 1073741789))) (aS fQ (aS bH (aS gA (aS cn (aA 0) (eC (.int 1))) (eC (.int 8))) (eC (.int 69621))) (eC (.int 1073741789)))))
 (aF 4 (aS bH (aA 4) (eC (.int 1073741789)))))))
 (aV (aS fQ (aA 3) (aA 1)))))))
def jX:cX:=cC 2 2 (dZ (eB (aS (iB false) (aA 1) (aA 0))) (bX (kq (aA 0) (aA 1))) (f6 (aA 0) (aA 1) (eC (.bl true))))
def E5:SS:=(f6 (aA 1) (aA 2) (k7 (iH (aA 1) (aA 2) (eC (.bl false)))))
def j4:cX:=cC 3 1 (aD (aF 1 eU)
 (aD (cb (aH (aA 0)) (gN 2) E5)
 (aV (aE bE (aB (aE bi (aB (aG (ig (aA 1)) 1 [1] (gN 0) (cW (aS eT (aA 1) (aA 0))) (aA 0)) aC)) aC)))))
def E9:SS:=(aF 2 (aS gA (aS bH (aA 2) (aS ce (aA 0) (aA 3))) (aS aM (aA 3) (eC (.int 1)))))
def tp:cX:=cC 4 2 (aD (aF 2 (eC (.int 1)))
 (aD (cb (hU (aB (aA 1) aC)) (gN 3) E9)
 (aV (aA 2))))
def E8:SS:=(dZ (eB (aS fJ (aS fQ (aE tp (aB (aS ce (aS ce (aA 1) (aA 3)) (eC (.int 1))) (aB (aS ce (aA 0) (aS bH (eC (.int 2)) (aA 3))) aC))) (eC (.int 2))) (eC (.int 1)))) (bX (bQ (aA 2) (aB (aE bE (aB (aG (aH (dO (aB (aS ce (aS aM (aA 0) (aA 1)) (aA 3)) (aB (aA 3) aC)))) 1 [] (gN 0) (eB (aS lQ (aA 0) (eC (.int 0)))) (aA 0)) aC)) aC))) eD)
def u9:cX:=cC 4 2 (aD (aF 2 (dA aC))
 (aD (cb (hU (aB (aS aM (aS gA (aA 0) (eC (.int 2))) (eC (.int 1))) aC)) (gN 3) E8)
 (aV (aE bE (aB (aE bi (aB (aA 2) aC)) aC)))))
def Cm:cX:=cC 4 3 (aD (aF 3 (aG (aH (aE u9 (aB (aS cn (aA 1) (aA 2)) (aB (aS cn (aA 1) (aS aM (aA 2) (eC (.int 1)))) aC)))) 1 [1,2] (gN 0) aI (aS aM (aS aM (iU (aA 1) cF (cE (aA 2))) (aA 0)) (iU (aA 1) (cE (aS aM (aA 2) (eC (.int 2)))) cF))))
 (aV (aE j4 (aB (aS aM (aS aM (aE eW (aB (aA 0) aC)) (dO (aB (aA 1) aC))) (aA 3)) aC))))
def pp:cX:=cC 1 1 (aV (aG (hU (aB (aS ce (aE cz (aB (aA 0) aC)) (eC (.int 1))) aC)) 1 [0] (gN 0) (eB (aS fB (aS cn (aA 1) (aA 0)) (aS bH (eC (.int 2)) (aS cn (aA 1) (aS aM (aA 0) (eC (.int 1))))))) (aA 0)))
def E6:SS:=(dZ (eB (aS lQ (aA 4) (eC (.int 0)))) (aD (bX (bQ (aA 3) (aB (aS aM (eC (.int 1)) (aE zg (aB (aA 0) (aB (aS cn (dO (aB (aA 4) (aB (aE gH (aB (aA 4) (aB (eC (.int 5)) aC))) (aB (aE gH (aB (aA 4) (aB (eC (.int 2)) aC))) aC)))) (aE zg (aB (aA 0) (aB (eC (.int 3)) aC)))) aC)))) aC)))
 (aF 4 (aS ce (aA 4) (aS cn (aA 3) (lR gj (eC (.int 1))))))) eD)
def nI:cX:=cC 6 3 (aD (aF 3 (dA aC))
 (aD (aF 4 (aA 1))
 (aD (cb (hU (aB (aE zg (aB (aA 0) (aB (aS aM (aA 2) (eC (.int 1))) aC))) aC)) (gN 5) E6)
 (aV (aE bE (aB (aA 3) aC))))))
def nK:cX:=cC 4 4 (aV (aE j4 (aB (aG (hU (aB (aE zg (aB (aA 0) (aB (aS aM (aA 1) (eC (.int 1))) aC))) aC)) 1 [0,2,3] (gN 0) aI (aE nI (aB (aA 1) (aB (aA 2) (aB (aA 3) aC))))) aC)))
def Fe:SS:=(f6 (aA 1) (aA 2) (eC (.bl true)))
def Ca:cX:=cC 3 1 (aD (aF 1 eU)
 (aD (cb (aH (aA 0)) (gN 2) Fe)
 (aV (aA 1))))
def B1:cX:=cC 2 2 (aV (aS fJ (aS p5 (aA 0) (aA 1)) (aA 1)))
def Fj:SS:=(dZ (cW (aE B1 (aB (aS ce (aS ce (aA 1) (aA 3)) (eC (.int 1))) (aB (aS ce (aA 0) (aS bH (eC (.int 2)) (aA 3))) aC)))) (bX (bQ (aA 2) (aB (uh (eB (aS lQ (aA 3) (eC (.int 0)))) (aR (aB (aS ce (aS aM (aA 0) (aA 1)) (aA 3)) (aB (aA 3) aC))) (aR (aB (aS aM (aA 0) (aA 1)) aC))) aC))) eD)
def vj:cX:=cC 4 2 (aD (aF 2 (dA aC))
 (aD (cb (hU (aB (aS aM (aS gA (aA 0) (eC (.int 2))) (eC (.int 1))) aC)) (gN 3) Fj)
 (aV (aE bi (aB (aA 2) aC)))))
def ra:cX:=cC 4 2 (aD (aF 2 (iU (aA 0) cF (cE (aA 1))))
 (aD (aF 3 (iU (aA 0) (cE (aS aM (aA 1) (eC (.int 2)))) cF))
 (aV (aG (aH (aE vj (aB (aS cn (aA 0) (aA 1)) (aB (aS cn (aA 0) (aS aM (aA 1) (eC (.int 1)))) aC)))) 1 [3,2] (gN 0) aI (aS aM (aS aM (aA 2) (aA 0)) (aA 1))))))
def lZ:cX:=cC 1 1 (aV (iI (aE eK (aB (aA 0) (aB (eC (.ty "int")) aC))) (k7 (aE eK (aB (aA 0) (aB (eC (.ty "bool")) aC))))))
def ve:cX:=cC 2 2 (aV (iI (aE eK (aB (aA 1) (aB (eC (.ty "tuple")) aC))) (iI (aE (iJ true) (aB (aG (aH (aA 1)) 1 [] (gN 0) aI (aE lZ (aB (aA 0) aC))) aC)) (aS (iB false) (aA 1) (aA 0)))))
def Ci:cX:=cC 2 2 (aV (aS fB (aA 0) (aS bH (eC (.int 2)) (aA 1))))
def nJ:cX:=cC 2 2 (aD (dZ (oR (fU (cW (aE lZ (aB (aA 1) aC)))) (fU (eB (gF zF fB (eC (.int 0)) (aA 1) (aS ce (aE cz (aB (aA 0) aC)) (eC (.int 1))))))) (aV (eC (.bl false))) eD)
 (aV (aE Ci (aB (aS cn (aA 0) (aA 1)) (aB (aS cn (aA 0) (aS aM (aA 1) (eC (.int 1)))) aC)))))
def Fh:SS:=(bX (aE jX (aB (aA 0) (aB (aA 3) aC))))
def Cg:cX:=cC 4 3 (aD (dZ (fU (cW (aE ve (aB (aA 0) (aB (aA 1) aC))))) fO eD)
 (aD (dZ (fU (cW (aE nJ (aB (aA 1) (aB (aA 2) aC))))) fO eD)
 (aD (bX (aE jX (aB (aA 0) (aB (aA 1) aC))))
 (cb (aH (aE ra (aB (aA 1) (aB (aA 2) aC)))) (gN 3) Fh))))
def By:cX:=cC 1 1 (aV (aG (hU (aB (aS ce (aE cz (aB (aA 0) aC)) (eC (.int 1))) aC)) 1 [0] (gN 0) (cW (aE nJ (aB (aA 1) (aB (aA 0) aC)))) (aA 0)))
def sR:cX:=cC 1 1 (aV (aE gn (aB (aG (i8 (aA 0)) 2 [] (gT 2 (bv (gN 0) (bv (gN 1) eo))) aI (aS bH (aA 0) (aA 1))) aC)))
def Fi:SS:=(aD (bX (bQ (aA 4) (aB (aE zg (aB (aA 0) (aB (aS aM (aA 3) (eC (.int 1))) aC))) aC)))
 (aF 3 (aS ce (aA 3) (aS cn (aA 4) (lR gj (eC (.int 1)))))))
def Ch:cX:=cC 7 3 (aD (aF 3 (aE zg (aB (aA 0) (aB (aS aM (aA 2) (eC (.int 1))) aC))))
 (aD (dZ (eB (aS fJ (aE zg (aB (aA 0) (aB (eC (.int 2)) aC))) (eC (.int 0)))) (aF 3 (aA 2)) eD)
 (aD (aF 4 (dA aC))
 (aD (cb (hU (aB (aS ce (aA 1) (eC (.int 1))) aC)) (gN 5) Fi)
 (aD (bX (bQ (aA 4) (aB (aA 3) aC)))
 (aD (aF 6 (aE zg (aB (aA 0) (aB (aA 1) aC))))
 (aV (aE bE (aB (aS aM (iU (aA 4) (cE (aA 6)) cF) (iU (aA 4) cF (cE (aA 6)))) aC)))))))))
def BO:cX:=cC 4 4 (aV (aE j4 (aB (aG (hU (aB (aE zg (aB (aA 0) (aB (aS aM (aA 2) (eC (.int 1))) aC))) aC)) 1 [0,1,3] (gN 0) aI (aE Ch (aB (aA 1) (aB (aA 2) (aB (aA 3) aC))))) aC)))
def R3:SS:=(aD (dZ (eB (aS V9 (aA 4) (aA 1))) (bX (bQ (aA 3) (aB (aA 4) aC))) eD)
 (aD (dZ (eB (aS fJ (aA 4) (aA 0))) mz eD)
 (aF 4 (aS p5 (aS ce (aA 4) (aA 0)) (aA 0)))))
def Bz:cX:=cC 5 3 (aD (aF 3 (dA aC))
 (aD (aF 4 (eC (.int 0)))
 (aD (dE (eB (aS zF (aA 4) (aA 2))) R3)
 (aV (p8 (aA 3))))))
def SC:SS:=(bX (bQ (aA 3) (aB (aR (aB (aS aM (aA 4) (aR (aB (aS aM (aA 1) (aA 6)) aC))) (aB (aS ce (aA 5) (aA 6)) aC))) aC)))
def SD:SS:=(cb (aH (aE Bz (aB (aA 1) (aB (aS ce (aA 5) (aA 2)) (aB (aA 5) aC))))) (gN 6) SC)
def Cn:cX:=cC 7 3 (aD (aF 3 (dA aC))
 (aD (cb (aH (aA 0)) (gT 2 (bv (gN 4) (bv (gN 5) eo))) SD)
 (aV (p8 (aA 3)))))
def SF:SS:=(aD (jI 3 (oI (λ_ _=>True) λi j=>.int (i-j)) (aA 4))
 (aF 2 (aE Cn (aB (aA 2) (aB (aA 4) (aB (aA 3) aC))))))
def Co:cX:=cC 5 2 (aD (aF 2 (dO (aB (aR (aB (aR aC) (aB (aA 1) aC))) aC)))
 (aD (aF 3 (aE gn (aB (aA 0) aC)))
 (aD (cb (aH (aA 0)) (gN 4) SF)
 (aV (aG (aH (aA 2)) 2 [] (gT 2 (bv (gN 0) (bv (gN 1) eo))) aI (aA 0))))))
def R0:SS:=(bX (aE jX (aB (aA 2) (aB (aA 4) aC))))
def R1:SS:=(dZ (eB (aS zF (aA 1) (aE gn (aB (aA 3) aC)))) (cb (aH (aE Co (aB (aA 3) (aB (aA 1) aC)))) (gN 4) R0) eD)
def sS:cX:=cC 5 2 (aD (dZ (oR (fU (cW (aE lZ (aB (aA 1) aC)))) (eB (aS fB (aA 1) (eC (.int 0))))) fO eD)
 (aD (aF 2 eU)
 (aD (cb (aH (aA 0)) (gN 3) R1)
 (aV (aE bE (aB (aE bi (aB (aA 2) aC)) aC))))))
def Fa:SS:=(bX (aE jX (aB (aA 1) (aB (aA 2) aC))))
def tq:cX:=cC 3 1 (aD (aF 1 eU)
 (aD (cb (aH (aA 0)) (gN 2) Fa)
 (aV (aE bE (aB (aE bi (aB (aA 1) aC)) aC)))))
def nB:cX:=cC 2 2 (aV (aE tq (aB (aS aM (aA 0) (aA 1)) aC)))
def QO:cX->SS:=λa=>(aD (aF 4 (aE sS (aB (aA 1) (aB (aA 3) aC))))
 (dZ (cW (aA 4)) (aD (aF 5 (aG (aH (aA 0)) 1 [3] (gN 0) (k8 (cW (aA 0)) (eB (aS fJ (aS cn (aA 0) (lR gj (eC (.int 1)))) (aA 1)))) (iU (aA 0) cF (cE (lR gj (eC (.int 1)))))))
 (aF 2 (aE nB (aB (aA 2) (aB (aE a (aB (aA 5) (aB (aA 4) aC))) aC))))) eD))
def jW:cX->cX:=λa=>cC 6 2 (aD (aF 2 (uh (eB (aS (i6 false) (aR aC) (aA 0))) (aA 1) (aR aC)))
 (aD (cb (aH (aE dR (aB (aG (aH (aA 0)) 1 [] (gN 0) (cW (aA 0)) (aS cn (aA 0) (lR gj (eC (.int 1))))) aC))) (gN 3) (QO a))
 (aV (aA 2))))
def Sv:SS:=(bX (aE Cg (aB (aA 2) (aB (aA 3) (aB (aA 4) aC)))))
def sX:cX:=cC 5 2 (aD (aF 2 (aE Ca (aB (aA 0) aC)))
 (aD (cb (aH (aA 1)) (gT 2 (bv (gN 3) (bv (gN 4) eo))) Sv)
 (aV (aE bE (aB (aE bi (aB (aA 2) aC)) aC)))))
def vh:cX:=cC 2 2 (bX (aE jX (aB (fS (aA 0) (aB (aE sR (aB (aA 1) aC)) (aB eU aC))) (aB (aA 1) aC))))
def BA:SS:=(bX (aE vh (aB (aA 1) (aB (aA 2) aC))))
def D7:SS:=(bX (aE vh (aB (aA 1) (aB (aA 6) aC))))
def D8:SS:=(aD (aF 5 (aE By (aB (aA 2) aC)))
 (dZ (cW (aA 5)) (aD (bX (bQ (aA 3) (aB (aR (aB (aA 2) (aB (aS cn (aA 5) (eC (.int 0))) aC))) aC)))
 (cb (aH (aE ra (aB (aA 2) (aB (aS cn (aA 5) (eC (.int 0))) aC)))) (gN 6) D7)) eD))
def D9:SS:=(aD (aF 4 (ko (aA 1) (aB (aE gI (aB (aA 1) aC)) aC)))
 (cb (aH (aE bi (aB (aA 4) aC))) (gN 2) D8))
def kz:cX:=cC 7 1 (aD (aF 1 iG)
 (aD (cb (aH (aA 0)) (gN 2) BA)
 (aD (aF 3 (dA aC))
 (aD (dE (jc (aA 1)) D9)
 (aV (p8 (aA 3)))))))
def pf:cX:=cC 1 1 (aV (aE sX (aB (aA 0) (aB (aE kz (aB (aA 0) aC)) aC))))
end Dd
namespace L2
namespace St
end St
namespace St
end St
end L2
namespace L2
open PySem.W PyProof.Rows Spec
namespace St
section
variable (P:Program)(w:World)
end
end St
namespace St
end St
namespace St
end St
end L2
namespace L2
open Spec PyProof.Rows PySem.W
end L2
namespace Dd
open L2 PyProof.Rows
end Dd
namespace L2
open Spec PyProof.Rows PySem.W
end L2
namespace Dd
open L2 PyProof.Rows
end Dd
namespace Dd
open L2
noncomputable def cg(j:Int):Prop:=-(2^62)<=j/\j<2^62
instance (j:Int):Decidable (cg j):=by unfold cg;infer_instance
theorem ke(a:-1000000000000<=j)(b:j<=1000000000000):cg j:=⟨by lia,by lia⟩
@[simp] theorem zW:eC d σ au=.ok d au:=rfl
@[simp] theorem vX:aA i σ au=(match σ[i]? with
 |some (some d)=>.ok d au
 |_=>.stuck):=rfl
@[simp] theorem kG:aS g f f' σ au=(f σ au).bind λx a=>(f' σ a).bind λy st2=>g x y st2:=rfl
@[simp] theorem Vv:lR g f σ au=(f σ au).bind λx st1=>g x st1:=rfl
@[simp] theorem jY:aE g f σ au=(f σ au).bind λa st1=>g a st1:=rfl
@[simp] theorem vG:aC σ au=.ok [] au:=rfl
@[simp] theorem lV:aB f g σ au=(f σ au).bind λx a=>(g σ a).bind λb st2=>.ok (x::b) st2:=rfl
@[simp] theorem Ps:eB f σ au=(f σ au).bind λv a=>(match v with
 |.bl b=>.ok b a
 |_=>.stuck):=rfl
@[simp] theorem ur:cW f σ au=(f σ au).bind λv a=>(match jm a v with
 |some b=>.ok b a
 |none=>.stuck):=rfl
@[simp] theorem qS:iI f f' σ au=(f σ au).bind λv a=>(match v with
 |.bl true=>f' σ a
 |.bl false=>.ok (.bl false) a
 |_=>.stuck):=rfl
@[simp] theorem FJ:SW f f' σ au=(f σ au).bind λv a=>(match v with
 |.bl true=>.ok (.bl true) a
 |.bl false=>f' σ a
 |_=>.stuck):=rfl
@[simp] theorem vW:k7 f σ au=(f σ au).bind λv a=>(match v with
 |.bl b=>.ok (.bl (!b)) a
 |_=>.stuck):=rfl
@[simp] theorem Gc:k8 f f' σ au=(f σ au).bind λb st1=>if b=true then f' σ st1 else .ok false st1:=rfl
@[simp] theorem Fo:oR f f' σ au=(f σ au).bind λb st1=>if b=true then .ok true st1 else f' σ st1:=rfl
@[simp] theorem vJ:fU f σ au=(f σ au).bind λb st1=>.ok (!b) st1:=rfl
@[simp] theorem Vy:aI σ au=.ok true au:=rfl
@[simp] theorem FI:uh c f f' σ au=(c σ au).bind λb st1=>if b=true then f σ st1 else f' σ st1:=rfl
@[simp] theorem GT:aR g σ au=(g σ au).bind λb a=>if b.length<=sizeLine then .ok (.tup b) a else .stuck:=rfl
@[simp] theorem GS:dO g σ au=(g σ au).bind λb a=>if b.length<=sizeLine then .ok (.lst b) a else .stuck:=rfl
@[simp] theorem IZ:dA g σ au=(g σ au).bind λb a=>if b.length<=sizeLine then .ok (.ref a.length) (a++[.lst b]) else .stuck:=rfl
@[simp] theorem VO:gF g g' f f' f'' σ au=(f σ au).bind λx b=>(f' σ b).bind λy d=>(g x y d).bind λz a=>(match z with
 |.bl true=>(f'' σ a).bind λw c=>g' y w c
 |.bl false=>.ok (.bl false) a
 |_=>.stuck):=rfl
@[simp] theorem VE:eU σ au=.ok (.ref au.length) (au++[.dT []]):=rfl
@[simp] theorem Vw:eD σ au=.ok (.nx σ) au:=rfl
@[simp] theorem VC:mz σ au=.ok (.brk σ) au:=rfl
@[simp] theorem nA:aV f σ au=(f σ au).bind λv st1=>.ok (.ret v) st1:=rfl
@[simp] theorem VI:pV σ au=.ok (.ret .non) au:=rfl
@[simp] theorem Bu:bX f σ au=(f σ au).bind λ_ st1=>.ok (.nx σ) st1:=rfl
@[simp] theorem rb:aF i f σ au=(f σ au).bind λv st1=>.ok (.nx (σ.set i (some v))) st1:=rfl
@[simp] theorem HY:aD s t σ au=(match s σ au with
 |.ok (.nx σ1) st1=>t σ1 st1
 |r=>r):=rfl
@[simp] theorem jx:dZ c s t σ au=(c σ au).bind λb st1=>if b=true then s σ st1 else t σ st1:=rfl
@[simp] theorem HW:jI i g f σ au=(match σ[i]? with
 |some (some x)=>(f σ au).bind λy a=>(g x y a).bind λz b=>.ok (.nx (σ.set i (some z))) b
 |_=>.stuck):=rfl
@[simp] theorem q7:cb it bd body σ au=(it σ au).bind λa st1=>dM bd body a σ st1:=rfl
@[simp] theorem v0:aH f σ au=(f σ au).bind λx a=>(match eG x with
 |some xs=>.ok xs a
 |none=>.stuck):=rfl
@[simp] theorem FM:hU g σ au=(g σ au).bind λb a=>(match b with
 |[.int j]=>if cg j then .ok (rng 0 j.toNat) a else .stuck
 |_=>.stuck):=rfl
@[simp] theorem FN: SV g σ au=(g σ au).bind λb a=>(match b with
  |[.int i,.int j]=>if cg i/\cg j then .ok (rng i (j-i).toNat) a else .stuck
  |_=>.stuck):=by
  show(g σ au).bind _=_
  congr 1
  funext b a
  split
  · unfold cg
    simp only[and_assoc]
  · rename_i h
    first
      |rfl
      | (split
         · rename_i i j
           exact absurd rfl (h i j)
         · rfl)
@[simp] theorem VG:ig f σ au=(f σ au).bind λx a=>(match x with
 |.ref n=>(match a[n]? with
  |some (.dT kvs)=>.ok (aJ (kvs.map (·.1))) (a.set n (.fT kvs))
  |_=>.stuck)
 |_=>.stuck):=rfl
@[simp] theorem mT:aG it k is bd c f σ au=(it σ au).bind λd a=>if d.length<=sizeLine then(bm bd c f d (aT k is σ) a).bind λe b=>.ok (.lst e) b else .stuck:=rfl
@[simp] theorem FH:p8 f σ au=(f σ au).bind λx a=>(match x with
 |.ref n=>(match a[n]? with
  |some (.lst xs)=>.ok (.lst xs) (a.set n .dead)
  |_=>.stuck)
 |_=>.stuck):=rfl
@[simp] theorem VH:cF σ au=.ok none au:=rfl
@[simp] theorem JX:cE f σ au=(f σ au).bind λv a=>(match v with
 |.int i=>.ok (some i) a
 |_=>.stuck):=rfl
@[simp] theorem FK {lo:DS->ab->bu (Option Int)}:iU f lo hi σ au=(f σ au).bind λx b=>(lo σ b).bind λl c=>(hi σ c).bind λh a=>(match x with
 |.tup xs=>.ok (.tup (cutD xs l h)) a
 |x=>match fw a x with
  |some xs=>.ok (.lst (cutD xs l h)) a
  |none=>.stuck):=rfl
@[simp] theorem Q4:bQ f g σ au=(f σ au).bind λx a=>(match x,fw a x with
 |.ref n,some _=>(g σ a).bind λc b=>(match c,b[n]? with
  |[y],some (.lst xs)=>if xs.length<sizeLine then .ok .non (b.set n (.lst (xs++[y]))) else .stuck
  |_,_=>.stuck)
 |_,_=>.stuck):=rfl
@[simp] theorem VS:oO f g σ au=(f σ au).bind λx b=>(match x,fw b x with
 |.ref n,some _=>(g σ b).bind λc a=>(match c,a[n]? with
  |[y],some (.lst xs)=>(match fw a y with
   |some zs=>if xs.length+zs.length<=sizeLine then .ok .non (a.set n (.lst (xs++zs))) else .stuck
   |none=>.stuck)
  |_,_=>.stuck)
 |_,_=>.stuck):=rfl
@[simp] theorem MB:fg f g h σ au=(h σ au).bind λv b=>(f σ b).bind λx c=>(g σ c).bind λy a=>(match x,y with
 |.ref n,.int k=>(match a[n]? with
  |some (.lst xs)=>(match km xs.length k with
   |some j=>.ok (.nx σ) (a.set n (.lst (xs.set j v)))
   |none=>.stuck)
  |_=>.stuck)
 |_,_=>.stuck):=rfl
@[simp] theorem Lj:iH f g h σ au=(f σ au).bind λx b=>(match pairsOf b x with
 |some _=>(g σ b).bind λy c=>(h σ c).bind λz a=>(match pairsOf a x,em y with
  |some kvs,some k=>.ok ((cR kvs k).getD z) a
  |_,_=>.stuck)
 |none=>.stuck):=rfl
@[simp] theorem VF:kq f g σ au=(f σ au).bind λx a=>(match pairsOf a x with
 |some _=>(g σ a).bind λy b=>(match x,em y with
  |.ref n,some k=>(match b[n]? with
   |some (.dT kvs)=>(match cR kvs k with
    |some v=>.ok v (b.set n (.dT (ij kvs k)))
    |none=>.stuck)
   |_=>.stuck)
  |_,_=>.stuck)
 |none=>.stuck):=rfl
@[simp] theorem xK:f6 f g h σ au=(h σ au).bind λv b=>(f σ b).bind λx c=>(g σ c).bind λy a=>(match x,em y with
 |.ref n,some k=>(match a[n]? with
  |some (.dT kvs)=>if kvs.length<sizeLine then .ok (.nx σ) (a.set n (.dT (iz kvs k v))) else .stuck
  |_=>.stuck)
 |_,_=>.stuck):=rfl
theorem vr:cC n np b ds au=if ds.length=np then(match b (ds.map some++List.replicate (n-np) none) au with
 |.ok (.ret v) st'=>.ok v st'
 |.ok (.nx _) st'=>.ok .non st'
 |.exc x st'=>.exc x st'
 |_=>.stuck) else .stuck:=rfl
@[simp] theorem zG [DecidableRel C]:oI C h (.int i) (.int j) au=if C i j then .ok (h i j) au else .stuck:=rfl
@[simp] theorem Vz:aM (.int i) (.int j) au=.ok (.int (i+j)) au:=rfl
@[simp] theorem wl:aM (.tup a) (.tup b) au=if a.length+b.length<=sizeLine then .ok (.tup (a++b)) au else .stuck:=rfl
@[simp] theorem VA:fB (.int i) (.int j) au=.ok (.bl (decide (i<j))) au:=rfl
@[simp] theorem VB:gj (.int i) au=.ok (.int (-i)) au:=rfl
@[simp] theorem qw (ns:List Int):bP (ns.map .int)=some ns:=by
 induction ns with
 |nil=>rfl
 |cons n ns ih=>rw[cr,bP,ih];rfl
@[simp] theorem VW (l:List (List Int)):fV (aJ l)=some l:=by
 induction l with
 |nil=>rfl
 |cons n ns ih=>
  unfold aJ at ih ⊢;rw[cr,fV,qw,ih];rfl
@[simp] theorem tf (ns:List Int):em (aL ns)=some ns:=qw ns
theorem BB:dataOf au (.int i)=some (.int i):=rfl
@[simp] theorem FO:fJ (.int i) (.int j) au=.ok (.bl (decide (i=j))) au:=by
 show eO false (.int i) (.int j) au=_;unfold eO;rw[BB,BB];dsimp only;rw[if_pos ⟨rfl,rfl⟩];show bu.ok (D.bl (i==j)) au=_;rw[show(i==j)=decide (i=j) from by rw[kK];simp]
@[simp] theorem FR:p4 (.int i) (.int j) au=.ok (.bl (!decide (i=j))) au:=by
 show eO true (.int i) (.int j) au=_;unfold eO;rw[BB,BB];dsimp only;rw[if_pos ⟨rfl,rfl⟩];show bu.ok (D.bl (!(i==j))) au=_;rw[show(i==j)=decide (i=j) from by rw[kK];simp]
theorem Q0(a:List Int):cv (a.map .int)=some (dI a):=by
 induction a with
 |nil=>rfl
 |cons n a ih=>rw[cr,cv,ih];rfl
theorem Q1(l:List (List Int)):cv (aJ l)=some (l.map bT):=by
 induction l with
 |nil=>rfl
 |cons n ns ih=>
  unfold aJ at ih ⊢;rw[cr,cv,ih,cK,Q0];rfl
abbrev aK(l:List (List Int)):D:=.tup (aJ l)
theorem Ef(l:List (List Int)):dataOf au (aK l)=some (.tuple (l.map bT)):=by
 show(cv (aJ l)).map PyData.tuple=_;rw[Q1];rfl
theorem P8(l:List Int):dataOf au (aL l)=some (bT l):=by
 show(cv (l.map .int)).map PyData.tuple=_;rw[Q0];rfl
theorem DP(a b:List (List Int)):eO neg (aK a) (aK b) au=.ok (.bl (if neg then !decide (a=b) else decide (a=b))) au:=by
 unfold eO;rw[Ef,Ef];dsimp only;rw[if_pos ⟨Ce a,Ce b⟩];have e:PyData.eqv (.tuple (a.map bT)) (.tuple (b.map bT))=decide (a=b):=QY a b;rw[e]
theorem small(n:Nat)(h:n<=1000000):n<=sizeLine:=by rw[me];lia
theorem dh(n:Nat)(h:n<=1000000):n<sizeLine:=by rw[me];lia
theorem w8(I:Nat->DS->ab->Prop):∀(j:List D) (k:Nat) (a:DS) (b:ab),I k a b ->
  (∀i x a b,j[i]?=some x->I (k+i) a b->∃g d c,bd x a=some g/\body g b=.ok (.nx d) c/\I (k+i+1) d c)->∃f e,dM bd body j a b=.ok (.nx f) e/\I (k+j.length) f e
 |[],k,a,b,h,_=>⟨a,b,rfl,h⟩
 |x::j,k,a,b,h,s=>by
  obtain⟨g,d,c,n,m,o⟩:=s 0 x a b rfl h;obtain⟨f,e,p,q⟩:=w8 I j (k+1) d c o λi y a b l r=>by
   have:=s (i+1) y a b (by simpa using l) (by rw[show k+(i+1)=k+1+i by lia];exact r);rw[show k+(i+1)+1=k+1+i+1 by lia] at this;exact this
  refine⟨f,e,?_,by rw[dw,show k+(j.length+1)=k+1+j.length by lia];exact q⟩;unfold dM;rw[n];dsimp only;rw[m];exact p
theorem o3(I:Nat->DS->ab->Prop) (f:I 0 σ au)
  (s:∀i x σ au,xs[i]?=some x->I i σ au->∃b c a,bd x σ=some b/\body b au=.ok (.nx c) a/\I (i+1) c a):∃d st',dM bd body xs σ au=.ok (.nx d) st'/\I xs.length d st':=by
 have:=w8 I xs 0 σ au f λi x σ au g e=>by
  rw[iS] at e ⊢;exact s i x σ au g e
 rw[iS] at this;exact this
theorem qg{lo:Int}(h:(rng lo n)[i]?=some x):i<n/\x=.int (lo+i):=uG h
theorem j5(lo:Int)(n:Nat):(rng lo n).length=n:=by simp[rng]
theorem Ee(I:Nat->List D->DS->ab->Prop):∀(m:List D) (k:Nat) (acc:List D) (g:DS) (j:ab),I k acc g j ->
  (∀i x acc g j,m[i]?=some x->I (k+i) acc g j->∃a b d,bd x g=some a/\c a j=.ok b d/\((b=false/\I (k+i+1) acc a d)\/(b=true/\∃y e,f a d=.ok y e/\I (k+i+1) (acc++[y]) a e))) ->
  ∃o n l,bm bd c f m g j=.ok o l/\I (k+m.length) (acc++o) n l
 |[],k,acc,g,j,h,_=>⟨[],g,j,rfl,by rw[jA];exact h⟩
 |x::m,k,acc,g,j,h,s=>by
  have v:∀i y acc g j,m[i]?=some y->I (k+1+i) acc g j->∃a b d,bd y g=some a/\c a j=.ok b d/\((b=false/\I (k+1+i+1) acc a d)\/(b=true/\∃z e,f a d=.ok z e/\I (k+1+i+1) (acc++[z]) a e)):=λi y acc g j w C=>by
   have:=s (i+1) y acc g j (by simpa using w) (by rw[show k+(i+1)=k+1+i by lia];exact C);rw[show k+(i+1)+1=k+1+i+1 by lia] at this;exact this
  obtain⟨a,b,d,u,t,p⟩:=s 0 x acc g j rfl h;rcases p with⟨rfl,p⟩|⟨rfl,y,e,A,p⟩
  ·obtain⟨o,n,l,r,q⟩:=Ee I m (k+1) acc a d p v;refine⟨o,n,l,?_,by rw[dw,show k+(m.length+1)=k+1+m.length by lia];exact q⟩;unfold bm;rw[u];dsimp only;rw[t];exact r
  ·obtain⟨o,n,l,r,q⟩:=Ee I m (k+1) (acc++[y]) a e p v;refine⟨y::o,n,l,?_,by rw[dw,show k+(m.length+1)=k+1+m.length by lia];rw[ff] at q;exact q⟩;unfold bm;rw[u];dsimp only;rw[t];dsimp only[zq];rw[if_pos rfl,A];dsimp only[zq];rw[r]
   rfl
theorem nD(I:Nat->List D->DS->ab->Prop) (k:I 0 [] σ au)
  (s:∀i x acc σ au,xs[i]?=some x->I i acc σ au->∃a b d,bd x σ=some a/\c a au=.ok b d/\((b=false/\I (i+1) acc a d)\/(b=true/\∃y e,f a d=.ok y e/\I (i+1) (acc++[y]) a e))):
  ∃h g st',bm bd c f xs σ au=.ok h st'/\I xs.length h g st':=by
 have:=Ee I xs 0 [] σ au k λi x acc σ au l j=>by
  rw[iS] at j ⊢;exact s i x acc σ au l j
 rw[iS] at this
 simpa using this
theorem Tr(I:Nat->DS->ab->Prop)(d:DS->ab->Prop) (v:I k σ au)(w:k<mr)
  (s:∀j σ au,I j σ au->∃b e,c σ au=.ok b e/\((b=false/\d σ e)\/(b=true/\∃i g f,body σ e=.ok (.nx g) f/\I i g f/\i<j))):∃a st',dE c body σ au=.ok (.nx a) st'/\d a st':=by
 have l:∀n j σ au,I j σ au->j<n->∃a st',de c body n σ au=.ok (.nx a) st'/\d a st':=by
  intro n
  induction n with
  |zero=>intro j σ au _ h;lia
  |succ n ih=>
   intro j σ au t u;obtain⟨b,e,o,h⟩:=s j σ au t;unfold de;rw[o];dsimp only[zq];rcases h with⟨rfl,h⟩|⟨rfl,i,g,f,m,q,x⟩
   ·exact⟨σ,e,by rw[if_neg (by decide)],h⟩
   ·obtain⟨a,st',r,p⟩:=ih i g f q (by lia);refine⟨a,st',?_,p⟩;rw[if_pos rfl,m];exact r
 exact l mr k σ au v w
@[simp] theorem VV:cS au (.tup xs)=some xs:=rfl
@[simp] theorem VU:cS au (.scr xs)=some xs:=rfl
@[simp] theorem VT:cS au (.lst xs)=some xs:=rfl
@[simp] theorem VR:eG (.tup xs)=some xs:=rfl
@[simp] theorem VP:eG (.lst xs)=some xs:=rfl
@[simp] theorem VQ:eG (.scr xs)=some xs:=rfl
@[simp] theorem VD:fw au (.lst xs)=some xs:=rfl
theorem mS(h:au[n]?=some (.lst xs)):fw au (.ref n)=some xs:=by
 unfold fw;dsimp only;rw[h]
theorem BX(h:au[n]?=some (.lst xs)):cS au (.ref n)=some xs:=mS h
theorem nz(h:cS au x=some xs)(a:L2.atI xs i=some d):cn x (.int i) au=.ok d au:=by
 unfold cn;rw[h];dsimp only;rw[a]
@[simp] theorem VL:cz [.tup xs] au=.ok (.int xs.length) au:=rfl
@[simp] theorem KN:cz [.lst xs] au=.ok (.int xs.length) au:=rfl
@[simp] theorem VJ:cz [.scr xs] au=.ok (.int xs.length) au:=rfl
@[simp] theorem Vx:k9 [.int i] au=.ok (.int (if i<0 then -i else i)) au:=rfl
@[simp] theorem Vu:ui g [.int i,.int j] au=.ok (.int (g i j)) au:=rfl
@[simp] theorem VM:gn [aL ns] au=.ok (.int ns.sum) au:=by
 unfold gn;simp
@[simp] theorem VX:bE [.tup xs] au=.ok (.tup xs) au:=rfl
@[simp] theorem Tx:bE [.lst xs] au=.ok (.tup xs) au:=rfl
theorem Tz(h:au[n]?=some (.lst xs)):bE [.ref n] au=.ok (.tup xs) au:=by
 unfold bE;dsimp only;rw[mS h]
theorem UM{l:List (List Int)}(h:l.length<=1000000):bi [.lst (aJ l)] au=.ok (.lst (aJ (aw l))) au:=by
 unfold bi;simp[h]
theorem UL(h:au[n]?=some (.dT kvs))(a:kvs.length<=1000000):bi [.ref n] au=.ok (.lst (aJ (aw (kvs.map (·.1))))) au:=by
 unfold bi fw pairsOf;simp[h,a]
theorem Eb{j:Nat}(h:xs[j]?=some d):L2.atI xs (j:Int)=some d:=Dy h
theorem lq{a:ab}(h:n<a.length):(a.set n o)[n]?=some o:=pR h
section
variable {au:ab}{n:Nat}
theorem zr{o:O}(h:au[n]?=some o):n<au.length:=(db.mp h).1
end
theorem ME{a:ab}:(a.set n o).set n p=a.set n p:=List.set_set _
section
variable {au:ab}{n:Nat}{i:Int}
theorem HZ{o:O}(h:au[n]?=some o):au.set n o=au:=by
 apply tT;intro i;by_cases e:i=n
 ·subst e;rw[pR (zr h),h]
 ·rw[fu (fX e)]
end
theorem gW{a:List D}(h:a.length=np)(e:b (a.map some++List.replicate (n-np) none) au=.ok (.ret v) st'):cC n np b a au=.ok v st':=by
 rw[vr,if_pos h,e]
theorem qF{a:List D}(h:a.length=np)(e:b (a.map some++List.replicate (n-np) none) au=.ok (.nx σ) st'):cC n np b a au=.ok .non st':=by
 rw[vr,if_pos h,e]
noncomputable abbrev fm(c x:Int):O:=.lst [.int c,.int x]
def ck(a:ab) (n:Nat):Prop:=∃c x:Int,a[n]?=some (fm c x)/\0<=c/\0<=x
structure bC (au st':ab) (n:Nat):Prop where
 len:au.length<=st'.length
 keep:∀ i,i<au.length->i≠n->st'[i]?=au[i]?
 bag:ck st' n
theorem bC.trans(a:bC au st1 n)(b:bC st1 st2 n):bC au st2 n:=
 ⟨ay a.len b.len,λi c d=>(b.keep i (da c a.len) d).trans (a.keep i c d),b.bag⟩
theorem bC.set{a:ab}{n:Nat}{c x:Int}(h:ck a n)(b:0<=c)(d:0<=x):bC a (a.set n (fm c x)) n:=by
 obtain⟨_,_,e,_⟩:=h;exact⟨by rw[iT];exact br _,λi _ f=>fu (fX f),c,x,lq (zr e),b,d⟩
theorem bC.more{a:ab}{n:Nat}(h:ck a n)(g:ab):bC a (a++g) n:=by
 obtain⟨c,x,e,b,d⟩:=h;exact⟨by rw[cQ];lia,λi h _=>gv h,c,x,by rw[gv (zr e)];exact e,b,d⟩
theorem uH{au:ab}{n:Nat}{m:Int}(o:ck au n)(h1:1<=m)(h2:m<2^1000):
  ∃r f,zg [.ref n,.int m] au=.ok (.int r) f/\0<=r/\r<m/\bC au f n/\f.length=au.length:=by
 obtain⟨c,x,i,E,A⟩:=id o;have G:∀{c x:Int}{au:ab},au[n]?=some (fm c x)->cn (.ref n) (.int 0) au=.ok (.int c) au:=λh=>nz (BX h) rfl
 have u:∀{c x:Int}{au:ab},au[n]?=some (fm c x)->cn (.ref n) (.int 1) au=.ok (.int x) au:=λh=>nz (BX h) rfl
 by_cases h0:0<c
 ·have J:er c m:=⟨by lia,h2⟩
  have Q:km 2 0=some 0:=rfl;refine⟨c%m,au.set n (fm (c/m) x),gW rfl ?_,yj _ (by lia),Int.emod_lt_of_pos _ (by lia),bC.set o (Int.ediv_nonneg E (by lia)) A,iT⟩;simp[G i,h0,i,Q,show(0:Int)<m by lia,J]
 ·have g:=zr i
  have W:=Tr (c:=eB (aS fB (aA 4) (aA 1))) (body:=aD (fg (aA 0) (eC (.int 1)) (aS fQ (aS aM (aS bH (aS cn (aA 0) (eC (.int 1))) (eC (.int 48271))) (eC (.int 7919))) (eC (.int 2147483647))))
   (aD (aF 3 (aS aM (aS bH (aA 3) (eC (.int 1073741789))) (aS fQ (aS bH (aS gA (aS cn (aA 0) (eC (.int 1))) (eC (.int 8))) (eC (.int 69621))) (eC (.int 1073741789)))))
   (aF 4 (aS bH (aA 4) (eC (.int 1073741789)))))) (k:=1000) (σ:=[some (.ref n),some (.int m),none,some (.int 0),some (.int 1)]) (au:=au)
   (λj l s=>∃b a d rr:Int,l=[some (.ref n),some (.int m),none,some (.int d),some (.int rr)]/\s=au.set n (fm b a)/\0<=b/\0<=a/\0<=d/\j<=1000/\2^(1000-j)<=rr)
   (λl s=>∃b a d:Int,(∃rr,l=[some (.ref n),some (.int m),none,some (.int d),some (.int rr)])/\s=au.set n (fm b a)/\0<=b/\0<=a/\0<=d)
   ⟨c,x,0,1,rfl,(HZ i).symm,E,A,by lia,by lia,by decide⟩ (by decide) (by
    rintro j l s ⟨b,a,d,rr,rfl,rfl,q,v,C,a4,S⟩;have w:(au.set n (fm b a))[n]?=some (fm b a):=lq g;by_cases hlt:rr<m
    ·have hj:1<=j:=by
      rcases yu j with z|z
      ·subst z;have I:(2:Int)^1000<=rr:=S;lia
      ·exact z
     have X:km 2 1=some 1:=rfl;have m1:dS a 48271:=.inr ⟨by decide,by decide⟩;have P:dS d 1073741789:=.inr ⟨by decide,by decide⟩;have m3:dS rr 1073741789:=.inr ⟨by decide,by decide⟩;have U:∀y:Int,(au.set n (fm b y))[n]?=some (fm b y):=λy=>lq g
     have m4:∀y:Int,dS y 69621:=λy=>.inr ⟨by decide,by decide⟩
     have Y:∀y:Int,er y 8:=λy=>⟨by decide,by decide +kernel⟩
     refine⟨true,au.set n (fm b a),by simp[hlt],.inr ⟨rfl,j-1,_,au.set n (fm b ((a*48271+7919)%2147483647)),?_,⟨b,(a*48271+7919)%2147483647,d*1073741789+(a*48271+7919)%2147483647/8*69621%1073741789,rr*1073741789,rfl,rfl,q,?_,?_,by lia,?_⟩,by lia⟩⟩
     ·simp[u w,w,X,m1,P,m3,m4,Y,u (U _)]
     ·exact yj _ (by lia)
     ·have q:0<=d*1073741789:=NZ C (by lia);have v:=yj ((a*48271+7919)%2147483647/8*69621) (show(1073741789:Int)≠0 by lia);lia
     ·have e:(2:Int)^(1000-(j-1))=2^(1000-j)*2:=by
       rw[←Int.pow_succ];congr 1;lia
      rw[e];have hp:(0:Int)<=2^(1000-j):=Int.pow_nonneg (by decide);lia
    ·exact⟨false,_,by simp[hlt],.inl ⟨rfl,b,a,d,⟨rr,rfl⟩,rfl,q,v,C⟩⟩)
  obtain⟨a0,f,e,b,a,d,t,p,H,k2,k3⟩:=W;obtain⟨rr,rfl⟩:=t;subst p;refine⟨d%m,au.set n (fm b a),gW rfl ?_,yj _ (by lia),Int.emod_lt_of_pos _ (by lia),bC.set o H k2,iT⟩;simp[G i,h0,e,show(0:Int)<m by lia]
theorem RD{a:List Int}(h:j<a.length):L2.atI (a.map D.int) (j:Int)=some (.int a[j]):=Dy (by rw[fM,bV h];rfl)
theorem Gd{a:List Int}{i:Nat}(C:a.length<=63)(z:i<=100000):∃c x:Int,0<=c/\0<=x/\uZ [.scr (a.map .int),.int i] au=.ok (.ref au.length) (au++[fm c x]):=by
 have d:∃c:Int,0<=c/\dZ (eB (aS fB (aA 1) (aE cz (aB (aA 0) aC)))) (aF 2 (aE k9 (aB (aS cn (aA 0) (aA 1)) aC))) eD [some (.scr (a.map .int)),some (.int i),some (.int 0),none,none] au
   = .ok (.nx [some (.scr (a.map .int)),some (.int i),some (.int c),none,none]) au:=by
  by_cases h:i<a.length
  ·have e:cn (.scr (a.map .int)) (.int i) au=.ok (.int a[i]) au:=nz rfl (RD h);refine⟨if a[i]<0 then -a[i] else a[i],by split<;>lia,?_⟩;simp[h,e]
  ·exact⟨0,by lia,by simp[h]⟩
 obtain⟨c,w,f⟩:=d;have o:(if(60:Int)<(a.length:Int) then(60:Int) else a.length).toNat<=a.length:=by split<;>lia
 have W:=o3 (bd:=gN 4) (body:=aF 3 (aS fQ (aS aM (aS aM (aS bH (aA 3) (eC (.int 48271))) (aS fQ (aS cn (aA 0) (aA 4)) (eC (.int 2147483647)))) (aA 4)) (eC (.int 2147483629))))
  (xs:=rng 0 (if(60:Int)<(a.length:Int) then(60:Int) else a.length).toNat) (σ:=[some (.scr (a.map .int)),some (.int i),some (.int c),some (.int (7919*i+17)),none]) (au:=au)
  (λj l s=>s=au/\∃(b:Int) (v:Option D),l=[some (.scr (a.map .int)),some (.int i),some (.int c),some (.int b),v]/\0<=b) ⟨rfl,_,none,rfl,by lia⟩ (by
   rintro j x l s r ⟨rfl,b,v,rfl,g⟩;obtain⟨A,rfl⟩:=qg r;have m:j<a.length:=by lia
   have e:cn (.scr (a.map .int)) (.int (0+j)) s=.ok (.int a[j]) s:=nz rfl (by rw[n5];exact RD m);rw[n5] at e;have t:dS b 48271:=.inr ⟨by decide,by decide⟩;refine⟨_,[some (.scr (a.map .int)),some (.int i),some (.int c),some (.int ((b*48271+a[j]%2147483647+j)%2147483629)),some (.int (0+j))],s,rfl,?_,rfl,_,_,rfl,yj _ (by lia)⟩
   simp[e,t])
 obtain⟨u,y,e,rfl,b,v,rfl,g⟩:=W;have q:dS 7919 (i:Int):=.inl ⟨by decide,by decide⟩;have p:mQ 10 18:=⟨by decide,by decide,by decide⟩
 have n:cg (if(60:Int)<(a.length:Int) then(60:Int) else a.length):=by
  split<;>exact ke (by lia) (by lia)
 by_cases hlt:c<1000000000000000000
 ·refine⟨0,b,by lia,g,gW rfl ?_⟩;have k:=small 2 (by lia);simp at f;simp[f,q,n,e,p,hlt,k]
 ·refine⟨c,b,w,g,gW rfl ?_⟩;have k:=small 2 (by lia);simp at f;simp[f,q,n,e,p,hlt,k]
theorem fA(h:s σ au=.ok (.nx σ1) st1)(k:t σ1 st1=r):aD s t σ au=r:=by
 rw[HY,h];exact k
noncomputable def aP(a:List (List Int)) (k:List Int):List (List Int):=if k∈a then a.filter (λx=>decide (x≠k)) else a++[k]
def aN(l:List (List Int)):List (List Int):=l.foldl aP []
theorem lX:x∈aP ks k↔(x∈ks/\x≠k)\/(x=k/\k∉ks):=by
 unfold aP;split
 ·rename_i h;simp[dH,h]
 ·rename_i h;simp only[dk,et];constructor
  ·rintro(z|rfl)
   ·exact .inl ⟨z,λe=>h (e ▸ z)⟩
   ·exact .inr ⟨rfl,h⟩
  ·rintro(⟨z,_⟩|⟨z,_⟩)
   ·exact .inl z
   ·exact .inr z
theorem tz{d:List (List Int)}(h:d.Nodup):(aP d k).Nodup:=by
 unfold aP;split
 ·exact h.filter _
 ·rename_i g;rw[yr];exact⟨h,by simp,λa f b c=>by simp at c;subst c;exact λe=>g (e ▸ f)⟩
theorem Sq(a:List (List Int))(k:List Int):(aP a k).length<=a.length+1:=by
 unfold aP;split
 ·exact oi (pP _ _)
 ·simp
theorem sQ:∀(l b:List (List Int)),b.Nodup->(l.foldl aP b).Nodup/\(l.foldl aP b).length<=b.length+l.length/\∀x,x∈l.foldl aP b↔(l.count x+if x∈b then 1 else 0)%2=1
 |[],b,h=>⟨h,by simp,λx=>by by_cases e:x∈b<;>simp[e]⟩
 |a::l,b,h=>by
  obtain⟨f,g,d⟩:=sQ l (aP b a) (tz h);refine⟨f,?_,λx=>?_⟩
  ·have:=Sq b a;rw[lC,dw];lia
  ·rw[lC,d x,n8];by_cases e:x=a
   ·subst e;by_cases k:x∈b
    ·have q:x∉aP b x:=by rw[lX];simp[k]
     simp only[q,k,gr,gP,ry]<;>lia
    ·have q:x∈aP b x:=by rw[lX];simp[k]
     simp only[q,k,gr,gP,ry]<;>lia
   ·have c:(a==x)=false:=by simpa using λz:a=x=>e z.symm
    by_cases k:x∈b
    ·have q:x∈aP b a:=by rw[lX];simp[k,e]
     simp[q,k,c]
    ·have q:x∉aP b a:=by rw[lX];simp[k,e]
     simp[q,k,c]
theorem vc(l:List (List Int)):(aN l).Nodup:=(sQ l [] mX).1
theorem tE(l:List (List Int)):(aN l).length<=l.length:=by have:=(sQ l [] mX).2.1;simpa [aN] using this
theorem sU:x∈aN l↔l.count x%2=1:=by have:=(sQ l [] mX).2.2 x;simpa [aN] using this
theorem E2{a b:List (List Int)}(c:a.Nodup)(d:b.Nodup)(h:∀x,x∈a↔x∈b):a.Perm b:=(SI c d).mpr h
theorem Sf{a:List (List Int)}(h:a.Perm b):aw a=aw b:=BN ((zo a).trans h) (uW a)
def aO(l:List (List Int)):List (List Int):=aw (aN l)
theorem DQ{l m:List (List Int)}(a:m.Nodup)(h:∀x,x∈m↔l.count x%2=1):aw m=aO l:=Sf (E2 a (vc l) λx=>by rw[h,sU])
theorem Qt:x∈aO l↔l.count x%2=1:=by unfold aO;rw[(zo _).mem_iff,sU]
theorem nH(h:x∈aO l):x∈l:=by
 rw[Qt] at h;rcases yu (l.count x) with z|z
 ·rw[z] at h;cases h
 ·exact rB.mp z
theorem Cd(l:List (List Int)):(aO l).length<=l.length:=by unfold aO;rw[vi];exact tE l
theorem pj(l:List (List Int)):(aO l).Nodup:=(zo _).nodup_iff.mpr (vc l)
noncomputable abbrev aQ(a:List (List Int)):List (List Int×D):=a.map λk=>(k,.bl true)
theorem EO:cR (aQ ks) k=if k∈ks then some (.bl true) else none:=by
 induction ks with
 |nil=>rfl
 |cons a ks ih=>
  unfold cR aQ at ih ⊢;rw[cr,lD];by_cases e:a=k
  ·simp[e]
  ·simp only[cO e];rw[ih];simp[ca,show ¬ k=a from λz=>e z.symm]
theorem TR:ij (aQ ks) k=aQ (ks.filter λx=>decide (x≠k)):=by
 unfold ij aQ;rw[rq]
 rfl
theorem Rm(h:k∉ks):iz (aQ ks) k (.bl true)=aQ (ks++[k]):=by
 unfold iz;rw[if_neg]
 ·simp[aQ]
 ·simp only[List.any_map,CJ,not_exists,not_and];intro x a e;have:x=k:=by simpa using e
  exact h (this ▸ a)
theorem BL(h:au[n]?=some (.dT kvs)):pairsOf au (.ref n)=some kvs:=by
 unfold pairsOf;dsimp only;rw[h]
theorem Ma(h:au[n]?=some (.fT kvs)):pairsOf au (.ref n)=some kvs:=by
 unfold pairsOf;dsimp only;rw[h]
theorem xA(h:pairsOf au (.ref n)=some kvs):iB false (aL k) (.ref n) au=.ok (.bl (cR kvs k).isSome) au:=by
 unfold iB;rw[tf,h]
 rfl
theorem LX(h:pairsOf au (.ref n)=some kvs)(a:cR kvs k=some v):eT (.ref n) (aL k) au=.ok v au:=by
 unfold eT;rw[tf,h];dsimp only;rw[a]
theorem uC(h:au[n]?=some (.dT (aQ ks)))(g:ks.length<=1000000):jX [.ref n,aL k] au=.ok .non (au.set n (.dT (aQ (aP ks k)))):=by
 have a:=xA (k:=k) (BL h);rw[EO] at a;by_cases hk:k∈ks
 ·refine qF (σ:=[some (.ref n),some (aL k)]) rfl ?_;rw[if_pos hk] at a;have e:cR (aQ ks) k=some (.bl true):=by rw[EO,if_pos hk]
  have d:aP ks k=ks.filter λx=>decide (x≠k):=by unfold aP;rw[if_pos hk]
  rw[d,←TR];have f:=BL h;have b:=tf k;simp only[aL,aQ] at *
  simp[a,f,b,h,e]
 ·refine qF (σ:=[some (.ref n),some (aL k)]) rfl ?_;rw[if_neg hk] at a;have d:aP ks k=ks++[k]:=by unfold aP;rw[if_neg hk]
  rw[d,←Rm hk];have b:=tf k;have c:(aQ ks).length<sizeLine:=by rw[bj];exact dh _ g
  simp only[aL,aQ] at *
  simp[a,b,h,c];rw[bj] at c;exact c
theorem j3{l:List (List Int)}{i:Nat}(h:(aJ l)[i]?=some x):∃k,l[i]?=some k/\x=aL k:=by
 unfold aJ at h;rw[fM] at h;cases e:l[i]? with
 |none=>rw[e] at h;cases h
 |some k=>rw[e] at h;exact⟨k,rfl,(g8 h).symm⟩
theorem zc(l:List (List Int)):(aJ l).length=l.length:=bj _
theorem zf{a:Type}{l:List a}{i:Nat}{k:a}(h:l[i]?=some k):l.take (i+1)=l.take i++[k]:=by
 obtain⟨b,e⟩:=db.mp h;rw[OV b,e]
theorem Gp(a:List D)(k:Nat):cutD a none (some (k:Int))=a.take k:=by
 unfold cutD;rw[HT.QD,HT.xL,List.drop_zero,Nat.sub_zero];rcases Nat.le_total k a.length with h|h
 ·rw[j6 h]
 ·rw[yp h,dU,ka h]
theorem KU(a:List D)(k:Nat):cutD a (some (k:Int)) none=a.drop k:=by
 unfold cutD;rw[HT.QD,HT.xL];rcases Nat.le_total k a.length with h|h
 ·rw[j6 h,ka (by rw[mY];exact br _)]
 ·rw[yp h,List.drop_length,List.drop_of_length_le h];simp
theorem Vb(l a:List (List Int))(h:a.Nodup):(l.foldl aP a).length<=a.length+l.length:=(sQ l a h).2.1
theorem Kl{a b:List Int}:(a.map D.int)++(b.map D.int)=(a++b).map D.int:=hZ.symm
theorem E4(h:au[n]?=some (.dT (aQ ks)))(a:ks.length<=1000000):bi [.ref n] au=.ok (.lst (aJ (aw ks))) au:=by
 rw[UL h (by rw[bj];exact a),eS]
 congr 2
 exact congrArg (λl=>aJ (aw l)) (x9 ks)
end Dd
namespace K07
open L2
noncomputable def fj(e k:Int):Bool:=decide (V.int (Builtin.bitAnd e k)=V.int k)
theorem TF(a b:Nat):Builtin.bitAnd (a:Int) (b:Int)=((a&&&b:Nat):Int):=rfl
theorem Qu(a b:Nat):fj a b=decide (a&&&b=b):=by
 unfold fj;rw[TF];by_cases h:a&&&b=b
 ·rw[h];simp
 ·rw[cO h];refine cO λe=>h ?_
  injection e with e
  exact_mod_cast e
theorem Nt(a b:Nat):(a&&&b=b)↔((a/2&&&b/2=b/2)/\¬ (b%2=1/\a%2=0)):=by
 have f:(a&&&b)/2=a/2&&&b/2:=N1;have e:(a&&&b)%2=(a%2)*(b%2):=by
  have q:=@Nat.and_mod_two_eq_one a b;rcases mn a with h|h<;>rcases mn b with h'|h'<;>rw[h,h'] at q ⊢<;>lia
 constructor
 ·intro h;refine⟨by rw[←f,h],?_⟩;rintro⟨d,c⟩;rw[h,d,c] at e;lia
 ·rintro⟨d,c⟩;rw[←f] at d;have g:(a&&&b)%2=b%2:=by
   rw[e];rcases mn a with h|h<;>rcases mn b with h'|h'<;>simp[h,h']
   exact c ⟨h',h⟩
  lia
noncomputable def zI(l:List Nat) (e:Nat):List Nat:=[1]++((List.range e).map λk=>(l.getD k 0+l.getD (k+1) 0)%2)++[1]
def jJ:Nat->List Nat
 |0=>[1]
 |e+1=>zI (jJ e) e
def zE(e k:Nat):Bool:=decide (e&&&k=k)==(decide (k<=e)&&decide ((jJ e).getD (k%(e+1)) 0=1))
theorem Mb:(List.range 61).all (λe=>(List.range 62).all (zE e))=true:=by decide +kernel
theorem Hy{e k:Nat}(b:e<61)(c:k<62):fj e k=(decide (k<=e)&&decide ((jJ e).getD (k%(e+1)) 0=1)):=by
 have h:=Mb;rw[dW] at h;have a:=h e (bR.mpr b);rw[dW] at a;have d:=a k (bR.mpr c);rw[Qu];exact eq_of_beq d
end K07
namespace K23
open L2 K07
noncomputable def ch:Nat->Nat->Nat
 |_,0=>1
 |0,_+1=>0
 |n+1,k+1=>ch n k+ch n (k+1)
theorem uy(n:Nat):ch n 0=1:=by cases n<;>rfl
theorem ux:∀n k,n<k->ch n k=0
 |0,_+1,_=>rfl
 |n+1,k+1,h=>by
  show ch n k+ch n (k+1)=0;rw[ux n k (by lia),ux n (k+1) (by lia)]
theorem wT:∀n,ch n n=1
 |0=>rfl
 |n+1=>by
  show ch n n+ch n (n+1)=1;rw[wT n,ux n (n+1) (by lia)]
theorem AS:∀(n k:Nat),(ch n (k+1):Int)*((k:Int)+1)=(ch n k:Int)*((n:Int)-(k:Int))
 |0,0=>by decide
 |0,k+1=>by
  show((0:Nat):Int)*_=((0:Nat):Int)*_;simp
 |n+1,0=>by
  have h:=AS n 0;have c:ch (n+1) 1=ch n 0+ch n 1:=rfl;rw[c,uy,uy];rw[uy] at h;simp only[pC] at h ⊢;simp at h ⊢;lia
 |n+1,k+1=>by
  have a:=AS n k;have b:=AS n (k+1);have c:ch (n+1) (k+1+1)=ch n (k+1)+ch n (k+1+1):=rfl;have d:ch (n+1) (k+1)=ch n k+ch n (k+1):=rfl;rw[c,d];generalize ch n k=A at a b ⊢;generalize ch n (k+1)=B at a b ⊢;generalize ch n (k+1+1)=C at a b ⊢;simp only[pC,tI,Cq,Int.mul_sub,Int.mul_one,Int.natCast_one] at a b ⊢;lia
theorem DU:∀n k,k<=n->ch n k%2=(jJ n).getD k 0
 |0,0,_=>rfl
 |n+1,0,_=>by rw[uy];rfl
 |n+1,k+1,h=>by
  have e:(jJ (n+1))=[1]++((List.range n).map λk=>((jJ n).getD k 0+(jJ n).getD (k+1) 0)%2)++[1]:=rfl;rw[e,cJ,ff,kQ (by simp)];simp only[ot,Nat.add_sub_cancel];show(ch n k+ch n (k+1))%2=_;by_cases c:k<n
  ·rw[gv (by simpa using c),fM,C3 c];have b:=DU n k (by lia);have d:=DU n (k+1) (by lia);show _=((jJ n).getD k 0+(jJ n).getD (k+1) 0)%2;lia
  ·have a:k=n:=by lia
   subst a;rw[kQ (by simp),wT,ux k (k+1) (by lia)];simp
theorem Hl{m k:Nat}(b:m<61)(a:k<62):fj m k=decide (ch m k%2=1):=by
 rw[Hy b a];by_cases c:k<=m
 ·rw[cI c,Bool.true_and,Nat.mod_eq_of_lt (by lia:k<m+1),DU m k c]
 ·rw[cO c,Bool.false_and,ux m k (by lia)]
  rfl
noncomputable def eN(a b c:Int):List Int:=if 0<c then[a+b-c,c] else[a+b]
def ah(a b:Int) (n:Nat):List (List Int):=((List.range n).filter λ(c:Nat)=>fj (b-c-1) (a-2*c)).map λ(c:Nat)=>eN a b c
theorem Ro{a b:Int}{n:Nat}(h:fj (b-n-1) (a-2*n)=true):ah a b (n+1)=ah a b n++[eN a b n]:=by
 unfold ah;rw[pD,kN,hZ];simp[pG,h]
theorem QB{a b:Int}{n:Nat}(h:¬ fj (b-n-1) (a-2*n)=true):ah a b (n+1)=ah a b n:=by
 unfold ah;rw[pD,kN];simp[pG,h]
theorem qu(a b:Int)(n:Nat):(ah a b n).length<=n:=by
 unfold ah;rw[bj];exact ay (pP _ _) (by simp)
theorem T7{a b:Int}{i:Nat}(h:0<a+b-(i:Int)):(([a+b-(i:Int),(i:Int)].take 2).filter λx=>decide (0<x))=eN a b i:=by
 unfold eN;have e:[a+b-(i:Int),(i:Int)].take 2=[a+b-(i:Int),(i:Int)]:=rfl;rw[e,pG,if_pos (cI h),pG];by_cases c:0<(i:Int)
 ·rw[if_pos c,if_pos (cI c)]
  rfl
 ·have d:(i:Int)=0:=by lia
  rw[if_neg c,if_neg (by rw[cO c];decide),d,Int.sub_zero]
  rfl
end K23
namespace Dd
open L2 K07 K23
theorem Us:B1 [.int e,.int k] au=.ok (.bl (fj e k)) au:=by
 refine gW rfl ?_;have:decide (Builtin.bitAnd e k=k)=fj e k:=by
  unfold fj;rw[kK];simp
 simp[this]
theorem Sb:lZ [.int i] au=.ok (.bl true) au:=rfl
theorem Ln:Ci [.int a,.int b] au=.ok (.bl (decide (a<2*b))) au:=by
 refine gW rfl ?_;have m:dS 2 b:=.inl ⟨by decide,by decide⟩;simp[m]
theorem EU(r:List Int):(r.map D.int).length=r.length:=bj _
theorem o9{r:List Int}{i:Nat}{x:Int}(h:r[i]?=some x):cn (aL r) (.int i) au=.ok (.int x) au:=nz rfl (Dy (by rw[fM,h];rfl))
theorem Ec:cz [aL r] au=.ok (.int r.length) au:=by show bu.ok (D.int ((r.map D.int).length:Nat)) au=_;rw[bj]
theorem Vl(Q:1<=a)(t:a<=60)(J:-1000<=b)(E:b<=1000):∃g,vj [.int a,.int b] au=.ok (.lst (aJ (aw (ah a b (a/2+1).toNat)))) (au++g):=by
 have W:=o3 (bd:=gN 3) (body:=Fj) (xs:=rng 0 (a/2+1).toNat) (σ:=[some (.int a),some (.int b),some (.ref au.length),none]) (au:=au++[.lst []])
  (λi n s=>(∃v,n=[some (.int a),some (.int b),some (.ref au.length),v])/\s=au++[.lst (aJ (ah a b i))]) ⟨⟨none,rfl⟩,rfl⟩ (by
   rintro i y n s q ⟨⟨v,rfl⟩,rfl⟩;obtain⟨P,rfl⟩:=qg q;have C:i<=60:=by lia
   have S:=qu a b i;have m:dS 2 (0+(i:Int)):=.inl ⟨by decide,by decide⟩;have h:=Us (au:=au++[.lst (aJ (ah a b i))]) (e:=b-(0+(i:Int))-1) (k:=a-2*(0+(i:Int)));have j:(au++[O.lst (aJ (ah a b i))])[au.length]?=some (.lst (aJ (ah a b i))):=by simp
   have p:=mS j;have f:(aJ (ah a b i)).length<sizeLine:=by rw[zc];exact dh _ (by lia)
   have r:=small 1 (by lia);have x:=small 2 (by lia);refine⟨[some (.int a),some (.int b),some (.ref au.length),some (.int (0+i))],[some (.int a),some (.int b),some (.ref au.length),some (.int (0+i))],au++[.lst (aJ (ah a b (i+1)))],rfl,?_,⟨_,rfl⟩,rfl⟩;unfold Fj;rw[n5] at *
   by_cases c:fj (b-i-1) (a-2*i)=true
   ·rw[Ro c];rw[c] at h;by_cases c2:0<i
    ·have l:eN a b i=[a+b-i,(i:Int)]:=by unfold eN;rw[if_pos (by lia)]
     have d:(ah a b i).length<sizeLine:=by rw[zc] at f;exact f
     simp[h,m,p,d,c2,x,l,jm,aJ]
    ·have u:i=0:=by lia
     subst u;have l:eN a b 0=[a+b]:=by unfold eN;rw[if_neg (by lia)]
     have d:(ah a b 0).length<sizeLine:=by rw[zc] at f;exact f
     simp at h m;simp[h,m,p,d,r,l,jm,aJ]
   ·have G:fj (b-i-1) (a-2*i)=false:=by simpa using c
    rw[QB c];rw[G] at h
    simp[h,m,jm])
 obtain⟨A,I,e,⟨v,rfl⟩,rfl⟩:=W;rw[j5] at e;refine⟨[.lst (aJ (ah a b (a/2+1).toNat))],gW rfl ?_⟩;have z:er a 2:=⟨by decide,by decide +kernel⟩
 have w:cg (a/2+1):=ke (by lia) (by lia);have o:(ah a b (a/2+1).toNat).length<=1000000:=by have:=qu a b (a/2+1).toNat;lia
 have j:(au++[O.lst (aJ (ah a b (a/2+1).toNat))])[au.length]?=some (.lst (aJ (ah a b (a/2+1).toNat))):=by simp
 have H:bi [.ref au.length] (au++[.lst (aJ (ah a b (a/2+1).toNat))])=.ok (.lst (aJ (aw (ah a b (a/2+1).toNat)))) (au++[.lst (aJ (ah a b (a/2+1).toNat))]):=by
  unfold bi;simp[mS j,o]
 simp[z,w,e,H]
noncomputable def aX(r:List Int) (p:Nat):Prop:=∃a b:Int,r[p]?=some a/\r[p+1]?=some b/\a<2*b
instance (r:List Int) (p:Nat):Decidable (aX r p):=
 match h1:r[p]?,h2:r[p+1]? with
 |some a,some b=>if h:a<2*b then .isTrue ⟨a,b,h1,h2,h⟩ else .isFalse λ⟨x,y,e1,e2,e3⟩=>by rw[h1] at e1;rw[h2] at e2;cases e1;cases e2;exact h e3
 |none,_=>.isFalse λ⟨x,y,e1,_⟩=>by rw[h1] at e1;cases e1
 |some _,none=>.isFalse λ⟨x,y,_,e2,_⟩=>by rw[h2] at e2;cases e2
theorem Sa{r:List Int}{p:Int}:nJ [aL r,.int p] au=.ok (.bl (decide (0<=p/\aX r p.toNat))) au:=by
 have j:=Sb (au:=au) (i:=p);have f:=Ec (au:=au) (r:=r);by_cases h:0<=p/\p<r.length-1
 ·obtain⟨k,rfl⟩:∃k:Nat,p=k:=⟨p.toNat,by lia⟩
  have v:k<r.length:=by lia
  have q:k+1<r.length:=by lia
  have e:r[k]?=some r[k]:=bV v;have g:r[k+1]?=some r[k+1]:=bV q;have t:=o9 (au:=au) e;have l:=o9 (au:=au) g;rw[pC] at l;have n:=Ln (au:=au) (a:=r[k]) (b:=r[k+1]);have o:(r[k]<2*r[k+1])↔aX r k:=⟨λz=>⟨_,_,e,g,z⟩,λ⟨a,b,m,c,z⟩=>by rw[e] at m;rw[g] at c;cases m;cases c;exact z⟩
  refine gW rfl ?_;have u:(k:Int)<r.length-1:=h.2;simp only[aL] at *
  generalize D.tup (r.map D.int)=R at *
  simp[j,f,t,u,jm];simp at l;simp[l,n,o]
 ·have s:¬ (0<=p/\aX r p.toNat):=λd=>by
   obtain⟨z,a,b,m,c,_⟩:=d;have:=(db.mp c).1;exact h ⟨z,by lia⟩
  refine gW rfl ?_;rw[cO s];simp only[aL] at *
  generalize D.tup (r.map D.int)=R at *
  by_cases z:0<=p
  ·have c:¬ p<(r.length:Int)-1:=λy=>h ⟨z,y⟩
   simp[j,f,z,c,jm]
  ·simp[j,f,z,jm]
def ax(r:List Int) (p:Nat):List (List Int):=(aw (ah (r.getD p 0) (r.getD (p+1) 0) (r.getD p 0/2+1).toNat)).map λtwo=>r.take p++two++r.drop (p+2)
theorem Cf(r:List Int)(p:Nat):(ax r p).length<=(r.getD p 0/2+1).toNat:=by
 unfold ax;rw[bj,vi];exact qu _ _ _
theorem Se:∀r∈ah a b n,r.length<=2:=λr d=>by
 unfold ah at d;obtain⟨c,_,rfl⟩:=bS.mp d;show(eN a b c).length<=2;unfold eN;split<;>simp
theorem BW{a b:List Int}(h:a.length+b.length<=1000000):aM (aL a) (aL b) au=.ok (aL (a++b)) au:=by
 rw[wl,if_pos (by rw[bj,bj];exact small _ h),Kl]
theorem Dz(r:List Int)(k:Nat):cutD (r.map .int) none (some (k:Int))=(r.take k).map .int:=by rw[Gp,List.map_take]
theorem EE(r:List Int)(k:Nat):cutD (r.map .int) (some (k:Int)) none=(r.drop k).map .int:=by rw[KU,List.map_drop]
theorem Sz{r:List Int}{p:Nat}(P:p+1<r.length)(X:r.length<=100)(E:1<=r.getD p 0)(k:r.getD p 0<=60)(t:-1000<=r.getD (p+1) 0)(n:r.getD (p+1) 0<=1000):
  ∃g,ra [aL r,.int p] au=.ok (.lst (aJ (ax r p))) (au++g):=by
 have u:r[p]?=some (r.getD p 0):=by rw[cJ,bV (by lia)];rfl
 have w:r[p+1]?=some (r.getD (p+1) 0):=by rw[cJ,bV (by lia)];rfl
 generalize hA:r.getD p 0=a at *
 generalize hB:r.getD (p+1) 0=b at *
 obtain⟨g,e⟩:=Vl (au:=au) E k t n;have S:(aw (ah a b (a/2+1).toNat)).length<=100:=by
  rw[vi];have:=qu a b (a/2+1).toNat;lia
 have W:=nD (bd:=gN 0) (c:=aI) (f:=aS aM (aS aM (aA 2) (aA 0)) (aA 1)) (xs:=aJ (aw (ah a b (a/2+1).toNat))) (σ:=[none,some (aL (r.drop (p+2))),some (aL (r.take p))]) (au:=au++g)
  (λi acc l s=>s=au++g/\(∃v,l=[v,some (aL (r.drop (p+2))),some (aL (r.take p))])/\acc=aJ (((aw (ah a b (a/2+1).toNat)).take i).map λtwo=>r.take p++two++r.drop (p+2))) ⟨rfl,⟨none,rfl⟩,rfl⟩ (by
   rintro i y acc l s q ⟨rfl,⟨v,rfl⟩,rfl⟩;obtain⟨two,o,rfl⟩:=j3 q;have U:two.length<=2:=Se two ((zo _).mem_iff.mp (ew o));have Q:(r.take p).length<=100:=by rw[g9];lia
   have J:(r.drop (p+2)).length<=100:=by rw[mY];lia
   have x:=BW (au:=au++g) (a:=r.take p) (b:=two) (by lia);have h:=BW (au:=au++g) (a:=r.take p++two) (b:=r.drop (p+2)) (by rw[cQ];lia);refine⟨[some (aL two),some (aL (r.drop (p+2))),some (aL (r.take p))],true,au++g,rfl,rfl,.inr ⟨rfl,aL (r.take p++two++r.drop (p+2)),au++g,?_,rfl,⟨_,rfl⟩,?_⟩⟩
   ·show(aM (aL (r.take p)) (aL two) (au++g)).bind _=_;rw[x];exact h
   ·rw[zf o,hZ]
    simp[aJ])
 obtain⟨I,A,H,h,rfl,_,rfl⟩:=W;rw[zc,dU] at h;refine⟨g,gW rfl ?_⟩;have d:(aJ (aw (ah a b (a/2+1).toNat))).length<=sizeLine:=by rw[zc];exact small _ (by lia)
 have z:=o9 (au:=au) u;have j:=o9 (au:=au) w;rw[pC] at j;have G:=Dz r p;have m:=EE r (p+2);rw[pC] at m;refine fA (σ1:=[some (aL r),some (.int p),some (aL (r.take p)),none]) (st1:=au) (by simp[G]) ?_;refine fA (σ1:=[some (aL r),some (.int p),some (aL (r.take p)),some (aL (r.drop (p+2)))]) (st1:=au) ?_ ?_
 ·simp at m;simp[m]
 ·have C:aH (aE vj (aB (aS cn (aA 0) (aA 1)) (aB (aS cn (aA 0) (aS aM (aA 1) (eC (.int 1)))) aC))) [some (aL r),some (.int p),some (aL (r.take p)),some (aL (r.drop (p+2)))] au=.ok (aJ (aw (ah a b (a/2+1).toNat))) (au++g):=by
   simp only[aL] at *
   generalize D.tup (r.map D.int)=R at *
   simp at j;simp[z,j,e]
  rw[nA,mT,C,zq,if_pos d];show((bm _ _ _ _ [none,some (aL (r.drop (p+2))),some (aL (r.take p))] _).bind _).bind _=_;rw[h];unfold ax;rw[hA,hB]
  rfl
theorem UY{l:List (List Int)}(m:l.Nodup)(p:l.length<=1000000):Ca [aK l] au=.ok (.ref au.length) (au++[.dT (aQ l)]):=by
 have W:=o3 (bd:=gN 2) (body:=Fe) (xs:=aJ l) (σ:=[some (aK l),some (.ref au.length),none]) (au:=au++[.dT []])
  (λi c s=>(∃v,c=[some (aK l),some (.ref au.length),v])/\s=au++[.dT (aQ (l.take i))]) ⟨⟨none,rfl⟩,rfl⟩ (by
   rintro i y c s d ⟨⟨v,rfl⟩,rfl⟩;obtain⟨k,a,rfl⟩:=j3 d;have f:(au++[O.dT (aQ (l.take i))])[au.length]?=some (.dT (aQ (l.take i))):=by simp
   have q:=(db.mp a).1;have o:k∉l.take i:=λz=>by
    have e:(l.take (i+1)).Nodup:=(CV (i+1) l).nodup m;rw[zf a,yr] at e;exact e.2.2 k z k (by simp) rfl
   have b:(aQ (l.take i)).length<sizeLine:=by
    rw[bj,g9];exact dh _ (by lia)
   have g:=tf k;have h:=Rm o;refine⟨[some (aK l),some (.ref au.length),some (aL k)],[some (aK l),some (.ref au.length),some (aL k)],au++[.dT (aQ (l.take (i+1)))],rfl,?_,⟨_,rfl⟩,rfl⟩;rw[zf a,←h];unfold Fe;simp only[aL] at *
   rw[xK];simp only[zW,zq,vX,yC,OM,g,f,b,gr]
   simp)
 obtain⟨n,j,e,⟨v,rfl⟩,rfl⟩:=W;rw[zc,dU] at e;refine gW rfl ?_;refine fA (σ1:=[some (aK l),some (.ref au.length),none]) (st1:=au++[.dT []]) (by simp) ?_;refine fA (σ1:=[some (aK l),some (.ref au.length),v]) (st1:=au++[.dT (aQ l)]) (by rw[q7];exact e) rfl
theorem MW{r:List Int}(d:r.length<=1000000)(k:DS):aG (aH (aA 1)) 1 [] (gN 0) aI (aE lZ (aB (aA 0) aC)) [some τ0,some (aL r)] au=.ok (.lst (r.map λ_=>D.bl true)) au:=by
 have W:=nD (bd:=gN 0) (c:=aI) (f:=aE lZ (aB (aA 0) aC)) (xs:=r.map D.int) (σ:=[none]) (au:=au)
  (λi acc b s=>s=au/\(∃v,b=[v])/\acc=(r.take i).map λ_=>D.bl true) ⟨rfl,⟨none,rfl⟩,rfl⟩ (by
   rintro i y acc b s a ⟨rfl,⟨v,rfl⟩,rfl⟩;rw[fM] at a;cases hx:r[i]? with
   |none=>rw[hx] at a;cases a
   |some x=>
    rw[hx] at a;cases a;refine⟨[some (.int x)],true,s,rfl,rfl,.inr ⟨rfl,.bl true,s,rfl,rfl,⟨_,rfl⟩,?_⟩⟩;rw[zf hx]
    simp)
 obtain⟨j,h,g,e,rfl,_,rfl⟩:=W;rw[EU,dU] at e;rw[mT];show(if(r.map D.int).length<=sizeLine then _ else _)=_;rw[if_pos (by rw[EU];exact small _ d)];show((bm _ _ _ _ [none] _).bind _)=_;rw[e]
 rfl
theorem UK(r:List Int):cP (r.map λ_=>D.bl true)=some (r.map λ_=>true):=by
 induction r with
 |nil=>rfl
 |cons a r ih=>rw[cr,cP,ih];rfl
theorem U2(h:au[n]?=some (.dT (aQ ks)))(g:r∈ks)(f:r.length<=1000000):ve [.ref n,aL r] au=.ok (.bl true) au:=by
 refine gW rfl ?_;have d:=MW (au:=au) (τ0:=.ref n) f [];have a:=xA (k:=r) (BL h);rw[EO,if_pos g] at a;have i:iJ true [.lst (r.map λ_=>D.bl true)] au=.ok (.bl true) au:=by
  unfold iJ;simp[UK]
 have b:aE eK (aB (aA 1) (aB (eC (.ty "tuple")) aC)) [some (.ref n),some (aL r)] au=.ok (.bl true) au:=rfl
 have e:aE (iJ true) (aB (aG (aH (aA 1)) 1 [] (gN 0) aI (aE lZ (aB (aA 0) aC))) aC) [some (.ref n),some (aL r)] au=.ok (.bl true) au:=by
  rw[jY,lV,d];exact i
 have c:aS (iB false) (aA 1) (aA 0) [some (.ref n),some (aL r)] au=.ok (.bl true) au:=a;show aV _ [some (.ref n),some (aL r)] au=_;rw[nA,qS,b,zq];show(iI _ _ [some (.ref n),some (aL r)] au).bind _=_;rw[qS,e,zq];show(aS (iB false) (aA 1) (aA 0) [some (.ref n),some (aL r)] au).bind _=_;rw[c]
 rfl
theorem Va(h:au[n]?=some (.dT (aQ ks)))(G:ks.Nodup)(hk:ks.length<=500000)(E:r∈ks)(X:r.length<=100)(w:aX r p)
  (U:1<=r.getD p 0)(j:r.getD p 0<=60)(A:-1000<=r.getD (p+1) 0)(o:r.getD (p+1) 0<=1000):
  ∃g,Cg [.ref n,aL r,.int p] au=.ok .non ((au.set n (.dT (aQ ((r::ax r p).foldl aP ks))))++g):=by
 have H:p+1<r.length:=by
  obtain⟨a,b,_,z,_⟩:=w;exact(db.mp z).1
 have f:=zr h;have I:=U2 h E (by lia);have t:=Sa (au:=au) (r:=r) (p:=p);rw[cI (p:=0<=(p:Int)/\aX r (p:Int).toNat) ⟨by lia,by rw[kL];exact w⟩] at t;have P:=uC (k:=r) h (by lia);obtain⟨g,C⟩:=Sz (au:=au.set n (.dT (aQ (aP ks r)))) H X U j A o;have hx:=Cf r p;have m:=tz (k:=r) G;have Q:=Sq ks r;have W:=o3 (bd:=gN 3) (body:=Fh) (xs:=aJ (ax r p)) (σ:=[some (.ref n),some (aL r),some (.int p),none]) (au:=au.set n (.dT (aQ (aP ks r)))++g)
  (λi d s=>(∃v,d=[some (.ref n),some (aL r),some (.int p),v])/\s=au.set n (.dT (aQ (((ax r p).take i).foldl aP (aP ks r))))++g) ⟨⟨none,rfl⟩,rfl⟩ (by
   rintro i y d s x ⟨⟨v,rfl⟩,rfl⟩;obtain⟨k,l,rfl⟩:=j3 x;have q:(au.set n (.dT (aQ (((ax r p).take i).foldl aP (aP ks r))))++g)[n]?=some (.dT (aQ (((ax r p).take i).foldl aP (aP ks r)))):=by
    rw[gv (by rw[iT];exact f),lq f]
   have c:(((ax r p).take i).foldl aP (aP ks r)).length<=1000000:=by
    have:=Vb ((ax r p).take i) (aP ks r) m;rw[g9] at this;lia
   have u:=uC (k:=k) q c;have J:(au.set n (.dT (aQ (((ax r p).take i).foldl aP (aP ks r))))++g).set n (.dT (aQ (aP (((ax r p).take i).foldl aP (aP ks r)) k)))=au.set n (.dT (aQ (((ax r p).take (i+1)).foldl aP (aP ks r))))++g:=by
    rw[zf l,lH,List.set_append_left _ _ (by rw[iT];exact f),ME]
    rfl
   rw[J] at u;refine⟨[some (.ref n),some (aL r),some (.int p),some (aL k)],[some (.ref n),some (aL r),some (.int p),some (aL k)],_,rfl,?_,⟨_,rfl⟩,rfl⟩;unfold Fh;rw[Bu,jY];show((jX [.ref n,aL k] _).bind _)=_;rw[u]
   rfl)
 obtain⟨S,Y,e,⟨v,rfl⟩,rfl⟩:=W;rw[zc,dU] at e;refine⟨g,qF (σ:=[some (.ref n),some (aL r),some (.int p),v]) rfl ?_⟩;refine fA (σ1:=[some (.ref n),some (aL r),some (.int p),none]) (st1:=au) ?_ ?_
 ·rw[jx,vJ,ur,jY];show((((ve [.ref n,aL r] au).bind _).bind _).bind _)=_;rw[I]
  rfl
 refine fA (σ1:=[some (.ref n),some (aL r),some (.int p),none]) (st1:=au) ?_ ?_
 ·rw[jx,vJ,ur,jY];show((((nJ [aL r,.int p] au).bind _).bind _).bind _)=_;rw[t]
  rfl
 refine fA (σ1:=[some (.ref n),some (aL r),some (.int p),none]) (st1:=au.set n (.dT (aQ (aP ks r)))) ?_ ?_
 ·rw[Bu,jY];show((jX [.ref n,aL r] au).bind _)=_;rw[P]
  rfl
 ·rw[q7,v0,jY];show((((ra [aL r,.int p] _).bind _)).bind _)=_;rw[C];exact e
structure iM (f:Nat->D) (kvs:List (List Int×D)) (l:List (List Int)):Prop where
 nd:(kvs.map (·.1)).Nodup
 mem:∀k,k∈kvs.map (·.1)↔k∈l
 val:∀p∈kvs,p.2=f (l.count p.1)
 len:kvs.length<=l.length
theorem iM.nil(f:Nat->D):iM f [] []:=⟨mX,λk=>by simp,λp h=>(by cases h),by simp⟩
theorem iM.at(h:iM f b l)(k:List Int):cR b k=if k∈l then some (f (l.count k)) else none:=by
 have d:∀b:List (List Int×D),(∀p∈b,p.2=f (l.count p.1))->cR b k=if k∈b.map (·.1) then some (f (l.count k)) else none:=by
  intro b
  induction b with
  |nil=>intro _;rfl
  |cons a b c=>
   intro g;have c:=c λp i=>g p (bU _ i)
   unfold cR at c ⊢;rw[lD];by_cases e:a.1=k
   ·have:=g a dB;simp only[e,pu,Option.map_some,cr,ca,true_or,gr];rw[this,e]
   ·simp only[cO e];rw[c];simp only[cr,ca,show ¬ k=a.1 from λz=>e z.symm,false_or]
 rw[d b h.val];simp only[h.mem]
theorem iM.put(h:iM f kvs l)(k:List Int):iM f (iz kvs k (f (l.count k+1))) (l++[k]):=by
 have g:(kvs.any λd=>decide (d.1=k))=decide (k∈l):=by
  rw[kK,lF,←h.mem,CJ,bS];constructor
  ·rintro⟨x,o,e⟩;exact⟨x,o,by simpa using e⟩
  ·rintro⟨p,hp,e⟩;exact⟨p,hp,by simpa using e⟩
 unfold iz;rw[g];by_cases hk:k∈l
 ·rw[if_pos (by simpa using hk)];have c:(kvs.map λd=>if d.1=k then(d.1,f (l.count k+1)) else d).map (·.1)=kvs.map (·.1):=by
   rw[eS]
   congr 1
   funext p
   dsimp only[Function.comp];split<;>rfl
  refine⟨by rw[c];exact h.nd,λx=>?_,λp hp=>?_,?_⟩
  ·rw[c,h.mem,dk,et];exact⟨.inl,λz=>z.elim id λe=>e ▸ hk⟩
  ·obtain⟨q,r,rfl⟩:=bS.mp hp;have:=h.val q r;by_cases e:q.1=k
   ·rw[if_pos e];dsimp only;rw[e,lG];simp
   ·rw[if_neg e,this,lG];have:List.count q.1 [k]=0:=by rw[kM];simpa using e
    rw[this];rfl
  ·rw[bj,cQ];have:=h.len;lia
 ·rw[if_neg (by simpa using hk)];refine⟨?_,λx=>?_,λp hp=>?_,?_⟩
  ·rw[hZ,yr];refine⟨h.nd,by simp,λa j b i=>?_⟩;simp at i;subst i;exact λe=>hk ((h.mem _).mp (e ▸ j))
  ·rw[hZ,dk,h.mem,dk];simp
  ·rcases dk.mp hp with hp|hp
   ·have n:=h.val p hp;have m:p.1≠k:=λe=>hk ((h.mem _).mp (e ▸ bS.mpr ⟨p,hp,rfl⟩))
    rw[n,lG];have:List.count p.1 [k]=0:=by rw[kM];simpa using m
    rw[this];rfl
   ·simp at hp;subst hp;rw[lG,kM.mpr hk];simp
  ·rw[cQ,cQ];have:=h.len;simp;exact this
noncomputable def kT(n:Nat):D:=.bl (decide (n%2=1))
theorem NG(n:Nat):kT (n+1)=.bl (!decide (n%2=1)):=by
 unfold kT
 congr 1
 by_cases h:n%2=1
 ·rw[cI h,cO (by lia)];rfl
 ·rw[cO h,cI (by lia)];rfl
theorem EZ(S:eG x=some (aJ l))(hl:l.length<=1000000)(m:(aN l).length<=1000000):∃g,j4 [x] au=.ok (aK (aO l)) (au++g):=by
 have W:=o3 (bd:=gN 2) (body:=E5) (xs:=aJ l) (σ:=[some x,some (.ref au.length),none]) (au:=au++[.dT []])
  (λi d s=>∃(v:Option D) (a:List (List Int×D)),d=[some x,some (.ref au.length),v]/\s=au++[.dT a]/\iM kT a (l.take i)) ⟨none,[],rfl,rfl,iM.nil _⟩ (by
   rintro i y d s r ⟨v,a,rfl,rfl,b⟩;obtain⟨k,o,rfl⟩:=j3 r;have E:=b.put k;have q:(au++[O.dT a])[au.length]?=some (.dT a):=by simp
   have j:(cR a k).getD (.bl false)=.bl (decide ((l.take i).count k%2=1)):=by
    rw[b.at];split
    ·rfl
    ·rename_i z;rw[kM.mpr z];rfl
   have A:=tf k;have J:=BL q;have u:a.length<sizeLine:=by
    have h1:=b.len;have h2:(l.take i).length<=l.length:=by rw[g9];exact rA _ _
    exact dh _ (by lia)
   refine⟨[some x,some (.ref au.length),some (aL k)],[some x,some (.ref au.length),some (aL k)],au++[.dT (iz a k (kT ((l.take i).count k+1)))],rfl,?_,some (aL k),_,rfl,rfl,by rw[zf o];exact E⟩;rw[NG];unfold E5;simp only[aL] at *
   simp only[xK,vW,Lj,vX,zW,yC,OM,zq,J,A,j,q,u,gr]
   simp)
 obtain⟨U,a0,e,v,a,rfl,rfl,b⟩:=W;rw[zc,dU] at b;have V:=nD (bd:=gN 0) (c:=cW (aS eT (aA 1) (aA 0))) (f:=aA 0) (xs:=aJ (a.map (·.1))) (σ:=[none,some (.ref au.length)]) (au:=au++[.fT a])
  (λi acc d s=>s=au++[.fT a]/\(∃w:Option D,d=[w,some (.ref au.length)])/\acc=aJ (((a.map (·.1)).take i).filter λk=>decide (l.count k%2=1))) ⟨rfl,⟨none,rfl⟩,rfl⟩ (by
   rintro i y acc d s r ⟨rfl,⟨w,rfl⟩,rfl⟩;obtain⟨k,o,rfl⟩:=j3 r;have q:(au++[O.fT a])[au.length]?=some (.fT a):=by simp
   have t:k∈l:=(b.mem k).mp (ew o);have j:cR a k=some (kT (l.count k)):=by rw[b.at,if_pos t]
   have A:eT (.ref au.length) (aL k) (au++[O.fT a])=.ok (kT (l.count k)) _:=LX (Ma q) j;refine⟨[some (aL k),some (.ref au.length)],decide (l.count k%2=1),au++[.fT a],rfl,?_,?_⟩
   ·rw[ur];show((eT (.ref au.length) (aL k) (au++[O.fT a])).bind _)=_;rw[A]
    rfl
   ·by_cases m:l.count k%2=1
    ·refine .inr ⟨cI m,aL k,_,rfl,rfl,⟨_,rfl⟩,?_⟩;rw[zf o,kN];simp[m,aJ]
    ·refine .inl ⟨cO m,rfl,⟨_,rfl⟩,?_⟩;rw[zf o,kN]
     simp[m,aJ])
 obtain⟨ys,Y,P,j,rfl,⟨w,rfl⟩,rfl⟩:=V;rw[zc,dU] at j;refine⟨[.fT a],gW rfl ?_⟩;have G:((a.map (·.1)).filter λk=>decide (l.count k%2=1)).Nodup:=b.nd.filter _;have H:∀k,k∈((a.map (·.1)).filter λk=>decide (l.count k%2=1))↔l.count k%2=1:=λk=>by
  rw[dH,b.mem,lF];refine⟨λh=>h.2,λh=>⟨?_,h⟩⟩;rcases yu (l.count k) with z|z
  ·rw[z] at h;cases h
  ·exact rB.mp z
 have u:aw ((a.map (·.1)).filter λk=>decide (l.count k%2=1))=aO l:=DQ G H;have C:((a.map (·.1)).filter λk=>decide (l.count k%2=1)).length<=1000000:=by
  have p:=E2 G (vc l) λk=>by rw[H,sU]
  rw[p.length_eq];exact m
 have I:=UM (au:=au++[.fT a]) C;rw[u] at I;have n:(aJ (a.map (·.1))).length<=sizeLine:=by
  rw[zc,bj];exact small _ (by have:=b.len;lia)
 refine fA (σ1:=[some x,some (.ref au.length),none]) (st1:=au++[.dT []]) (by simp) ?_;refine fA (σ1:=[some x,some (.ref au.length),v]) (st1:=au++[.dT a]) (by simp[S,e]) ?_;have X:aG (ig (aA 1)) 1 [1] (gN 0) (cW (aS eT (aA 1) (aA 0))) (aA 0) [some x,some (.ref au.length),v] (au++[.dT a])=.ok (.lst (aJ ((a.map (·.1)).filter λk=>decide (l.count k%2=1)))) (au++[.fT a]):=by
  rw[mT];have Q:ig (aA 1) [some x,some (.ref au.length),v] (au++[.dT a])=.ok (aJ (a.map (·.1))) (au++[.fT a]):=by
   simp
  rw[Q,zq,if_pos n];show(bm _ _ _ _ [none,some (.ref au.length)] _).bind _=_;rw[j]
  rfl
 rw[nA,jY,lV,jY,lV,X];simp only[zq,vG,I,Tx]
theorem Bt{m:Int}(h:m<=1000):m<2^1000:=On h (by decide +kernel)
theorem IP(a:0<j)(b:j<=1000):er i j:=⟨a,On b (by decide +kernel)⟩
theorem I0(h:er i j):gA (.int i) (.int j) au=.ok (.int (i/j)) au:=by
 show oI er (λi j=>D.int (i/j)) (.int i) (.int j) au=_;rw[zG,if_pos h]
theorem zK(a:-10000<=j)(b:j<=10000):dS i j:=.inr ⟨by lia,by lia⟩
theorem iy(a:-10000<=j)(b:j<=10000):cg j:=ke (by lia) (by lia)
theorem QP(a:f σ au=.ok (.ref n) st1)(e:st1[n]?=some (.lst xs0))(c:g σ st1=.ok [y] st2)(b:st2[n]?=some (.lst xs))(d:xs.length<sizeLine):
  bQ f g σ au=.ok .non (st2.set n (.lst (xs++[y]))):=by
 rw[Q4,a,zq,mS e];dsimp only;rw[c,zq,b];dsimp only;rw[if_pos d]
theorem Uo{M K:Int}{m k:Nat}(d:M=m)(f:K=k)(j:m<=100)(h:k<=100):tp [.int M,.int K] au=.ok (.int (ch m k:Nat)) au:=by
 have W:=o3 (bd:=gN 3) (body:=E9) (xs:=rng 0 K.toNat) (σ:=[some (.int M),some (.int K),some (.int 1),none]) (au:=au)
  (λi c s=>s=au/\∃v C,c=[some (.int M),some (.int K),some (.int C),v]/\C=(ch m i:Nat)) ⟨rfl,none,1,rfl,by rw[uy];rfl⟩ (by
   rintro i y c s g ⟨rfl,v,C,rfl,a⟩;obtain⟨w,rfl⟩:=qg g;generalize hI:(0:Int)+(i:Int)=I;have e:=AS m i;have n:C*(M-I)/(I+1)=((ch m (i+1):Nat):Int):=by
    rw[a,d,←hI,n5,←e];exact Int.mul_ediv_cancel _ (by lia)
   have l:dS C (M-I):=zK (by lia) (by lia);have p:er (C*(M-I)) (I+1):=IP (by lia) (by lia);clear a d f j h e g;refine⟨[some (.int M),some (.int K),some (.int C),some (.int I)],[some (.int M),some (.int K),some (.int (C*(M-I)/(I+1))),some (.int I)],s,rfl,?_,rfl,_,_,rfl,n⟩;unfold E9;have r:aS bH (aA 2) (aS ce (aA 0) (aA 3)) [some (.int M),some (.int K),some (.int C),some (.int I)] s=.ok (.int (C*(M-I))) s:=by simp[l]
   have o:aS aM (aA 3) (eC (.int 1)) [some (.int M),some (.int K),some (.int C),some (.int I)] s=.ok (.int (I+1)) s:=by simp
   rw[rb,kG,r,zq,o,zq,I0 p,zq]
   rfl)
 obtain⟨t,u,e,rfl,v,C,rfl,a⟩:=W;rw[j5] at a;have b:C=(ch m k:Nat):=by rw[a,f];rfl
 have q:cg K:=iy (by lia) (by lia);rw[←b];clear a b d f j h;refine gW rfl ?_;simp[q,e]
theorem UF{a b:Int}{i:Nat}(h:0<a+b-(i:Int)):([a+b-(i:Int),(i:Int)].filter λx=>decide (0<x))=eN a b i:=by
 have:=T7 h;exact this
theorem Ul{a b:Int}(ha:1<=a)(A:a<=40)(hb:1<=b)(S:b<=40)(X:a<2*b):∃g,u9 [.int a,.int b] au=.ok (aK (aw (ah a b (a/2+1).toNat))) (au++g):=by
 have W:=o3 (bd:=gN 3) (body:=E8) (xs:=rng 0 (a/2+1).toNat) (σ:=[some (.int a),some (.int b),some (.ref au.length),none]) (au:=au++[.lst []])
  (λi q s=>(∃v,q=[some (.int a),some (.int b),some (.ref au.length),v])/\s=au++[.lst (aJ (ah a b i))]) ⟨⟨none,rfl⟩,rfl⟩ (by
   rintro i y q s x ⟨⟨v,rfl⟩,rfl⟩;obtain⟨hi,rfl⟩:=qg x;have Q:2*(i:Int)<=a:=by lia
   have hl:=qu a b i;have m:dS 2 (i:Int):=.inl ⟨by decide,by decide⟩;have o:=Uo (au:=au++[.lst (aJ (ah a b i))]) (M:=b-i-1) (K:=a-2*i) (m:=(b-i-1).toNat) (k:=(a-2*i).toNat) (by lia) (by lia) (by lia) (by lia);have j:(((b-i-1).toNat:Nat):Int)=b-i-1:=by lia
   have h:(((a-2*i).toNat:Nat):Int)=a-2*i:=by lia
   have f:(au++[O.lst (aJ (ah a b i))])[au.length]?=some (.lst (aJ (ah a b i))):=by simp
   have hL:=mS f;have l:(ah a b i).length<sizeLine:=dh _ (by lia);have w:=small 2 (by lia);have d:fj (b-i-1) (a-2*i)=decide (((ch (b-i-1).toNat (a-2*i).toNat:Nat):Int)%2=1):=by
    have e:=Hl (m:=(b-i-1).toNat) (k:=(a-2*i).toNat) (by lia) (by lia);rw[j,h] at e;rw[e,kK];simp only[lF];lia
   generalize ch (b-i-1).toNat (a-2*i).toNat=W at o d;clear j h;refine⟨[some (.int a),some (.int b),some (.ref au.length),some (.int (0+i))],[some (.int a),some (.int b),some (.ref au.length),some (.int (0+i))],au++[.lst (aJ (ah a b (i+1)))],rfl,?_,⟨_,rfl⟩,rfl⟩;rw[n5];unfold E8;have I:aG (aH (dO (aB (aS ce (aS aM (aA 0) (aA 1)) (aA 3)) (aB (aA 3) aC)))) 1 [] (gN 0) (eB (aS lQ (aA 0) (eC (.int 0)))) (aA 0) [some (.int a),some (.int b),some (.ref au.length),some (.int i)] (au++[.lst (aJ (ah a b i))])
     = .ok (.lst ((eN a b i).map D.int)) (au++[.lst (aJ (ah a b i))]):=by
    have H:0<a+b-(i:Int):=by lia
    rw[←UF H];have u:(i:Int)<a+b:=by lia
    by_cases c2:0<i
    ·simp[w,bm,gN,aT,u,c2,pG]
    ·have C:i=0:=by lia
     subst C;simp at u;simp[w,bm,gN,aT,u,pG]
   by_cases c:fj (b-i-1) (a-2*i)=true
   ·rw[Ro c];have t:(W:Int)%2=1:=by rw[d] at c;exact gR c
    rw[jx];have p:eB (aS fJ (aS fQ (aE tp (aB (aS ce (aS ce (aA 1) (aA 3)) (eC (.int 1))) (aB (aS ce (aA 0) (aS bH (eC (.int 2)) (aA 3))) aC))) (eC (.int 2))) (eC (.int 1))) [some (.int a),some (.int b),some (.ref au.length),some (.int i)] (au++[.lst (aJ (ah a b i))])=.ok true (au++[.lst (aJ (ah a b i))]):=by
     simp[m,o,t]
    rw[p,zq,if_pos rfl,Bu];have G:aB (aE bE (aB (aG (aH (dO (aB (aS ce (aS aM (aA 0) (aA 1)) (aA 3)) (aB (aA 3) aC)))) 1 [] (gN 0) (eB (aS lQ (aA 0) (eC (.int 0)))) (aA 0)) aC)) aC [some (.int a),some (.int b),some (.ref au.length),some (.int i)] (au++[.lst (aJ (ah a b i))])=.ok [aL (eN a b i)] (au++[.lst (aJ (ah a b i))]):=by
     rw[lV,jY,lV,I]
     rfl
    rw[QP (n:=au.length) rfl f G f (by rw[zc];exact l),zq];simp[aJ]
   ·have t:¬ (W:Int)%2=1:=λz=>c (by rw[d];exact cI z)
    rw[QB c];have p:eB (aS fJ (aS fQ (aE tp (aB (aS ce (aS ce (aA 1) (aA 3)) (eC (.int 1))) (aB (aS ce (aA 0) (aS bH (eC (.int 2)) (aA 3))) aC))) (eC (.int 2))) (eC (.int 1))) [some (.int a),some (.int b),some (.ref au.length),some (.int i)] (au++[.lst (aJ (ah a b i))])=.ok false (au++[.lst (aJ (ah a b i))]):=by
     simp[m,o,t]
    rw[jx,p,zq,if_neg (by decide)]
    rfl)
 obtain⟨P,Y,e,⟨v,rfl⟩,rfl⟩:=W;rw[j5] at e;refine⟨[.lst (aJ (ah a b (a/2+1).toNat))],gW rfl ?_⟩;have J:er a 2:=⟨by decide,by decide +kernel⟩
 have E:cg (a/2+1):=ke (by lia) (by lia);have r:(ah a b (a/2+1).toNat).length<=1000000:=by have:=qu a b (a/2+1).toNat;lia
 have f:(au++[O.lst (aJ (ah a b (a/2+1).toNat))])[au.length]?=some (.lst (aJ (ah a b (a/2+1).toNat))):=by simp
 have U:bi [.ref au.length] (au++[.lst (aJ (ah a b (a/2+1).toNat))])=.ok (.lst (aJ (aw (ah a b (a/2+1).toNat)))) (au++[.lst (aJ (ah a b (a/2+1).toNat))]):=by
  unfold bi;simp[mS f,r]
 simp[J,E,e,U]
structure bt (r:List Int) (most:Int) (long:Nat):Prop where
 pos:∀p∈r,1<=p
 sum:r.sum<=most
 len:r.length<=long
theorem pk{r:List Int}(h:∀p∈r,1<=p):0<=r.sum:=by
 induction r with
 |nil=>simp
 |cons a r ih=>
  rw[fe];have:=h a dB;have:=ih λp b=>h p (bU _ b)
  lia
theorem bC.over(d:bC au s n)(h:n<au.length)(j:au.length<=k):bC au (s.set k o) n:=by
 obtain⟨c,x,b,a,f⟩:=d.bag;exact⟨by rw[iT];exact d.len,λi g e=>by rw[fu (by lia)];exact d.keep i g e,c,x,by rw[fu (by lia)];exact b,a,f⟩
theorem Ea(a:List D)(y:D):L2.atI (a++[y]) (-1)=some y:=by
 unfold L2.atI km;rw[cQ];have e:((-1:Int)+((a.length+[y].length:Nat):Int)).toNat=a.length:=by simp;lia
 rw[if_neg (by lia),if_pos (by simp;lia),e];simp
theorem RN{n:Nat}{m L:Int}{lg:Nat}(eL:L=lg)(a3:lg<=100)(H:ck au n)(h0:0<=m)(h1:m<=900):∃r b,nI [.ref n,.int m,.int L] au=.ok (aL r) b/\bt r m lg/\bC au b n:=by
 have P:n<au.length:=by obtain⟨_,_,e,_⟩:=H;exact zr e
 have B0:ck (au++[.lst []]) n:=(bC.more H [.lst []]).bag;obtain⟨t,st1,e1,t0,t1,D1,Y⟩:=uH B0 (m:=L+1) (by lia) (Bt (by lia));have k1:st1[au.length]?=some (.lst []):=by rw[D1.keep au.length (by simp) (by lia)];simp
 have W:=o3 (bd:=gN 5) (body:=E6) (xs:=rng 0 t.toNat) (σ:=[some (.ref n),some (.int m),some (.int L),some (.ref au.length),some (.int m),none]) (au:=st1)
  (λi A s=>bC au s n/\au.length<s.length/\∃(r:List Int) (left:Int) (v:Option D),A=[some (.ref n),some (.int m),some (.int L),some (.ref au.length),some (.int left),v]/\left=m-r.sum/\s[au.length]?=some (.lst (r.map .int))/\bt r m i)
  ⟨(bC.more H _).trans D1,by rw[Y];simp,[],m,none,rfl,by simp,k1,⟨λp h=>(by cases h),by simpa using h0,by simp⟩⟩ (by
   rintro i x A s hx ⟨k,j,r,left,v,rfl,a,u,c⟩;obtain⟨hi,rfl⟩:=qg hx;generalize hI:(0:Int)+(i:Int)=I;unfold E6;have rs:=pk c.pos;have a2:i<200:=by lia
   by_cases hpos:0<left
   ·obtain⟨C,s2,e2,a0,a1,Q,l2⟩:=uH k.bag (m:=3) (by lia) (Bt (by lia));have o:∃q:Int,1<=q/\q<=left/\cn (.lst [.int left,.int (if 5<left then 5 else left),.int (if 2<left then 2 else left)]) (.int C) s2=.ok (.int q) s2:=by
     rcases(show C=0\/C=1\/C=2 by lia) with rfl|rfl|rfl
     ·exact⟨left,by lia,by lia,rfl⟩
     ·exact⟨if 5<left then 5 else left,by split<;>lia,by split<;>lia,rfl⟩
     ·exact⟨if 2<left then 2 else left,by split<;>lia,by split<;>lia,rfl⟩
    obtain⟨q,q1,q2,e3⟩:=o;obtain⟨p,s3,J,b0,b1,D3,l3⟩:=uH Q.bag (m:=q) q1 (Bt (by lia));have G:s2[au.length]?=some (.lst (r.map .int)):=by rw[Q.keep au.length j (by lia)];exact u
    have X:s3[au.length]?=some (.lst (r.map .int)):=by rw[D3.keep au.length (by lia) (by lia)];exact G
    have E:=small 3 (by lia);have S:(r.map D.int).length<sizeLine:=by rw[EU];exact dh _ (by have:=c.len;lia)
    have d:au.length<s3.length:=by lia
    have w:aB (aS aM (eC (.int 1)) (aE zg (aB (aA 0) (aB (aS cn (dO (aB (aA 4) (aB (aE gH (aB (aA 4) (aB (eC (.int 5)) aC))) (aB (aE gH (aB (aA 4) (aB (eC (.int 2)) aC))) aC)))) (aE zg (aB (aA 0) (aB (eC (.int 3)) aC)))) aC)))) aC
      [some (.ref n),some (.int m),some (.int L),some (.ref au.length),some (.int left),some (.int I)] s=.ok [.int (1+p)] s3:=by
     simp[e2,e3,J,E]
    have y:=QP (f:=aA 3) (σ:=[some (.ref n),some (.int m),some (.int L),some (.ref au.length),some (.int left),some (.int I)]) rfl u w X S;have l:(s3.set au.length (.lst (r.map D.int++[D.int (1+p)])))[au.length]?=some (.lst ((r++[1+p]).map .int)):=by
     rw[lq d,hZ];rfl
    have g:cn (.ref au.length) (.int (-1)) (s3.set au.length (.lst (r.map D.int++[D.int (1+p)])))=.ok (.int (1+p)) (s3.set au.length (.lst (r.map D.int++[D.int (1+p)]))):=by
     refine nz (BX l) ?_;rw[hZ];exact Ea _ _
    refine⟨[some (.ref n),some (.int m),some (.int L),some (.ref au.length),some (.int left),some (.int I)],[some (.ref n),some (.int m),some (.int L),some (.ref au.length),some (.int (left-(1+p))),some (.int I)],s3.set au.length (.lst (r.map D.int++[D.int (1+p)])),rfl,?_,?_,by rw[iT];exact d,r++[1+p],_,_,rfl,?_,l,?_⟩
    ·rw[jx];show(if decide (0<left)=true then _ else _)=_;rw[if_pos (cI hpos)];refine fA (σ1:=[some (.ref n),some (.int m),some (.int L),some (.ref au.length),some (.int left),some (.int I)]) (st1:=s3.set au.length (.lst (r.map D.int++[D.int (1+p)]))) ?_ ?_
     ·rw[Bu,y]
      rfl
     ·simp[g]
    ·exact((k.trans Q).trans D3).over P (br _)
    ·rw[a,gZ];simp;lia
    ·refine⟨λz hz=>?_,?_,?_⟩
     ·rcases dk.mp hz with hz|hz
      ·exact c.pos z hz
      ·simp at hz;lia
     ·rw[gZ];simp;lia
     ·rw[cQ];have:=c.len;simp;lia
   ·refine⟨[some (.ref n),some (.int m),some (.int L),some (.ref au.length),some (.int left),some (.int I)],[some (.ref n),some (.int m),some (.int L),some (.ref au.length),some (.int left),some (.int I)],s,rfl,?_,k,j,r,left,_,rfl,a,u,⟨c.pos,c.sum,oi c.len⟩⟩;rw[jx];show(if decide (0<left)=true then _ else _)=_;rw[if_neg (by rw[cO hpos];decide)]
    rfl)
 obtain⟨a4,b,e,k,j,r,left,v,rfl,a,u,c⟩:=W;rw[j5] at c;refine⟨r,b,gW rfl ?_,⟨c.pos,c.sum,by have:=c.len;lia⟩,k⟩;have a5:=small 0 (by lia);have U:cg t:=iy (by lia) (by lia);refine fA (σ1:=[some (.ref n),some (.int m),some (.int L),some (.ref au.length),none,none]) (st1:=au++[.lst []]) (by simp) ?_;refine fA (σ1:=[some (.ref n),some (.int m),some (.int L),some (.ref au.length),some (.int m),none]) (st1:=au++[.lst []]) (by simp) ?_;refine fA (σ1:=[some (.ref n),some (.int m),some (.int L),some (.ref au.length),some (.int left),v]) (st1:=b) ?_ ?_
 ·have J:hU (aB (aE zg (aB (aA 0) (aB (aS aM (aA 2) (eC (.int 1))) aC))) aC) [some (.ref n),some (.int m),some (.int L),some (.ref au.length),some (.int m),none] (au++[.lst []])=.ok (rng 0 t.toNat) st1:=by
   simp[e1,U]
  rw[q7,J];exact e
 ·rw[nA,jY];show((bE [.ref au.length] b).bind _)=_;rw[Tz u]
  rfl
theorem Um{n:Nat}{A m L:Int}{e:Nat}(G:L=e)(p:e<=100)(hA:0<=A)(H:A<=60)(C:ck au n)(I:0<=m)(J:m<=900):
  ∃l d,nK [.ref n,.int A,.int m,.int L] au=.ok (aK l) d/\(∀r∈l,bt r m e)/\l.Nodup/\(l.length:Int)<=A/\oT l/\bC au d n:=by
 obtain⟨t,st1,Q,t0,t1,U,_⟩:=uH C (m:=A+1) (by lia) (Bt (by lia));have W:=nD (bd:=gN 0) (c:=aI) (f:=aE nI (aB (aA 1) (aB (aA 2) (aB (aA 3) aC)))) (xs:=rng 0 t.toNat) (σ:=[none,some (.ref n),some (.int m),some (.int L)]) (au:=st1)
  (λi acc q s=>bC au s n/\(∃w:Option D,q=[w,some (.ref n),some (.int m),some (.int L)])/\∃l:List (List Int),acc=aJ l/\(∀r∈l,bt r m e)/\l.length=i) ⟨U,⟨none,rfl⟩,[],rfl,λr h=>(by cases h),rfl⟩ (by
   rintro i y acc q s hy ⟨b,⟨w,rfl⟩,l,rfl,k,v⟩;obtain⟨r,S,j,X,P⟩:=RN G p b.bag I J;refine⟨[some y,some (.ref n),some (.int m),some (.int L)],true,s,rfl,rfl,.inr ⟨rfl,aL r,S,?_,b.trans P,⟨_,rfl⟩,l++[r],by simp[aJ],λz hz=>?_,by simp[v]⟩⟩
   ·simp[j]
   ·rcases dk.mp hz with hz|hz
    ·exact k z hz
    ·simp at hz;subst hz
     exact X)
 obtain⟨ys,a0,a,j,b,_,l,rfl,k,v⟩:=W;rw[j5] at v;obtain⟨g,Y⟩:=EZ (au:=a) (x:=.lst (aJ l)) (l:=l) rfl (by lia) (by have:=tE l;lia);refine⟨aO l,a++g,gW rfl ?_,λr h=>k r (nH h),pj l,by have:=Cd l;lia,uW _,b.trans (.more b.bag g)⟩;have u:cg t:=iy (by lia) (by lia);have o:(rng 0 t.toNat).length<=sizeLine:=by rw[j5];exact small _ (by lia)
 have E:hU (aB (aE zg (aB (aA 0) (aB (aS aM (aA 1) (eC (.int 1))) aC))) aC) [some (.ref n),some (.int A),some (.int m),some (.int L)] au=.ok (rng 0 t.toNat) st1:=by
  simp[Q,u]
 show aV _ [some (.ref n),some (.int A),some (.int m),some (.int L)] au=_;rw[nA,jY,lV,mT,E,zq,if_pos o];show(((((bm _ _ _ _ [none,some (.ref n),some (.int m),some (.int L)] st1).bind _).bind _).bind _).bind _)=_;rw[j];show((j4 [.lst (aJ l)] a).bind _)=_;rw[Y]
 rfl
end Dd
namespace Dd
open L2
def WP{b:Type}(r:bu b) (Q:b->ab->Prop):Prop:=match r with
 |.ok a au=>Q a au
 |_=>False
theorem WP.get{b:Type}{r:bu b}{Q:b->ab->Prop}(h:WP r Q):∃a au,r=.ok a au/\Q a au:=by
 cases r with
 |ok a au=>exact⟨a,au,rfl,h⟩
 |exc x au=>exact h.elim
 |stuck=>exact h.elim
theorem WP.of{b:Type}{r:bu b}{Q:b->ab->Prop}{a:b}(e:r=.ok a au)(h:Q a au):WP r Q:=by rw[e];exact h
theorem WP.mono{c:Type}{r:bu c}{Q Q':c->ab->Prop}(h:WP r Q)(k:∀a b,Q a b->Q' a b):WP r Q':=by
 obtain⟨a,b,rfl,q⟩:=h.get;exact k a b q
theorem zm{b c:Type}{r:bu b}{f:b->ab->bu c}{Q:c->ab->Prop}:WP (r.bind f) Q=WP r (λa d=>WP (f a d) Q):=by
 cases r<;>rfl
def jH(t:SS) (Q:Fl->ab->Prop):Fl->ab->Prop:=λfl a=>match fl with
 |.nx σ=>WP (t σ a) Q
 |fl=>Q fl a
theorem wH:WP (aD s t σ au) Q=WP (s σ au) (jH t Q):=by
 unfold aD;cases s σ au with
 |ok fl st1=>cases fl<;>rfl
 |exc x au=>rfl
 |stuck=>rfl
theorem AM{d:Type} [Decidable c]{a b:bu d}{Q:d->ab->Prop}:WP (if c then a else b) Q=if c then WP a Q else WP b Q:=by
 split<;>rfl
theorem EB{b:Type} [Decidable c]{a:bu b}{Q:b->ab->Prop}:WP (if c then a else .stuck) Q=(c/\WP a Q):=by
 by_cases h:c
 ·rw[if_pos h];simp[h]
 ·rw[if_neg h];simp[h,WP]
def kR(Q:D->ab->Prop):Fl->ab->Prop:=λb a=>match b with
 |.ret v=>Q v a
 |.nx _=>Q .non a
 |_=>False
theorem gO{n c:Nat}{b:SS}{a:List D}{d:ab}{Q:D->ab->Prop}(h:a.length=c)(k:WP (b (a.map some++List.replicate (n-c) none) d) (kR Q)):WP (cC n c b a d) Q:=by
 obtain⟨f,g,e,q⟩:=k.get;unfold cC;rw[if_pos h,e];cases f<;>first|exact q|exact q.elim
def bK(Q:Bool->ab->Prop):D->ab->Prop:=λv a=>match v with
 |.bl b=>Q b a
 |_=>False
def gK(c:SG) (Q:Fl->ab->Prop) (b:DS):D->ab->Prop:=λv a=>match c v b with
 |some σ1=>Q (.nx σ1) a
 |none=>False
theorem W:(∀{G:Type}{a:G}{e:ab}{Q:G->ab->Prop},WP (.ok a e) Q=Q a e)
 /\ (∀{s t:SS}{m:DS}{e:ab}{Q:Fl->ab->Prop},WP (aD s t m e) Q=WP (s m e) (jH t Q))
 /\ (∀{t:SS}{m:DS}{e:ab}{Q:Fl->ab->Prop},jH t Q (.nx m) e=WP (t m e) Q)
 /\ (∀{t:SS}{v:D}{e:ab}{Q:Fl->ab->Prop},jH t Q (.ret v) e=Q (.ret v) e)
 /\ (∀{t:SS}{m:DS}{e:ab}{Q:Fl->ab->Prop},jH t Q (.brk m) e=Q (.brk m) e)
 /\ (∀{t:SS}{m:DS}{e:ab}{Q:Fl->ab->Prop},jH t Q (.ct m) e=Q (.ct m) e)
 /\ (∀{v:D}{e:ab}{Q:D->ab->Prop},kR Q (.ret v) e=Q v e)
 /\ (∀{m:DS}{e:ab}{Q:D->ab->Prop},kR Q (.nx m) e=Q .non e)
 /\ (∀{b:Bool}{e:ab}{Q:Bool->ab->Prop},bK Q (.bl b) e=Q b e)
 /\ (∀{d:D}{m:DS}{e:ab}{Q:D->ab->Prop},WP (eC d m e) Q=Q d e)
 /\ (∀{g:D->D->ab->bu D}{f p:SE}{m:DS}{e:ab}{Q:D->ab->Prop},WP (aS g f p m e) Q=WP (f m e) (λx l=>WP (p m l) (λy r=>WP (g x y r) Q)))
 /\ (∀{g:D->ab->bu D}{f:SE}{m:DS}{e:ab}{Q:D->ab->Prop},WP (lR g f m e) Q=WP (f m e) (λx l=>WP (g x l) Q))
 /\ (∀{g:List D->ab->bu D}{f:SA}{m:DS}{e:ab}{Q:D->ab->Prop},WP (aE g f m e) Q=WP (f m e) (λx l=>WP (g x l) Q))
 /\ (∀{m:DS}{e:ab}{Q:List D->ab->Prop},WP (aC m e) Q=Q [] e)
 /\ (∀{f:SE}{g:SA}{m:DS}{e:ab}{Q:List D->ab->Prop},WP (aB f g m e) Q=WP (f m e) (λx l=>WP (g m l) (λn r=>Q (x::n) r)))
 /\ (∀{f:SE}{m:DS}{e:ab}{Q:Bool->ab->Prop},WP (eB f m e) Q=WP (f m e) (bK Q))
 /\ (∀{f p:ST}{m:DS}{e:ab}{Q:Bool->ab->Prop},WP (k8 f p m e) Q=WP (f m e) (λb l=>if b=true then WP (p m l) Q else Q false l))
 /\ (∀{f p:ST}{m:DS}{e:ab}{Q:Bool->ab->Prop},WP (oR f p m e) Q=WP (f m e) (λb l=>if b=true then Q true l else WP (p m l) Q))
 /\ (∀{f:ST}{m:DS}{e:ab}{Q:Bool->ab->Prop},WP (fU f m e) Q=WP (f m e) (λb l=>Q (!b) l))
 /\ (∀{m:DS}{e:ab}{Q:Bool->ab->Prop},WP (aI m e) Q=Q true e)
 /\ (∀{f p:SE}{m:DS}{e:ab}{Q:D->ab->Prop},WP (iI f p m e) Q=WP (f m e) (bK λb l=>if b=true then WP (p m l) Q else Q (.bl false) l))
 /\ (∀{f p:SE}{m:DS}{e:ab}{Q:D->ab->Prop},WP (SW f p m e) Q=WP (f m e) (bK λb l=>if b=true then Q (.bl true) l else WP (p m l) Q))
 /\ (∀{f:SE}{m:DS}{e:ab}{Q:D->ab->Prop},WP (k7 f m e) Q=WP (f m e) (bK λb l=>Q (.bl (!b)) l))
 /\ (∀{c:ST}{f p:SE}{m:DS}{e:ab}{Q:D->ab->Prop},WP (uh c f p m e) Q=WP (c m e) (λb l=>if b=true then WP (f m l) Q else WP (p m l) Q))
 /\ (∀{g:SA}{m:DS}{e:ab}{Q:D->ab->Prop},WP (aR g m e) Q=WP (g m e) (λn l=>n.length<=sizeLine/\Q (.tup n) l))
 /\ (∀{g:SA}{m:DS}{e:ab}{Q:D->ab->Prop},WP (dO g m e) Q=WP (g m e) (λn l=>n.length<=sizeLine/\Q (.lst n) l))
 /\ (∀{g:SA}{m:DS}{e:ab}{Q:D->ab->Prop},WP (dA g m e) Q=WP (g m e) (λn l=>n.length<=sizeLine/\Q (.ref l.length) (l++[.lst n])))
 /\ (∀{m:DS}{e:ab}{Q:D->ab->Prop},WP (eU m e) Q=Q (.ref e.length) (e++[.dT []]))
 /\ (∀{m:DS}{e:ab}{Q:Fl->ab->Prop},WP (eD m e) Q=Q (.nx m) e)
 /\ (∀{m:DS}{e:ab}{Q:Fl->ab->Prop},WP (mz m e) Q=Q (.brk m) e)
 /\ (∀{m:DS}{e:ab}{Q:Fl->ab->Prop},WP (V7 m e) Q=Q (.ct m) e)
 /\ (∀{m:DS}{e:ab}{Q:Fl->ab->Prop},WP (pV m e) Q=Q (.ret .non) e)
 /\ (∀{f:SE}{m:DS}{e:ab}{Q:Fl->ab->Prop},WP (aV f m e) Q=WP (f m e) (λv l=>Q (.ret v) l))
 /\ (∀{f:SE}{m:DS}{e:ab}{Q:Fl->ab->Prop},WP (bX f m e) Q=WP (f m e) (λ_ l=>Q (.nx m) l))
 /\ (∀{i:Nat}{f:SE}{m:DS}{e:ab}{Q:Fl->ab->Prop},WP (aF i f m e) Q=WP (f m e) (λv l=>Q (.nx (m.set i (some v))) l))
 /\ (∀{u:SG}{f:SE}{m:DS}{e:ab}{Q:Fl->ab->Prop},WP (i4 u f m e) Q=WP (f m e) (gK u Q m))
 /\ (∀{c:ST}{s t:SS}{m:DS}{e:ab}{Q:Fl->ab->Prop},WP (dZ c s t m e) Q=WP (c m e) (λb l=>if b=true then WP (s m l) Q else WP (t m l) Q))
 /\ (∀{w:SA}{u:SG}{z:SS}{m:DS}{e:ab}{Q:Fl->ab->Prop},WP (cb w u z m e) Q=WP (w m e) (λn l=>WP (dM u z n m l) Q))
 /\ (∀{w:SA}{k:Nat}{is:List Nat}{u:SG}{c:ST}{f:SE}{m:DS}{e:ab}{Q:D->ab->Prop},WP (aG w k is u c f m e) Q=WP (w m e) (λn l=>n.length<=sizeLine/\WP (bm u c f n (aT k is m) l) (λH r=>Q (.lst H) r)))
 /\ (∀{w:SA}{k:Nat}{is:List Nat}{u:SG}{c:ST}{f:SE}{m:DS}{e:ab}{Q:D->ab->Prop},WP (mJ w k is u c f m e) Q=WP (w m e) (λn l=>n.length<=sizeLine/\WP (bm u c f n (aT k is m) l) (λH r=>Q (.ref r.length) (r++[.lst H]))))
 /\ (∀{C:Int->Int->Prop} [DecidableRel C] {h:Int->Int->D}{i j:Int}{e:ab}{Q:D->ab->Prop},WP (oI C h (.int i) (.int j) e) Q=(C i j/\Q (h i j) e))
 /\ (∀{i j:Int}{e:ab}{Q:D->ab->Prop},WP (aM (.int i) (.int j) e) Q=Q (.int (i+j)) e)
 /\ (∀{a b:List D}{e:ab}{Q:D->ab->Prop},WP (aM (.tup a) (.tup b) e) Q=(a.length+b.length<=sizeLine/\Q (.tup (a++b)) e))
 /\ (∀{i j:Int}{e:ab}{Q:D->ab->Prop},WP (fB (.int i) (.int j) e) Q=Q (.bl (decide (i<j))) e)
 /\ (∀{i j:Int}{e:ab}{Q:D->ab->Prop},WP (eO false (.int i) (.int j) e) Q=Q (.bl (decide (i=j))) e)
 /\ (∀{i j:Int}{e:ab}{Q:D->ab->Prop},WP (eO true (.int i) (.int j) e) Q=Q (.bl (!decide (i=j))) e)
 /\ (∀{i:Int}{e:ab}{Q:D->ab->Prop},WP (gj (.int i) e) Q=Q (.int (-i)) e)
 /\ (∀{i j:Int}{g:Int->Int->Int}{e:ab}{Q:D->ab->Prop},WP (ui g [.int i,.int j] e) Q=Q (.int (g i j)) e)
 /\ (∀{i:Int}{e:ab}{Q:D->ab->Prop},WP (k9 [.int i] e) Q=Q (.int (if i<0 then -i else i)) e)
 /\ (∀{b:Bool}{e:ab}{Q:D->ab->Prop},WP (PD [.bl b] e) Q=Q (.int (if b=true then 1 else 0)) e)
 /\ (∀{n:List D}{e:ab}{Q:D->ab->Prop},WP (cz [.tup n] e) Q=Q (.int n.length) e)
 /\ (∀{n:List D}{e:ab}{Q:D->ab->Prop},WP (cz [.lst n] e) Q=Q (.int n.length) e)
 /\ (∀{n:List D}{e:ab}{Q:D->ab->Prop},WP (cz [.scr n] e) Q=Q (.int n.length) e)
 /\ (∀{n:List D}{e:ab}{Q:D->ab->Prop},WP (bE [.tup n] e) Q=Q (.tup n) e)
 /\ (∀{n:List D}{e:ab}{Q:D->ab->Prop},WP (bE [.lst n] e) Q=Q (.tup n) e)
 /\ (∀{n:List D}{e:ab}{Q:D->ab->Prop},WP (eW [.tup n] e) Q=Q (.lst n) e)
 /\ (∀{n:List D}{e:ab}{Q:D->ab->Prop},WP (eW [.lst n] e) Q=Q (.lst n) e)
 /\ (∀{d:D}{m:DS}{e:ab}{Q:D->ab->Prop},WP (aA 0 (some d::m) e) Q=Q d e)
 /\ (∀{i:Nat}{m:DS}{e:ab}{Q:D->ab->Prop}{o:Option D},WP (aA (i+1) (o::m) e) Q=WP (aA i m e) Q)
 /\ (∀{f:SE}{m:DS}{e:ab}{Q:List D->ab->Prop},WP (aH f m e) Q=WP (f m e) (λx l=>∃n,eG x=some n/\Q n l))
 /\ (∀{f:SE}{m:DS}{e:ab}{Q:Bool->ab->Prop},WP (cW f m e) Q=WP (f m e) (λx l=>∃b,jm l x=some b/\Q b l))
 /\ (∀{g:SA}{m:DS}{e:ab}{Q:List D->ab->Prop},WP (hU g m e) Q=WP (g m e) (λn l=>∃j,n=[.int j]/\cg j/\Q (rng 0 j.toNat) l))
 /\ (∀{g:SA}{m:DS}{e:ab}{Q:List D->ab->Prop},WP (SV g m e) Q=WP (g m e) (λn l=>∃i j,n=[.int i,.int j]/\cg i/\cg j/\Q (rng i (j-i).toNat) l)):=by
 have E:∀{G:Type}{c:Prop} [Decidable c] {a:G}{e:ab}{Q:G->ab->Prop},WP (if c then .ok a e else .stuck) Q=(c/\Q a e):=λ{G c _ a e Q}=>EB
 refine⟨rfl,wH,rfl,rfl,rfl,rfl,rfl,rfl,rfl,rfl,?_⟩;refine⟨?_,?_⟩
 ·intros;rw[kG,zm];congr;funext x l;rw[zm]
 refine⟨zm,zm,rfl,?_⟩;refine⟨?_,?_⟩
 ·intros;rw[lV,zm];congr;funext x l;rw[zm];rfl
 refine⟨?_,?_⟩
 ·intros;rw[Ps,zm];congr;funext x l;cases x<;>rfl
 refine⟨?_,?_⟩
 ·intros;rw[Gc,zm];congr;funext x l;rw[AM];rfl
 refine⟨?_,?_⟩
 ·intros;rw[Fo,zm];congr;funext x l;rw[AM];rfl
 refine⟨zm,rfl,?_⟩;refine⟨?_,?_⟩
 ·intros;rw[qS,zm];congr;funext x l;cases x<;>try rfl
  rename_i b;cases b<;>rfl
 refine⟨?_,?_⟩
 ·intros;rw[FJ,zm];congr;funext x l;cases x<;>try rfl
  rename_i b;cases b<;>rfl
 refine⟨?_,?_⟩
 ·intros;rw[vW,zm];congr;funext x l;cases x<;>rfl
 refine⟨?_,?_⟩
 ·intros;rw[FI,zm];congr;funext x l;rw[AM]
 refine⟨?_,?_⟩
 ·intros;rw[GT,zm];congr;funext x l;rw[E]
 refine⟨?_,?_⟩
 ·intros;rw[GS,zm];congr;funext x l;rw[E]
 refine⟨?_,?_⟩
 ·intros;rw[IZ,zm];congr;funext x l;rw[E]
 refine⟨rfl,rfl,rfl,rfl,rfl,zm,zm,zm,?_⟩;refine⟨?_,?_⟩
 ·intro u f m e Q;unfold i4;rw[zm];congr;funext x l;unfold gK;cases u x m<;>rfl
 refine⟨?_,?_⟩
 ·intros;rw[jx,zm];congr;funext x l;rw[AM]
 refine⟨zm,?_⟩;refine⟨?_,?_⟩
 ·intros;rw[mT,zm];congr;funext x l;rw[EB,zm];rfl
 refine⟨?_,?_⟩
 ·intros;unfold mJ;rw[zm];congr;funext x l;rw[EB,zm];rfl
 refine⟨?_,?_⟩
 ·intros;rw[zG,E]
 refine⟨rfl,?_⟩;refine⟨?_,?_⟩
 ·intros;rw[wl,E]
 refine⟨rfl,?_⟩;refine⟨?_,?_⟩
 ·intros;rw[show ∀i j e,eO false (.int i) (.int j) e=_ from λi j e=>FO];rfl
 refine⟨?_,?_⟩
 ·intros;rw[show ∀i j e,eO true (.int i) (.int j) e=_ from λi j e=>FR];rfl
 refine⟨rfl,rfl,rfl,rfl,rfl,rfl,rfl,rfl,rfl,rfl,rfl,λ{d m e Q}=>rfl,λ{i m e Q o}=>rfl,?_⟩;refine⟨?_,?_⟩
 ·intros;rw[v0,zm];congr;funext x l
  cases h:eG x with
  |none=>simp[WP]
  |some n=>simp[WP]
 refine⟨?_,?_⟩
 ·intros;rw[ur,zm];congr;funext x l
  cases h:jm l x with
  |none=>simp[WP]
  |some n=>simp[WP]
 refine⟨?_,?_⟩
 ·intros;rw[FM,zm];congr;funext x l
  split
  ·rw[E];simp[cg]
  ·rename_i A;have:∀j,x≠[D.int j]:=λj h=>A j h
   simp[WP,this]
 ·intros;rw[FN,zm];congr;funext x l
  split
  ·rw[E];simp only[cg,List.cons.injEq,D.int.injEq,and_true];apply propext;constructor
   ·rintro⟨h,q⟩;exact⟨_,_,⟨rfl,rfl⟩,h.1,h.2,q⟩
   ·rintro⟨P,S,⟨rfl,rfl⟩,J,I,q⟩;exact⟨⟨J,I⟩,q⟩
  ·rename_i A;have:∀i j,x≠[D.int i,D.int j]:=λi j h=>A i j h
   simp[WP,this]
def gC(I:DS->ab->Prop) (Q:Fl->ab->Prop):Fl->ab->Prop:=λb a=>match b with
 |.nx σ=>I σ a
 |.ct σ=>I σ a
 |.brk σ=>Q (.nx σ) a
 |.ret v=>Q (.ret v) a
theorem Si{j:SG}{d:SS}{Q:Fl->ab->Prop}(I:Nat->DS->ab->Prop):∀(e:List D) (k:Nat) (c:DS) (b:ab),I k c b ->
  (∀i x c b,e[i]?=some x->I (k+i) c b->∃g,j x c=some g/\WP (d g b) (gC (I (k+i+1)) Q))->(∀c b,I (k+e.length) c b->Q (.nx c) b)->WP (dM j d e c b) Q
 |[],k,c,b,h,_,q=>q c b h
 |x::e,k,c,b,h,s,q=>by
  obtain⟨g,o,w⟩:=s 0 x c b rfl h;obtain⟨p,f,n,w⟩:=w.get;unfold dM;rw[o];dsimp only;rw[n]
  have l:∀a,I (k+0+1) a f->WP (dM j d e a f) Q:=λa r=>Si I e (k+1) a f r (λi y c b m t=>by
   have:=s (i+1) y c b (by simpa using m) (by rw[show k+(i+1)=k+1+i by lia];exact t);rw[show k+(i+1)+1=k+1+i+1 by lia] at this
   exact this) (λc b h=>q c b (by rw[dw,show k+(e.length+1)=k+1+e.length by lia];exact h))
  cases p with
  |nx a=>exact l a w
  |ct a=>exact l a w
  |brk a=>exact w
  |ret v=>exact w
theorem iW(I:Nat->DS->ab->Prop) (f:I 0 b a)
  (s:∀i x b a,xs[i]?=some x->I i b a->∃c,bd x b=some c/\WP (body c a) (gC (I (i+1)) Q))(q:∀b a,I xs.length b a->Q (.nx b) a):WP (dM bd body xs b a) Q:=
 Si I xs 0 b a f (λi x b a e d=>by rw[iS] at d ⊢;exact s i x b a e d) λb a h=>q b a (by rw[iS] at h;exact h)
theorem L:(∀{I:DS->ab->Prop}{Q:Fl->ab->Prop}{b:DS}{a:ab},gC I Q (.nx b) a=I b a)
 /\ (∀{I:DS->ab->Prop}{Q:Fl->ab->Prop}{b:DS}{a:ab},gC I Q (.ct b) a=I b a)
 /\ (∀{I:DS->ab->Prop}{Q:Fl->ab->Prop}{b:DS}{a:ab},gC I Q (.brk b) a=Q (.nx b) a)
 /\ (∀{I:DS->ab->Prop}{Q:Fl->ab->Prop}{v:D}{a:ab},gC I Q (.ret v) a=Q (.ret v) a):=⟨rfl,rfl,rfl,rfl⟩
theorem E7{n:SG}{c:ST}{f:SE}(I:Nat->List D->DS->ab->Prop):∀(j:List D) (k:Nat) (acc:List D) (d:DS) (au:ab) (Q:List D->ab->Prop),I k acc d au ->
  (∀i x acc d au,j[i]?=some x->I (k+i) acc d au->∃a,n x d=some a/\WP (c a au) (λb e=>if b=true then WP (f a e) (λy g=>I (k+i+1) (acc++[y]) a g) else I (k+i+1) acc a e)) ->
  (∀l d au,I (k+j.length) (acc++l) d au->Q l au)->WP (bm n c f j d au) Q
 |[],k,acc,d,au,Q,h,_,q=>q [] d au (by rw[jA];exact h)
 |x::j,k,acc,d,au,Q,h,s,q=>by
  obtain⟨a,u,w⟩:=s 0 x acc d au rfl h;obtain⟨b,e,t,w⟩:=w.get;have o:∀i y acc d au,j[i]?=some y->I (k+1+i) acc d au->∃a,n y d=some a/\WP (c a au) (λb e=>if b=true then WP (f a e) (λy g=>I (k+1+i+1) (acc++[y]) a g) else I (k+1+i+1) acc a e):=λi y acc d au r z=>by
   have:=s (i+1) y acc d au (by simpa using r) (by rw[show k+(i+1)=k+1+i by lia];exact z);rw[show k+(i+1)+1=k+1+i+1 by lia] at this;exact this
  have p:∀(m:List D) d au,I (k+1+j.length) m d au->I (k+(x::j).length) m d au:=λm d au h=>by rw[dw,show k+(j.length+1)=k+1+j.length by lia];exact h
  unfold bm;rw[u];dsimp only;rw[t];dsimp only[zq];cases b with
  |false=>
   rw[if_neg (by decide)] at w ⊢;exact E7 I j (k+1) acc a e Q w o λl d au h=>q l d au (p _ _ _ h)
  |true=>
   rw[if_pos rfl] at w ⊢;obtain⟨y,g,v,w⟩:=w.get;rw[v];dsimp only[zq];rw[zm];exact E7 I j (k+1) (acc++[y]) a g _ w o λl d au h=>q (y::l) d au (p _ _ _ (by rw[ff] at h;exact h))
theorem xV(I:Nat->List D->DS->ab->Prop) (m:I 0 [] e a)
  (s:∀i x acc e a,xs[i]?=some x->I i acc e a->∃d,bd x e=some d/\WP (c d a) (λb g=>if b=true then WP (f d g) (λy k=>I (i+1) (acc++[y]) d k) else I (i+1) acc d g))
  (q:∀j e a,I xs.length j e a->Q j a):WP (bm bd c f xs e a) Q:=
 E7 I xs 0 [] e a Q m (λi x acc e a n l=>by rw[iS] at l ⊢;exact s i x acc e a n l) λj e a h=>q j e a (by rw[iS] at h;simpa using h)
theorem AN{o:SG}{c:ST}{f:SE}{j:Type}(S:DS->Prop)(P:j->Bool)(G:j->D)(E:j->D){as:List j}{d:DS}{g:ab}{Q:List D->ab->Prop}(u:S d)
  (s:∀x∈as,∀d,S d->∃a,o (E x) d=some a/\S a/\WP (c a g) (λb e=>e=g/\b=P x)/\(P x=true->WP (f a g) (λy e=>e=g/\y=G x)))
  (q:Q ((as.filter P).map G) g):WP (bm o c f (as.map E) d g) Q:=by
 refine xV (λi acc d k=>S d/\k=g/\acc=((as.take i).filter P).map G) ⟨u,rfl,rfl⟩ (λi x acc d k n l=>?_) λH d k l=>?_
 ·obtain⟨C,rfl,rfl⟩:=l;rw[fM] at n;obtain⟨z,m,rfl⟩:=jE.mp n;obtain⟨a,w,h,A,r⟩:=s z (ew m) d C;refine⟨a,w,A.mono λb e t=>?_⟩;obtain⟨rfl,rfl⟩:=t;cases hP:P z with
  |false=>
   rw[if_neg (by decide)];refine⟨h,rfl,?_⟩;rw[zf m,kN,hE (by rw[hP];decide)];simp
  |true=>
   rw[if_pos rfl];refine(r hP).mono λy v p=>?_
   obtain⟨rfl,rfl⟩:=p;refine⟨h,rfl,?_⟩;rw[zf m,kN,gV hP,hZ];simp
 ·obtain⟨_,rfl,rfl⟩:=l;rw[bj,dU];exact q
theorem V:(∀{c:Type}{a b:c}{l:List c},(a::l).set 0 b=b::l)
 /\ (∀{c:Type}{a b:c}{l:List c}{i:Nat},(a::l).set (i+1) b=a::l.set i b)
 /\ (∀{e:DS}{k:Nat}{is:List Nat},aT k is e=List.replicate k none++is.map λi=>(e[i]?).getD none)
 /\ (∀{c:Type}{a:c}{k:Nat},List.replicate (k+1) a=a::List.replicate k a)
 /\ (∀{c:Type}{a:c},List.replicate 0 a=[])
 /\ (∀{c g:Type}{f:c->g}{a:c}{l:List c},(a::l).map f=f a::l.map f)
 /\ (∀{c g:Type}{f:c->g},([]:List c).map f=[])
 /\ (∀{c:Type}{a:c}{l m:List c},(a::l)++m=a::(l++m))
 /\ (∀{c:Type}{l:List c},[]++l=l)
 /\ (∀{c:Type}{a:c}{l:List c},(a::l)[0]?=some a)
 /\ (∀{c:Type}{a:c}{l:List c}{i:Nat},(a::l)[i+1]?=l[i]?)
 /\ (∀{c:Type}{a:c}{d:c},(some a).getD d=a)
 /\ (∀{i:Nat}{d:D}{e:DS},gN i d e=some (e.set i (some d)))
 /\ (∀{p:Prop} [Decidable p],(decide p=true)=p)
 /\ (∀{p:Prop} [Decidable p],((!decide p)=true)=¬ p)
 /\ (∀{b:Bool},((!b)=true)=(b=false))
 /\ (∀{a b:Prop},(if True then a else b)=a)
 /\ (∀{a b:Prop},(if False then a else b)=b)
 /\ (∀{a b:Prop},(if true=true then a else b)=a)
 /\ (∀{a b:Prop},(if false=true then a else b)=b)
 /\ (∀{c:Type}{a b:c},(if True then a else b)=a)
 /\ (∀{c:Type}{a b:c},(if False then a else b)=b)
 /\ ((true=false)=False)/\((false=true)=False)/\((true=true)=True)/\((false=false)=True)/\((¬ True)=False)/\((¬ False)=True):=by
 refine⟨rfl,rfl,rfl,rfl,rfl,rfl,rfl,rfl,rfl,rfl,?_,rfl,rfl,?_,?_,?_,rfl,rfl,rfl,rfl,rfl,rfl,by simp,by simp,by simp,by simp,by simp,by simp⟩
 ·intros;rfl
 ·intro p _;simp
 ·intro p _;simp
 ·intro b;simp
theorem M:(∀{f:SE}{m:DS}{d:ab}{Q:Option Int->ab->Prop},WP (cE f m d) Q=WP (f m d) (λv c=>∃i,v=.int i/\Q (some i) c))
 /\ (∀{m:DS}{d:ab}{Q:Option Int->ab->Prop},WP (cF m d) Q=Q none d)
 /\ (∀{f:SE}{lo H:DS->ab->bu (Option Int)}{m:DS}{d:ab}{Q:D->ab->Prop},WP (iU f lo H m d) Q=WP (f m d) (λx c=>WP (lo m c) (λl p=>WP (H m p) (λh r=>(∃o,x=.tup o/\Q (.tup (cutD o l h)) r)\/(∃o,fw r x=some o/\Q (.lst (cutD o l h)) r)))))
 /\ (∀{f:SE}{m:DS}{d:ab}{Q:D->ab->Prop},WP (p8 f m d) Q=WP (f m d) (λx c=>∃n o,x=.ref n/\c[n]?=some (.lst o)/\Q (.lst o) (c.set n .dead)))
 /\ (∀{f g h:SE}{m:DS}{d:ab}{Q:Fl->ab->Prop},WP (fg f g h m d) Q=WP (h m d) (λv c=>WP (f m c) (λx p=>WP (g m p) (λy r=>∃n k o j,x=.ref n/\y=.int k/\r[n]?=some (.lst o)/\km o.length k=some j/\Q (.nx m) (r.set n (.lst (o.set j v)))))))
 /\ (∀{f:SE}{g:SA}{m:DS}{d:ab}{Q:D->ab->Prop},WP (bQ f g m d) Q=WP (f m d) (λx c=>∃n s,x=.ref n/\c[n]?=some (.lst s)/\WP (g m c) (λE p=>∃y o,E=[y]/\p[n]?=some (.lst o)/\o.length<sizeLine/\Q .non (p.set n (.lst (o++[y]))))))
 /\ (∀{x:D}{d:ab}{Q:D->ab->Prop},WP (gn [x] d) Q=∃t,(cS d x).bind bP=some t/\Q (.int t.sum) d)
 /\ (∀{x:D}{w:Bool}{d:ab}{Q:D->ab->Prop},WP (iJ w [x] d) Q=∃G,(fw d x).bind cP=some G/\Q (.bl (if w then G.all id else G.any id)) d)
 /\ (∀{x:D}{C:Bool}{d:ab}{Q:D->ab->Prop},WP (qa C [x] d) Q=∃n t,(cS d x).bind bP=some (n::t)/\Q (.int (cG C n t)) d)
 /\ (∀{g:SA}{m:DS}{d:ab}{Q:List D->ab->Prop},WP (p7 g m d) Q=WP (g m d) (λo c=>∃a b,o=[.tup a,.tup b]/\Q (jK a b) c))
 /\ (∀{i:Nat}{g:D->D->ab->bu D}{f:SE}{m:DS}{d:ab}{Q:Fl->ab->Prop},WP (jI i g f m d) Q=∃x,m[i]?=some (some x)/\WP (f m d) (λy c=>WP (g x y c) (λz p=>Q (.nx (m.set i (some z))) p))):=by
 refine⟨?_,rfl,?_,?_,?_,?_,?_,?_,?_,?_,?_⟩
 ·intros;rw[JX,zm];congr;funext x c
  cases x<;>simp[WP]
 ·intros;rw[FK,zm];congr;funext x c;rw[zm];congr;funext l p;rw[zm];congr;funext h r
  apply propext;split
  ·constructor
   ·intro q;exact .inl ⟨_,rfl,q⟩
   ·rintro(⟨o,e,q⟩|⟨o,e,q⟩)
    ·cases e;exact q
    ·cases e
  ·rename_i u;constructor
   ·intro q;split at q
    ·rename_i o e;exact .inr ⟨o,e,q⟩
    ·exact q.elim
   ·rintro(⟨o,e,q⟩|⟨o,e,q⟩)
    ·exact absurd e (u o)
    ·rw[e];exact q
 ·intros;rw[FH,zm];congr;funext x c
  apply propext;constructor
  ·intro q;split at q
   ·split at q
    ·rename_i o e;exact⟨_,o,rfl,e,q⟩
    ·exact q.elim
   ·exact q.elim
  ·rintro⟨n,o,rfl,e,q⟩;dsimp only;rw[e];exact q
 ·intros;rw[MB,zm];congr;funext v c;rw[zm];congr;funext x p;rw[zm];congr;funext y r
  apply propext;constructor
  ·intro q;split at q
   ·split at q
    ·split at q
     ·exact⟨_,_,_,_,rfl,rfl,by assumption,by assumption,q⟩
     ·exact q.elim
    ·exact q.elim
   ·exact q.elim
  ·rintro⟨n,k,o,j,rfl,rfl,I,A,q⟩;dsimp only;rw[I];dsimp only;rw[A];exact q
 ·intros;rw[Q4,zm];congr;funext x c
  apply propext;constructor
  ·intro q;split at q
   ·rename_i n s e;rw[zm] at q;have J:c[n]?=some (.lst s):=by
     unfold fw at e;dsimp only at e;split at e
     ·cases e;assumption
     ·cases e
    refine⟨n,s,rfl,J,q.mono λE p h=>?_⟩;split at h
    ·split at h
     ·exact⟨_,_,rfl,by assumption,by assumption,h⟩
     ·exact h.elim
    ·exact h.elim
   ·exact q.elim
  ·rintro⟨n,s,rfl,e,q⟩;rw[mS e];dsimp only;rw[zm];refine q.mono λE p h=>?_
   obtain⟨y,o,rfl,A,P,h⟩:=h;rw[A];dsimp only;rw[if_pos P];exact h
 ·intro x d Q;unfold gn;dsimp only;cases h:(cS d x).bind bP with
  |none=>simp[WP]
  |some t=>simp[WP]
 ·intro x w d Q;unfold iJ;dsimp only;cases h:(fw d x).bind cP with
  |none=>simp[WP]
  |some t=>simp[WP]
 ·intro x C d Q;unfold qa;dsimp only;cases h:(cS d x).bind bP with
  |none=>simp[WP]
  |some t=>
   cases t with
   |nil=>simp[WP]
   |cons n t=>
    apply propext;constructor
    ·intro q;exact⟨_,_,rfl,q⟩
    ·rintro⟨a,b,e,q⟩;cases e;exact q
 ·intro g m d Q;unfold p7;rw[zm];congr;funext x c
  apply propext;constructor
  ·intro q;split at q
   ·exact⟨_,_,rfl,q⟩
   ·exact q.elim
  ·rintro⟨a,b,rfl,q⟩;exact q
 ·intro i g f m d Q;rw[HW];apply propext;constructor
  ·intro q;split at q
   ·rename_i x e;rw[zm] at q;exact⟨x,e,q.mono λy c h=>by rw[zm] at h;exact h⟩
   ·exact q.elim
  ·rintro⟨x,e,q⟩;rw[e];dsimp only;rw[zm];exact q.mono λy c h=>by rw[zm];exact h
theorem N:(∀{g:List D}{P:List D->Prop},(∃f,D.tup g=D.tup f/\P f)=P g)
 /\ (∀{i:Int}{P:Int->Prop},(∃j,D.int i=D.int j/\P j)=P i)
 /\ (∀{g:List D}{h:ab}{P:List D->Prop},(∃f,fw h (.tup g)=some f/\P f)=False)
 /\ (∀{g:List D}{h:ab}{P:List D->Prop},(∃f,fw h (.lst g)=some f/\P f)=P g)
 /\ (∀{g:List D}{P:List D->Prop},(∃f,eG (.tup g)=some f/\P f)=P g)
 /\ (∀{g:List D}{P:List D->Prop},(∃f,eG (.lst g)=some f/\P f)=P g)
 /\ (∀{b:Bool}{h:ab}{P:Bool->Prop},(∃c,jm h (.bl b)=some c/\P c)=P b)
 /\ (∀{i:Int}{P:Int->Prop},(∃j,[D.int i]=[D.int j]/\P j)=P i)
 /\ (∀{i j:Int}{P:Int->Int->Prop},(∃k l,[D.int i,D.int j]=[D.int k,D.int l]/\P k l)=P i j)
 /\ (∀{x:D}{P:D->Prop},(∃y,[x]=[y]/\P y)=P x)
 /\ (∀{a b:List D}{P:List D->List D->Prop},(∃c d,[D.tup a,D.tup b]=[.tup c,.tup d]/\P c d)=P a b)
 /\ (∀{p:Prop},(p\/False)=p)/\(∀{p:Prop},(True/\p)=p):=by
 refine⟨?_,?_,?_,?_,?_,?_,?_,?_,?_,?_,?_,by simp,by simp⟩
 ·intros;apply propext;exact⟨λ⟨_,e,p⟩=>by cases e;exact p,λp=>⟨_,rfl,p⟩⟩
 ·intros;apply propext;exact⟨λ⟨_,e,p⟩=>by cases e;exact p,λp=>⟨_,rfl,p⟩⟩
 ·intros;apply propext;exact⟨λ⟨_,e,p⟩=>(by cases e),λp=>p.elim⟩
 ·intros;apply propext;exact⟨λ⟨_,e,p⟩=>by cases e;exact p,λp=>⟨_,rfl,p⟩⟩
 ·intros;apply propext;exact⟨λ⟨_,e,p⟩=>by cases e;exact p,λp=>⟨_,rfl,p⟩⟩
 ·intros;apply propext;exact⟨λ⟨_,e,p⟩=>by cases e;exact p,λp=>⟨_,rfl,p⟩⟩
 ·intros;apply propext;exact⟨λ⟨_,e,p⟩=>by cases e;exact p,λp=>⟨_,rfl,p⟩⟩
 ·intros;apply propext;exact⟨λ⟨_,e,p⟩=>by cases e;exact p,λp=>⟨_,rfl,p⟩⟩
 ·intros;apply propext;exact⟨λ⟨_,_,e,p⟩=>by cases e;exact p,λp=>⟨_,_,rfl,p⟩⟩
 ·intros;apply propext;exact⟨λ⟨_,e,p⟩=>by cases e;exact p,λp=>⟨_,rfl,p⟩⟩
 ·intros;apply propext;exact⟨λ⟨_,_,e,p⟩=>by cases e;exact p,λp=>⟨_,_,rfl,p⟩⟩
theorem ls(b:ck au n)(h:1<=m)(d:m<=1000000)(k:∀r a,0<=r->r<m->bC au a n->Q (.int r) a):WP (zg [.ref n,.int m] au) Q:=by
 obtain⟨r,a,e,g,c,f,_⟩:=uH b h (On d (by decide +kernel));exact WP.of e (k r a g c f)
theorem iZ(h:cS au x=some xs)(a:L2.atI xs i=some d)(q:Q d au):WP (cn x (.int i) au) Q:=WP.of (nz h a) q
theorem xI{a:List D}{i:Int}(c:0<=i)(e:i<a.length)(q:∀d∈a,Q d au):WP (cn (.lst a) (.int i) au) Q:=by
 obtain⟨j,rfl⟩:=lL c;have b:j<a.length:=by lia
 exact iZ (xs:=a) (d:=a[j]) rfl (Eb (bV b)) (q _ (gf b))
theorem Gf{a:List Int}{i:Nat}(b:a.length<=63)(h:i<=100000)(k:∀g,ck (au++g) au.length->Q (.ref au.length) (au++g)):WP (uZ [.scr (a.map .int),.int i] au) Q:=by
 obtain⟨c,x,d,f,e⟩:=Gd (au:=au) b h;exact WP.of e (k _ ⟨c,x,by simp,d,f⟩)
abbrev eQ(l:List (List Int)):Prop:=l.Pairwise λa b=>HT.lexLt a b=true
theorem eQ.nodup(h:eQ l):l.Nodup:=Od (λ{a b} q e=>by subst e;rw[Srt.B4] at q;cases q) h
theorem eQ.up(h:eQ l):oT l:=Od (λ{a b} q=>Srt.Rb q) h
theorem eQ.sort(h:eQ l):aw l=l:=(BN (.refl l) h.up).symm
theorem eQ.odd(h:eQ l):aO l=l:=by
 rw[←DQ (m:=l) h.nodup λx=>?_,h.sort];by_cases c:x∈l
 ·have b:l.count x<=1:=OA.mp h.nodup x;have d:0<l.count x:=rB.mpr c;have a:l.count x=1:=by lia
  simp[c,a]
 ·simp[c,List.count_eq_zero_of_not_mem c]
theorem Kk(h:oT l)(e:l.Nodup):eQ l:=Od (λ{a b} q=>by
 obtain⟨c,d⟩:=q;rcases Srt.uE a b with z|z|z
 ·exact z
 ·exact absurd z d
 ·rw[c] at z;cases z) (h.and e)
theorem EK(l:List (List Int)):eQ (aO l):=Kk (uW _) (pj l)
structure mL (n:Nat) (l:List (List Int)):Prop where
 rise:eQ l
 len:∀r∈l,r.length=n
 pos:∀r∈l,∀x∈r,0<=x
theorem Tg(h:∀r∈l,r.length=n/\∀x∈r,0<=x):mL n (aO l):=⟨EK l,λr a=>(h r (nH a)).1,λr a=>(h r (nH a)).2⟩
theorem bC.lt(d:bC au st' n)(h:n<au.length):n<st'.length:=da h d.len
theorem ck.lt(h:ck au n):n<au.length:=by obtain⟨c,x,e,_⟩:=h;exact zr e
theorem BH{r:List Int}{P:Int->Prop}(h:∀x∈r,P x){y:Int}(a:P y):∀x∈r++[y],P x:=λx hx=>by
 rcases dk.mp hx with hx|hx
 ·exact h x hx
 ·simp at hx;subst hx;exact a
theorem Ni{a:Type}(l:List a):(l.filter λ_=>true)=l:=Ou.mpr (by simp)
theorem R4{b:Type}(P:b->Bool):∀a:List b,cP (a.map λx=>.bl (P x))=some (a.map P)
 |[]=>rfl
 |x::a=>by rw[cr,cP,R4 P a];rfl
theorem QJ(l:List Int)(j:Nat):(l.drop j++l.take j).length=l.length:=by rw[cQ,yd,←cQ,j9]
theorem MN{l:List Int}(h:l.length<=sizeLine):aM (.lst ((l.drop j).map .int)) (.lst ((l.take j).map .int)) s=.ok (.lst ((l.drop j++l.take j).map .int)) s:=by
 show(if _<=sizeLine then bu.ok (D.lst _) s else .stuck)=_;rw[if_pos,hZ];rw[bj,bj,←cQ,QJ];exact h
theorem xC{l:List (List Int)}(a:eG x=some (aJ l))(b:l.length<=1000000)(k:∀g,Q (aK (aO l)) (au++g)):WP (j4 [x] au) Q:=by
 have c:=tE l;obtain⟨g,e⟩:=EZ (au:=au) a (by lia) (by lia);exact WP.of e (k g)
theorem gu(h:WP (s σ au) R)(k:∀a b,R a b->jH t Q a b):WP (aD s t σ au) Q:=by
 rw[wH];exact h.mono k
noncomputable def gq(l:List (List Int)):Prop:=∀a:List (List Int),a.Nodup->(∀x∈a,x∈l)->a.length<=1000000
theorem gq.of{l U:List (List Int)}(h:∀x∈l,x∈U)(a:U.length<=1000000):gq l:=λe c b=>ay (yF c λx d=>h x (b x d)) a
theorem Hm(h:x∈aN l):x∈l:=by
 rw[sU] at h;rcases yu (l.count x) with z|z
 ·rw[z] at h;cases h
 ·exact rB.mp z
theorem gq.odd(h:gq l):(aN l).length<=1000000:=h _ (vc l) λx a=>Hm a
theorem gq.sub(h:gq l)(s:∀x∈m,x∈l):gq m:=λd a c=>h d a λx b=>s x (c x b)
theorem DC(h:au[n]?=some (.dT (aQ ks)))(a:ks.length<=1000000)(q:Q .non (au.set n (.dT (aQ (aP ks k))))):WP (jX [.ref n,aL k] au) Q:=WP.of (uC h a) q
theorem EL(h:au[n]?=some (.dT (aQ ks)))(a:ks.length<=1000000)(q:Q (.lst (aJ (aw ks))) au):WP (bi [.ref n] au) Q:=WP.of (E4 h a) q
theorem UQ(d:eG x=some (aJ l))(h:l.length<=1000000)(k:∀g,Q (aK (aO l)) (au++g)):WP (tq [x] au) Q:=by
 refine gO rfl ?_;simp only[W,V];refine⟨_,d,?_⟩;refine iW (λi a s=>(∃v,a=[some x,some (.ref au.length),v])/\s=au++[.dT (aQ (aN (l.take i)))]) ⟨⟨_,rfl⟩,rfl⟩ ?_ ?_
 ·rintro i y a s b ⟨⟨v,rfl⟩,rfl⟩;obtain⟨r,c,rfl⟩:=j3 b;refine⟨_,rfl,?_⟩;unfold Fa;simp only[W,V,L];have e:=tE (l.take i);have f:(l.take i).length<=l.length:=by rw[g9];exact rA _ _
  refine DC (ks:=aN (l.take i)) (by simp) (by lia) ⟨⟨_,rfl⟩,?_⟩;rw[zf c];unfold aN;rw[lH];simp
 ·rintro a s ⟨⟨v,rfl⟩,rfl⟩;rw[zc,dU];simp only[W,V];have e:=tE l;refine EL (ks:=aN l) (by simp) (by lia) ?_;simp only[W,V];exact k _
theorem KC{b a:List (List Int)}(c:b.length+a.length<=1000000)(k:∀g,Q (aK (aO (b++a))) (au++g)):WP (nB [aK b,aK a] au) Q:=by
 refine gO rfl ?_;simp only[W,V];refine⟨by rw[zc,zc];exact small _ (by lia),?_⟩;refine UQ (l:=b++a) (by simp[eG,aJ]) (by simp;lia) k
theorem KW(a:List Int)(b:Int):cutD ((a++[b]).map D.int) none (some (-1))=a.map D.int:=by
 unfold cutD;have e:((a++[b]).map D.int).length=a.length+1:=by simp
 have d:HT.bW (a.length+1) 0 none=0:=rfl;have c:HT.bW (a.length+1) (a.length+1) (some (-1))=a.length:=by
  show(if(-1:Int)<0 then((-1:Int)+((a.length+1:Nat):Int)).toNat else min (-1:Int).toNat (a.length+1))=_;rw[if_pos (by decide)];lia
 rw[e,d,c];simp
end Dd
namespace K03
end K03
namespace K13
open PyProof.Rows
theorem LA(a b:Nat):(a&&&b)/2=a/2&&&b/2:=N1
theorem LB(a b:Nat):(a&&&b)%2=(a%2)*(b%2):=by
 have q:=@Nat.and_mod_two_eq_one a b;rcases mn a with h|h<;>rcases mn b with h'|h'<;>rw[h,h'] at q ⊢<;>lia
noncomputable abbrev In(e y:Nat):Prop:=e&&&y=y
theorem AX:In a b↔(In (a/2) (b/2)/\¬ (b%2=1/\a%2=0)):=K07.Nt a b
theorem In.le(h:In e y):y<=e:=by rw[←h];exact Nat.and_le_left
theorem xf(e:Nat):In e 0:=Nat.and_zero e
theorem Jf(e:Nat):In e e:=Nat.and_self e
theorem Jd(e x:Nat):In e (e&&&x):=by unfold In;rw[←Nat.and_assoc,Nat.and_self]
theorem qT:∀(e y:Nat),In e y->In e (e-y):=λe=>by
 induction e using Nat.strongRecOn with
 |ind e ih=>
  intro y h;by_cases z:e=0
  ·subst z;rw[Nat.zero_sub];exact xf 0
  obtain⟨c,f⟩:=AX.mp h;have i:=ih (e/2) (by lia) (y/2) c;have d:=c.le;refine AX.mpr ⟨?_,?_⟩
  ·rw[show(e-y)/2=e/2-y/2 by lia];exact i
  ·rintro⟨a,b⟩;lia
theorem Je:∀(e d q:Nat),In e d->In e q->q<d->q<=e&&&(d-1):=λe=>by
 induction e using Nat.strongRecOn with
 |ind e ih=>
  intro d q a j lt;by_cases z:e=0
  ·subst z;have:=a.le;lia
  obtain⟨f,k⟩:=AX.mp a;obtain⟨h,l⟩:=AX.mp j;have b:=LA e (d-1);have g:=LB e (d-1);rcases mn d with c|c
  ·rw[show(d-1)/2=d/2-1 by lia] at b;rw[show(d-1)%2=1 by lia,Nat.mul_one] at g;have i:=ih (e/2) (by lia) (d/2) (q/2) f h (by lia);have:q%2<=e%2:=by lia
   lia
  ·rw[show(d-1)/2=d/2 by lia,f] at b;lia
noncomputable def ki(e j:Nat):Nat:=e-(e&&&(e-j-1))
theorem wj(h:j<e):j<ki e j:=by
 have:=tX (@Nat.and_le_right e (e-(j+1))) e;rw[Nat.sub_sub_self h] at this;exact this
theorem Hg(e j:Nat):ki e j<=e:=lB _ _
theorem Hf(e j:Nat):In e (ki e j):=qT e _ (Jd e _)
theorem NF(b:In e j)(a:In e m)(lt:j<m):ki e j<=m:=by
 have c:=a.le;have:=Je e (e-j) (e-m) (qT e j b) (qT e m a) (Nat.sub_lt_sub_left (da lt c) lt);exact Nat.sub_le_of_le_add (yd _ m ▸ Nat.sub_le_iff_le_add.mp this)
theorem JD{e j:Nat}(h:j<e):Builtin.bitAnd ((j:Int)-(e:Int)) (e:Int)=(ki e j:Nat):=by
 rw[bitAnd_np (by lia) (by lia)];have a:(Builtin.bitNot ((j:Int)-(e:Int))).toNat=e-j-1:=by
  unfold Builtin.bitNot;lia
 rw[a,kL];have:=@Nat.and_le_left e (e-j-1);unfold ki;lia
noncomputable def dD(e:Nat) (lo a:Int) (n:Nat):List Nat:=(List.range n).filter λx=>decide (e&&&x=x/\lo<=x/\(x:Int)<=a)
theorem EM(e:Nat)(lo a:Int)(n:Nat):dD e lo a (n+1)=dD e lo a n++(if e&&&n=n/\lo<=n/\(n:Int)<=a then[n] else[]):=by
 unfold dD;rw[pD,kN]
 congr 1
 by_cases c:e&&&n=n/\lo<=n/\(n:Int)<=a
 ·rw[if_pos c];exact gV (p:=λx:Nat=>decide (e&&&x=x/\lo<=x/\(x:Int)<=a)) (cI c)
 ·rw[if_neg c];exact hE (p:=λx:Nat=>decide (e&&&x=x/\lo<=x/\(x:Int)<=a)) (by rw[cO c];decide)
theorem BY{e:Nat}{lo a:Int}{n:Nat}:∀(k:Nat),(∀x,n<=x->x<n+k->¬ (e&&&x=x/\lo<=x/\(x:Int)<=a))->dD e lo a (n+k)=dD e lo a n
 |0,_=>rfl
 |k+1,h=>by
  rw[←Cz,EM,if_neg (h _ (by lia) (by lia)),jA];exact BY k λx b c=>h x b (by lia)
theorem Ex(e:Nat)(lo a:Int)(n:Nat):(dD e lo a n).length<=n:=by
 have:=pP (λx=>decide (e&&&x=x/\lo<=x/\(x:Int)<=a)) (List.range n);rw[pH] at this;exact this
def ak(e:Nat) (lo a:Int):List Nat:=dD e lo a (e+1)
theorem qz{e j:Nat}{lo a:Int}:j∈ak e lo a↔(In e j/\lo<=j/\(j:Int)<=a):=by
 unfold ak dD;rw[dH,bR,lF];exact⟨λh=>h.2,λh=>⟨Ol h.1.le,h⟩⟩
theorem Tf{e j:Nat}{lo a:Int}(b:In e j)(lt:j<e)(d:(j:Int)<=a):dD e lo a (ki e j)=dD e lo a j++(if lo<=j then[j] else[]):=by
 have g:=wj lt;obtain⟨k,f⟩:∃k,ki e j=(j+1)+k:=⟨ki e j-(j+1),(gS g).symm⟩
 rw[f,BY k λx i h c=>?_,EM]
 ·congr 1
  by_cases c:lo<=j
  ·rw[if_pos ⟨b,c,d⟩,if_pos c]
  ·rw[if_neg λz=>c z.2.1,if_neg c]
 ·have:=NF b c.1 (by lia);lia
theorem UZ{e j:Nat}{lo a:Int}(b:In e j)(f:a<j):ak e lo a=dD e lo a j:=by
 have:=b.le;obtain⟨k,d⟩:∃k,e+1=j+k:=⟨e+1-j,(gS (oi this)).symm⟩
 unfold ak;rw[d];exact BY k λx h g c=>by lia
theorem UG{e:Nat}{lo a:Int}(b:(e:Int)<=a):ak e lo a=dD e lo a e++(if lo<=e then[e] else[]):=by
 unfold ak;rw[EM]
 congr 1
 by_cases c:lo<=e
 ·rw[if_pos ⟨Jf e,c,b⟩,if_pos c]
 ·rw[if_neg λz=>c z.2.1,if_neg c]
end K13
namespace Dd
open L2 K13
theorem EC(I:Nat->DS->ab->Prop) (t:I k d e)(x:k<1000000)
  (s:∀j d e,I j d e->WP (c d e) (λb g=>if b=true then WP (body d g) (gC (λa f=>∃i,i<j/\I i a f) Q) else Q (.nx d) g)):WP (dE c body d e) Q:=by
 have l:∀n j d e,I j d e->j<n->WP (de c body n d e) Q:=by
  intro n
  induction n with
  |zero=>intro j d e _ h;lia
  |succ n ih=>
   intro j d e q r;obtain⟨b,g,o,w⟩:=(s j d e q).get;unfold de;rw[o];dsimp only[zq];cases b with
   |false=>exact w
   |true=>
    rw[if_pos rfl] at w ⊢;obtain⟨p,f,m,w⟩:=w.get;rw[m];cases p with
    |nx a=>obtain⟨i,u,h⟩:=w;exact ih i a f h (by lia)
    |ct a=>obtain⟨i,u,h⟩:=w;exact ih i a f h (by lia)
    |brk a=>exact w
    |ret v=>exact w
 exact l mr k d e t x
noncomputable def dN(j:Nat):D:=.int (j:Int)
theorem S9{e:Nat}{lo a:Int}(t:e<=100000)(k:∀g,Q (.lst ((ak e lo a).map dN)) (au++g)):WP (Bz [.int e,.int lo,.int a] au) Q:=by
 refine gO rfl ?_;simp only[W,V];refine⟨small _ (by simp),?_⟩;have b:∀(i:List Nat) (v:Option D),i=ak e lo a->WP (aV (p8 (aA 3)) [some (.int e),some (.int lo),some (.int a),some (.ref au.length),v] (au++[.lst (i.map dN)])) (kR Q):=λi v h=>by
  subst h;simp only[W,V,M];refine⟨_,_,rfl,by simp;rfl,?_⟩;have:=k [.dead]
  simpa using this
 refine EC (λm o s=>∃j:Nat,m=e-j/\o=[some (.int e),some (.int lo),some (.int a),some (.ref au.length),some (.int j)]/\In e j/\s=au++[.lst ((dD e lo a j).map dN)]) (k:=e) ⟨0,rfl,rfl,xf e,rfl⟩ (by lia) ?_;rintro m o s ⟨j,rfl,rfl,d,rfl⟩;simp only[W,V,Dd.N];have q:=d.le;split
 ·rename_i f;unfold R3;refine gu (R:=λl s=>l=.nx [some (.int e),some (.int lo),some (.int a),some (.ref au.length),some (.int j)]/\s=au++[.lst ((dD e lo a j++(if lo<=j then[j] else[])).map dN)]) ?_ ?_
  ·simp only[W,V,M,Dd.N];split
   ·rename_i c;have n:=Ex e lo a j;refine⟨_,_,rfl,by simp;rfl,_,_,rfl,by simp;rfl,by rw[bj];exact dh _ (by lia),?_⟩;simp[dN,c]
   ·rename_i c;simp[c]
  ·rintro l s ⟨rfl,rfl⟩;simp only[W,V,L];split
   ·rename_i c;have p:j=e:=by lia
    subst p;have:=b (dD j lo a j++(if lo<=j then[j] else[])) (some (.int j)) (UG f).symm;simp only[W,V] at this;exact this
   ·rename_i c;have lt:j<e:=by lia
    have g:=wj lt;have r:=Hg e j;refine⟨trivial,trivial,e-ki e j,by lia,ki e j,rfl,?_,Hf e j,?_⟩
    ·rw[JD lt]
    ·rw[Tf d lt f]
 ·rename_i f;have:=b (dD e lo a j) (some (.int j)) (UZ d (by lia)).symm;simp only[W,V] at this;exact this
noncomputable abbrev Pt:=List Int×Int
def oG(p:Pt):D:=.tup [aL p.1,.int p.2]
def hQ(e:Nat) (a:Int) (p:Pt):List Pt:=(ak e (p.2-a) p.2).map λj:Nat=>(p.1++[(e:Int)+(j:Int)],p.2-(j:Int))
def ec(e:Nat) (a:Int) (b:List Pt):List Pt:=b.flatMap (hQ e a)
theorem LI(e:Nat)(a:Int)(p:Pt):(hQ e a p).length<=e+1:=by
 unfold hQ;rw[bj];exact Ex _ _ _ _
theorem Ek(e:Nat)(a:Int):∀ps:List Pt,(ec e a ps).length<=ps.length*(e+1)
 |[]=>by simp[ec]
 |p::ps=>by
  have b:ec e a (p::ps)=hQ e a p++ec e a ps:=by simp[ec]
  have:=Ek e a ps;have:=LI e a p;rw[b,cQ,dw,Cu];lia
theorem Nx(e:Nat)(a:Int)(b:List Pt)(p:Pt):ec e a (b++[p])=ec e a b++hQ e a p:=by simp[ec]
theorem LO{e:Nat}{a:Int}:q∈ec e a d↔∃p∈d,∃j:Nat,j∈ak e (p.2-a) p.2/\q=(p.1++[(e:Int)+(j:Int)],p.2-(j:Int)):=by
 unfold ec hQ;simp only[fL,bS];constructor
 ·rintro⟨p,c,j,b,rfl⟩;exact⟨p,c,j,b,rfl⟩
 ·rintro⟨p,c,j,b,rfl⟩;exact⟨p,c,j,b,rfl⟩
theorem D2(o a:O)(g:ab):(au++o::g).set au.length a=au++a::g:=by simp
theorem uD(o:O)(g:ab):(au++o::g)[au.length]?=some o:=by simp
theorem AZ{b:Type}{f:b->D}{l:List b}{i:Nat}{x:D}(h:(l.map f)[i]?=some x):∃a,l[i]?=some a/\x=f a:=by
 rw[fM] at h;obtain⟨a,c,d⟩:=jE.mp h;exact⟨a,c,d.symm⟩
section
variable {au:ab}{Q:D->ab->Prop}
theorem Vm{e:Nat}{b:Int}{c:List Pt}(C:e<=1000)(A:c.length*(e+1)<=100000)(r:∀p∈c,p.1.length<=1000)(k:∀g,Q (.lst ((ec e b c).map oG)) (au++g)):WP (Cn [.lst (c.map oG),.int e,.int b] au) Q:=by
 refine gO rfl ?_;simp only[W,V,Dd.N];refine⟨small _ (by simp),?_⟩;refine iW (λi d s=>(∃v w z,d=[some (.lst (c.map oG)),some (.int e),some (.int b),some (.ref au.length),v,w,z])/\∃g,s=au++(.lst ((ec e b (c.take i)).map oG)::g)) ⟨⟨_,_,_,rfl⟩,[],rfl⟩ ?_ ?_
 ·rintro i y d s f ⟨⟨v,w,z,rfl⟩,g,rfl⟩;obtain⟨p,h,rfl⟩:=AZ f;have u:i<c.length:=(db.mp h).1;refine⟨_,rfl,?_⟩;unfold SD;simp only[W,V,Dd.N];have m:(ec e b (c.take i)).length+(e+1)<=100000:=by
   have x:=Ek e b (c.take i);have l:(c.take i).length=i:=by rw[g9];lia
   rw[l] at x;have n:(i+1)*(e+1)<=c.length*(e+1):=tZ _ u;rw[Cu] at n;lia
  refine S9 (by lia) λq=>?_
  simp only[W,V,Dd.N];rw[ff,tQ];generalize g++q=g3;have t:(ak e (p.2-b) p.2).length<=e+1:=Ex _ _ _ _;refine iW (λj d s=>(∃z,d=[some (.lst (c.map oG)),some (.int e),some (.int b),some (.ref au.length),some (aL p.1),some (.int p.2),z])/\s=au++(.lst ((ec e b (c.take i)++((ak e (p.2-b) p.2).take j).map λj:Nat=>(p.1++[(e:Int)+j],p.2-(j:Int))).map oG)::g3)) ⟨⟨_,rfl⟩,by simp⟩ ?_ ?_
  ·rintro j y d s f ⟨⟨z,rfl⟩,rfl⟩;obtain⟨a,o,rfl⟩:=AZ f;refine⟨_,rfl,?_⟩;unfold SC dN;simp only[W,V,M,Dd.N,L];have l:((ak e (p.2-b) p.2).take j).length<=(ak e (p.2-b) p.2).length:=by rw[g9];exact rA _ _
   have n:=r p (ew h);refine⟨_,_,rfl,uD _ _,small _ (by simp),by rw[bj];exact small _ (by simp;lia),small _ (by simp),_,_,rfl,uD _ _,by rw[bj,cQ,bj];exact dh _ (by lia),⟨_,rfl⟩,?_⟩;rw[D2,zf o];simp[oG,aL]
  ·rintro d s ⟨⟨z,rfl⟩,rfl⟩;simp only[L];refine⟨⟨_,_,_,rfl⟩,g3,?_⟩;rw[bj,dU,zf h,Nx]
   rfl
 ·rintro d s ⟨⟨v,w,z,rfl⟩,g,rfl⟩;rw[bj,dU];simp only[W,V,M,Dd.N];refine⟨_,_,rfl,uD _ _,?_⟩;rw[D2];exact k _
end
def fz(s:Int×List Pt) (e:Int):Int×List Pt:=(s.1-e,ec e.toNat (s.1-e) s.2)
def eh(r:List Int) (k:Int) (m:List Int):Int×List Pt:=m.foldl fz (r.sum,[([],k)])
def h8(r:List Int) (k:Int):List (List Int):=(eh r k r).2.map (·.1)
noncomputable def fk:List Int->Nat
 |[]=>1
 |e::r=>(e.toNat+1)*fk r
theorem B2:∀a b:List Int,fk (a++b)=fk a*fk b
 |[],b=>by simp[fk]
 |e::a,b=>by rw[tQ,fk,fk,B2 a b,yf]
theorem wR:∀a:List Int,1<=fk a
 |[]=>br _
 |e::a=>by have:=wR a;unfold fk;exact ay this (OH _ (by lia))
theorem KP(r:List Int)(i:Nat):fk (r.take i)<=fk r:=by
 have e:=B2 (r.take i) (r.drop i);rw[j9] at e;rw[e];exact Nat.le_mul_of_pos_right _ (wR _)
theorem RT(r:List Int)(k:Int)(m:List Int)(e:Int):eh r k (m++[e])=fz (eh r k m) e:=by unfold eh;rw[lH];rfl
theorem Rk{r:List Int}{k:Int}{P:List Int->Int×List Pt->Prop}(a:P [] (r.sum,[([],k)]))(h:∀m e s,P m s->P (m++[e]) (fz s e)):∀(i:Nat),P (r.take i) (eh r k (r.take i)):=λi=>by
 induction i with
 |zero=>exact a
 |succ i ih=>
  by_cases c:i<r.length
  ·have g:r[i]?=some r[i]:=bV c;rw[zf g,RT];exact h _ _ _ ih
  ·rw[ka (by lia)] at ih ⊢;exact ih
theorem Rl(r:List Int)(k:Int)(i:Nat):(eh r k (r.take i)).2.length<=fk (r.take i):=by
 refine Rk (P:=λm s=>s.2.length<=fk m) (by simp[fk]) (λm e s a=>?_) i;have:=Ek e.toNat (s.1-e) s.2;rw[B2];show(ec e.toNat (s.1-e) s.2).length<=fk m*((e.toNat+1)*1)
 rw[Nat.mul_one];exact ay this (tZ _ a)
theorem NS(r:List Int)(k:Int)(i:Nat):∀p∈(eh r k (r.take i)).2,p.1.length=(r.take i).length:=by
 refine Rk (P:=λm s=>∀p∈s.2,p.1.length=m.length) (by simp) (λm e s a=>?_) i;intro q b;obtain⟨p,c,j,d,rfl⟩:=LO.mp b;rw[cQ,cQ,a p c]
 rfl
section
variable {au:ab}{Q:D->ab->Prop}
theorem Vs{r:List Int}{t:Int}(h:∀x∈r,0<=x/\x<=1000)(z:r.length<=1000)(o:fk r<=20000)(k:∀g,Q (.lst (aJ (h8 r t))) (au++g)):WP (Co [aL r,.int t] au) Q:=by
 refine gO rfl ?_;simp only[W,V,M,Dd.N];refine⟨small _ (by simp),small _ (by simp),small _ (by simp),r,qw r,?_⟩;refine iW (λi d s=>(∃v,d=[some (aL r),some (.int t),some (.lst ((eh r t (r.take i)).2.map oG)),some (.int (eh r t (r.take i)).1),v])/\∃g,s=au++g) ⟨⟨_,rfl⟩,[],by simp⟩ ?_ ?_
 ·rintro i y d s m ⟨⟨v,rfl⟩,g,rfl⟩;obtain⟨e,j,rfl⟩:=AZ m;refine⟨_,rfl,?_⟩;unfold SF;obtain⟨q,u⟩:=h e (ew j);simp only[W,V,M,Dd.N,L];refine⟨_,rfl,?_⟩;have b:=Rl r t i;have f:=KP r (i+1);rw[zf j,B2,show fk [e]=e.toNat+1 by simp[fk]] at f;have l:(eh r t (r.take i)).2.length*(e.toNat+1)<=20000:=ay (tZ _ b) (ay f o);have c:=NS r t i;rw[zf j,RT];generalize eh r t (r.take i)=s at l c ⊢;obtain⟨a,rfl⟩:=lL q;refine Vm (e:=a) (by lia) (by rw[kL] at l;lia) (λp h=>?_) λn=>?_
  ·rw[c p h,g9];lia
  ·simp only[W,V,L];exact⟨⟨_,rfl⟩,g++n,by simp⟩
 ·rintro d s ⟨⟨v,rfl⟩,g,rfl⟩;rw[bj,dU];simp only[W,V,M,Dd.N];have b:=Rl r t r.length;rw[dU] at b;refine⟨by rw[bj];exact small _ (by lia),?_⟩;refine AN (as:=(eh r t r).2) (λd=>∃v w,d=[v,w]) (λ_=>true) (λp=>aL p.1) oG ⟨_,_,rfl⟩ ?_ ?_
  ·rintro p h d ⟨v,w,rfl⟩;exact⟨_,rfl,⟨_,_,rfl⟩,by simp only[W,and_self],λ_=>by simp only[W,V,and_self]⟩
  ·rw[Ni];have:=k g;unfold h8 aJ at this;rw[eS] at this;exact this
end
def cN(k:Int) (r:List Int):List (List Int):=if k<=r.sum then h8 r k else[]
def ao(k:Int) (l:List (List Int)):List (List Int):=l.flatMap (cN k)
theorem UE(k:Int)(l:List (List Int))(r:List Int):ao k (l++[r])=ao k l++cN k r:=by simp[ao]
theorem o4:∀{r:List Int},(∀x∈r,0<=x)->0<=r.sum
 |[],_=>by simp
 |x::r,h=>by
  have:=o4 (r:=r) λy a=>h y (bU _ a)
  have:=h x dB;rw[fe];lia
theorem qI:∀{r:List Int},(∀x∈r,0<=x)->∀x∈r,x<=r.sum
 |[],_,_,h=>nomatch h
 |y::r,h,x,hx=>by
  have a:=λz b=>h z (bU y b)
  have c:=o4 a;have d:=h y dB;rw[fe];rcases ca.mp hx with rfl|hx
  ·lia
  ·have:=qI a x hx;lia
theorem Td(e:Int)(a:List Int)(b:List Pt):(e::a).foldl fz ((e::a).sum,b)=a.foldl fz (a.sum,ec e.toNat a.sum b):=by
 rw[lC,fe];unfold fz;dsimp only;rw[show e+a.sum-e=a.sum by lia]
end Dd
namespace K13
end K13
namespace Dd
open L2 K13
def kX(e:Nat) (p:Pt):List Pt:=(ak e 0 p.2).map λj:Nat=>(p.1++[(e:Int)+(j:Int)],p.2-(j:Int))
def iE(e:Nat) (a:List Pt):List Pt:=a.flatMap (kX e)
theorem LN:q∈iE e c↔∃p∈c,∃j:Nat,j∈ak e 0 p.2/\q=(p.1++[(e:Int)+(j:Int)],p.2-(j:Int)):=by
 unfold iE kX;simp only[fL,bS];constructor
 ·rintro⟨p,b,j,a,rfl⟩;exact⟨p,b,j,a,rfl⟩
 ·rintro⟨p,b,j,a,rfl⟩;exact⟨p,b,j,a,rfl⟩
theorem Uc{e:Nat}{left:Int}(h:0<=left):(List.range ((if left<(e:Int) then left else(e:Int))+1).toNat).filter (λx=>decide (e&&&x=x))=ak e 0 left:=by
 have a:∀n:Nat,(n:Int)<=left+1->dD e 0 left n=(List.range n).filter (λx=>decide (e&&&x=x)):=λn i=>by
  unfold dD;refine mj λx g=>?_
  have:=bR.mp g;have d:(0:Int)<=(x:Int):=by lia
  have b:(x:Int)<=left:=by lia
  simp[d,b]
 rw[←a _ (by split<;>lia)];unfold ak;split
 ·rename_i c;obtain⟨k,f⟩:∃k,e+1=(left+1).toNat+k:=⟨e+1-(left+1).toNat,by lia⟩
  rw[f];exact(BY k λx d b z=>by lia).symm
 ·rw[show((e:Int)+1).toNat=e+1 by lia]
def eJ(a:List Pt) (e:Int):List Pt:=iE e.toNat a
def kW(k:Int) (m:List Int):List Pt:=m.foldl eJ [([],k)]
def rX(k:Int) (r:List Int):List (List Int):=((kW k r).filter λp=>decide (p.2=0)).map (·.1)
theorem Ub(h:0<=left):(ak e 0 left).filter (λj:Nat=>decide (left-(j:Int)<=S))=ak e (left-S) left:=by
 unfold ak dD;rw[C1];refine mj λx _=>?_
 rw[←CG];exact pE.mpr ⟨λh=>⟨h.2.1,by lia,h.2.2.2⟩,λh=>⟨by lia,h.1,by lia,h.2.2⟩⟩
theorem Nw{e:Nat}{S:Int}(h:¬ p.2<=e+S):hQ e S p=[]:=by
 unfold hQ;have:ak e (p.2-S) p.2=[]:=by
  refine OT.mpr λj a=>?_
  obtain⟨b,d,c⟩:=qz.mp a;have:=b.le;lia
 rw[this]
 rfl
theorem LF(h:0<=p.2):(kX e p).filter (λq=>decide (q.2<=S))=hQ e S p:=by
 unfold kX hQ;rw[rq,←Ub h]
 rfl
theorem Qg{e:Nat}{S:Int}:∀{ps:List Pt},(∀p∈ps,0<=p.2)->(iE e ps).filter (λq=>decide (q.2<=S))=ec e S (ps.filter λp=>decide (p.2<=e+S))
 |[],_=>rfl
 |p::ps,h=>by
  have a:=Qg (e:=e) (S:=S) (ps:=ps) λq d=>h q (bU _ d)
  have b:iE e (p::ps)=kX e p++iE e ps:=by simp[iE]
  rw[b,kN,a,LF (h p dB)];by_cases c:p.2<=e+S
  ·rw[gV (by simpa using c)];simp[ec]
  ·rw[hE (by simpa using c),Nw c]
   rfl
theorem QW:∀(a:List Int) (b:List Pt),(∀x∈a,0<=x)->(∀p∈b,0<=p.2)->(a.foldl eJ b).filter (λp=>decide (p.2=0))=(a.foldl fz (a.sum,b.filter λp=>decide (p.2<=a.sum))).2
 |[],b,_,h=>by
  show b.filter _=b.filter _;refine mj λp c=>?_
  have:=h p c;exact pE.mpr ⟨λz=>by simp;lia,λz=>by simp at z;lia⟩
 |e::a,b,hs,h=>by
  have i:=λz f=>hs z (bU e f)
  have n:=hs e dB;rw[Td,lC,QW a (eJ b e) i (λq g=>?_)]
  ·unfold eJ;rw[Qg h,fe,show((e.toNat:Nat):Int)=e by lia]
  ·obtain⟨p,c,j,d,rfl⟩:=LN.mp g;obtain⟨m,l,k⟩:=qz.mp d;dsimp only;lia
theorem Rt:∀(a:List Int) (t:Int),(a.foldl fz (t,[])).2=[]
 |[],_=>rfl
 |e::a,t=>by
  rw[lC];exact Rt a (t-e)
theorem Jl(h:∀x∈r,0<=x)(a:0<=k):rX k r=cN k r:=by
 unfold rX kW;rw[QW r [([],k)] h (λp b=>by rw[et.mp b];exact a)];unfold cN;by_cases c:k<=r.sum
 ·rw[if_pos c,gV (by simpa using c)]
  rfl
 ·rw[if_neg c,hE (by simpa using c)];show(r.foldl fz (r.sum,[])).2.map _=[]
  rw[Rt]
  rfl
theorem Nu(k:Int)(m:List Int)(e:Int):kW k (m++[e])=eJ (kW k m) e:=by unfold kW;rw[lH];rfl
end Dd
namespace K08
end K08
namespace Dd
open L2 K13
def cU(e:Nat):List Int:=(ak e 0 e).map λj:Nat=>(e:Int)+(j:Int)
noncomputable def bA(a:List (List Int)) (c:List Int):List (List Int):=a.flatMap λb=>c.map λx=>b++[x]
def bO(a:List (List Int)) (e:Int):List (List Int):=bA a (cU e.toNat)
def bD(m:List Int):List (List Int):=m.foldl bO [[]]
theorem tF(m:List Int)(e:Int):bD (m++[e])=bO (bD m) e:=by unfold bD;rw[lH];rfl
theorem UH:(ak e 0 e).filter (λj:Nat=>decide ((j:Int)<=left))=ak e 0 left:=by
 unfold ak dD;rw[C1];refine mj λx a=>?_
 have:=bR.mp a;rw[←CG];exact pE.mpr ⟨λh=>⟨h.2.1,h.2.2.1,h.1⟩,λh=>⟨h.2.2,h.1,h.2.1,by lia⟩⟩
def eA(k M:Int) (b:List (List Int)):List Pt:=(b.filter λa=>decide (a.sum-M<=k)).map λa=>(a,k-(a.sum-M))
theorem Qb{k M:Int}{e:Nat}:∀rows:List (List Int),eA k (M+e) (bA rows (cU e))=iE e (eA k M rows)
 |[]=>rfl
 |row::rows=>by
  have m:=Qb (k:=k) (M:=M) (e:=e) rows;have i:bA (row::rows) (cU e)=((cU e).map λx=>row++[x])++bA rows (cU e):=by simp[bA]
  have g:eA k (M+e) (bA (row::rows) (cU e))=eA k (M+e) ((cU e).map λx=>row++[x])++eA k (M+e) (bA rows (cU e)):=by
   rw[i];unfold eA;rw[kN,hZ]
  have n:eA k (M+e) ((cU e).map λx=>row++[x])=(ak e 0 (k-(row.sum-M))).map λj:Nat=>(row++[(e:Int)+(j:Int)],k-(row.sum-M)-(j:Int)):=by
   unfold eA cU;rw[eS,rq,eS,show ak e 0 (k-(row.sum-M))=_ from UH.symm];have b:∀j:Nat,(row++[(e:Int)+(j:Int)]).sum-(M+e)=row.sum-M+j:=λj=>by rw[gZ];simp;lia
   have f:(ak e 0 e).filter ((λr:List Int=>decide (r.sum-(M+e)<=k)) ∘ ((λx=>row++[x]) ∘ λj:Nat=>(e:Int)+(j:Int)))=(ak e 0 e).filter λj:Nat=>decide ((j:Int)<=k-(row.sum-M)):=
    mj λj _=>by
     show decide ((row++[(e:Int)+(j:Int)]).sum-(M+e)<=k)=_;rw[b];exact pE.mpr ⟨λh=>by lia,λh=>by lia⟩
   rw[f];refine lI λj _=>?_
   show(row++[(e:Int)+(j:Int)],k-((row++[(e:Int)+(j:Int)]).sum-(M+e)))=_;rw[b]
   congr 1
   lia
  rw[g,m,n];by_cases c:row.sum-M<=k
  ·have a:eA k M (row::rows)=(row,k-(row.sum-M))::eA k M rows:=by
    unfold eA;rw[gV (by simpa using c)]
    rfl
   rw[a];simp[iE,kX]
  ·have a:eA k M (row::rows)=eA k M rows:=by
    unfold eA;rw[hE (by simpa using c)]
   have d:ak e 0 (k-(row.sum-M))=[]:=OT.mpr λj l=>by
    obtain⟨_,o,p⟩:=qz.mp l;lia
   rw[a,d]
   rfl
theorem LG{r:List Int}{k:Int}(h:∀x∈r,0<=x)(a:0<=k):∀i:Nat,kW k (r.take i)=eA k (r.take i).sum (bD (r.take i)):=λi=>by
 induction i with
 |zero=>
  show[([],k)]=eA k 0 [[]];unfold eA;rw[gV (by simpa using a)];simp
 |succ i ih=>
  by_cases c:i<r.length
  ·have g:r[i]?=some r[i]:=bV c;have b:=h r[i] (gf c);rw[zf g,Nu,tF,ih];unfold eJ bO;rw[←Qb,gZ,show(r.take i).sum+[r[i]].sum=(r.take i).sum+(r[i].toNat:Int) by simp;lia]
  ·rw[ka (by lia)] at ih ⊢;exact ih
theorem vd{r:List Int}{k:Int}(h:∀x∈r,0<=x)(b:0<=k):cN k r=(bD r).filter λm=>decide (m.sum=r.sum+k):=by
 have e:=LG h b r.length;rw[dU] at e;rw[←Jl h b];unfold rX;rw[e];unfold eA;rw[rq,eS,C1];have:∀l:List (List Int),l.map ((λp:Pt=>p.1) ∘ λa=>(a,k-(a.sum-r.sum)))=l:=λl=>by
  show l.map (λa=>a)=l;exact x9 l
 rw[this];refine mj λm _=>?_
 show(decide (k-(m.sum-r.sum)=0)&&decide (m.sum-r.sum<=k))=_;rw[←CG];exact pE.mpr ⟨λh=>by lia,λh=>by lia⟩
theorem RZ{r:List Int}(h:∀x∈r,0<=x):∀(i:Nat),∀m∈bD (r.take i),(r.take i).sum<=m.sum/\m.sum<=2*(r.take i).sum:=λi=>by
 induction i with
 |zero=>intro m d;rw[et.mp (show m∈[[]] from d)];simp
 |succ i ih=>
  by_cases c:i<r.length
  ·have g:r[i]?=some r[i]:=bV c;have p:=h r[i] (gf c);intro m d;rw[zf g,tF] at d;unfold bO bA cU at d;obtain⟨f,e,d⟩:=fL.mp d;rw[eS] at d;obtain⟨j,k,rfl⟩:=bS.mp d;obtain⟨o,n,l⟩:=qz.mp k;obtain⟨a,b⟩:=ih f e;rw[zf g];simp only[Function.comp,gZ,fe,rg];lia
  ·rw[ka (by lia)] at ih ⊢;exact ih
theorem B9{a b:List (List Int)}(h:∀x,a.count x%2=b.count x%2):aO a=aO b:=DQ (vc a) λx=>by rw[sU,h x]
theorem qy(a:List (List Int))(x:List Int):(aO a).count x%2=a.count x%2:=by
 have d:=pj a;have b:x∈aO a↔a.count x%2=1:=by unfold aO;rw[(zo _).mem_iff,sU]
 by_cases c:x∈aO a
 ·have e:(aO a).count x<=1:=OA.mp d x;have f:0<(aO a).count x:=rB.mpr c;have:=b.mp c;lia
 ·have e:(aO a).count x=0:=kM.mpr c;have:¬ a.count x%2=1:=λz=>c (b.mpr z)
  lia
theorem RA{P:List Int->List (List Int)->Prop}(a:P [] [[]])(h:∀m e s,P m s->P (m++[e]) (bO s e))(r:List Int):∀(i:Nat),P (r.take i) (bD (r.take i)):=λi=>by
 induction i with
 |zero=>exact a
 |succ i ih=>
  by_cases c:i<r.length
  ·have g:r[i]?=some r[i]:=bV c;rw[zf g,tF];exact h _ _ _ ih
  ·rw[ka (by lia)] at ih ⊢;exact ih
theorem Uj(r:List Int)(i:Nat):∀m∈bD (r.take i),m.length=(r.take i).length:=by
 refine RA (P:=λm s=>∀x∈s,x.length=m.length) (by simp) (λm e s c=>?_) r i;intro x a;unfold bO bA at a;obtain⟨b,d,a⟩:=fL.mp a;obtain⟨y,f,rfl⟩:=bS.mp a;rw[cQ,cQ,c b d]
 rfl
theorem L6(h:y∈cU e):(e:Int)<=y/\y<=2*e:=by
 unfold cU at h;obtain⟨j,a,rfl⟩:=bS.mp h;obtain⟨b,_,_⟩:=qz.mp a;have:=b.le;lia
theorem RG(r x:List Int)(y:Int):∀a:List Int,(a.map λz=>r++[z]).count (x++[y])=if r=x then a.count y else 0
 |[]=>by split<;>rfl
 |z::a=>by
  rw[cr,n8,RG r x y a];by_cases c:r=x
  ·subst c;rw[if_pos rfl,if_pos rfl,n8]
   congr 1
   by_cases d:z=y
   ·subst d;simp
   ·simp[d]
  ·rw[if_neg c,if_neg c]
   have:¬ (r++[z]=x++[y]):=λh=>c (by
    have:=congrArg List.dropLast h
    simpa using this)
   simp[c]
theorem ES(x:List Int)(y:Int)(xs:List Int):∀a:List (List Int),(bA a xs).count (x++[y])=a.count x*xs.count y
 |[]=>by simp[bA]
 |r::a=>by
  have e:bA (r::a) xs=(xs.map λz=>r++[z])++bA a xs:=by simp[bA]
  rw[e,lG,RG,ES x y xs a,n8];by_cases c:r=x
  ·subst c;simp[Nat.add_mul];lia
  ·simp[c]
noncomputable abbrev Row:=List Int
noncomputable def dm{a:Type}(l:List a) (c:a->Nat):Nat:=(l.map c).sum
theorem Ku{a:Type}(c:a->Nat):dm [] c=0:=rfl
theorem iQ{b:Type}(a:b)(l:List b)(c:b->Nat):dm (a::l) c=c a+dm l c:=by simp[dm]
theorem Uf{d:Type}(a b:List d)(c:d->Nat):dm (a++b) c=dm a c+dm b c:=by simp[dm]
theorem MM{d:Type}{a b:List d}(h:a.Perm b)(c:d->Nat):dm a c=dm b c:=(h.map c).sum_nat
theorem QH(c:Row->Nat):∀(n:Nat) (l:List Row),l.length<=n->(∀x,l.count x%2=0)->dm l c%2=0
 |_,[],_,_=>rfl
 |0,_::_,h,_=>by simp at h
 |n+1,y::l,hn,h=>by
  have d:=h y;rw[List.count_cons_self] at d;have a:y∈l:=rB.mp (by lia);have p:=List.perm_cons_erase a;have e:=QH c n (l.erase y) (by rw[List.length_erase_of_mem a];simp at hn;lia) λx=>by
   have b:=h x;rw[n8,p.count_eq,n8] at b;split at b<;>lia
  rw[iQ,MM p,iQ];lia
theorem xT{a b:List Row}(c:Row->Nat)(h:∀x,a.count x%2=b.count x%2):dm a c%2=dm b c%2:=by
 have:=QH c _ (a++b) (br _) λx=>by rw[lG];have:=h x;lia
 rw[Uf] at this;lia
theorem D5{e:Type}{c d:e->Nat}:∀{l:List e},(∀a∈l,c a%2=d a%2)->dm l c%2=dm l d%2
 |[],_=>rfl
 |a::l,h=>by
  have g:=h a dB;have i:=D5 (c:=c) (d:=d) (l:=l) λb f=>h b (bU _ f)
  rw[iQ,iQ];lia
theorem Rv{b:Type}{c d:b->Nat}{l:List b}(h:∀a∈l,c a=d a):dm l c=dm l d:=by
 unfold dm;rw[lI h]
theorem xR{b:Type}(c d:b->Nat):∀l:List b,dm l (λa=>c a+d a)=dm l c+dm l d
 |[]=>rfl
 |a::l=>by rw[iQ,iQ,iQ,xR c d l];lia
theorem qx{b:Type}(x:Row)(f:b->List Row):∀l:List b,(l.flatMap f).count x=dm l λa=>(f a).count x
 |[]=>rfl
 |a::l=>by rw[CS,lG,qx x f l,iQ]
theorem Kt{b d:Type}(g:b->d)(c:d->Nat)(l:List b):dm (l.map g) c=dm l λa=>c (g a):=by unfold dm;rw[eS];rfl
theorem NT{a b:List Row}(k:Int)(h:∀x,a.count x%2=b.count x%2)(x:Row):(ao k a).count x%2=(ao k b).count x%2:=by
 unfold ao;rw[qx,qx];exact xT _ h
theorem UJ(h:∀x∈r,0<=x):∀m∈bD r,r.sum<=m.sum/\m.length=r.length:=λm b=>by
 have a:=RZ h r.length m (by rw[dU];exact b);have c:=Uj r r.length m (by rw[dU];exact b);rw[dU] at a c;exact⟨a.1,c⟩
noncomputable def xr{a:Type}(l:List a) (f:a->Nat):Nat:=l.foldr (λx b=>f x^^^b) 0
section
variable {α β:Type}
theorem io(x:α):xr (x::l) f=f x^^^xr l f:=rfl
theorem u8:∀(l m:List α),xr (l++m) f=xr l f^^^xr m f
 |[],m=>(pz _).symm
 |x::l,m=>by rw[tQ,io,io,u8 l m,gY]
theorem qi(h:β->α):∀l:List β,xr (l.map h) f=xr l λx=>f (h x)
 |[]=>rfl
 |x::l=>by rw[cr,io,io,qi h l]
theorem uK(h:β->List α):∀l:List β,xr (l.flatMap h) f=xr l λx=>xr (h x) f
 |[]=>rfl
 |x::l=>by rw[CS,u8,io,uK h l]
theorem zj:∀{l:List α},(∀x∈l,f x=g x)->xr l f=xr l g
 |[],_=>rfl
 |x::l,h=>by rw[io,io,h x (dB ..),zj λy a=>h y (bU _ a)]
theorem lu:∀l:List α,xr l (λ_=>0)=0
 |[]=>rfl
 |x::l=>by rw[io,lu l];rfl
theorem xX(a b c d:Nat):(a^^^b)^^^(c^^^d)=(a^^^c)^^^(b^^^d):=by
 rw[gY,gY,←gY b,←gY c,Ct b c]
theorem lp:∀l:List α,xr l (λx=>f x^^^g x)=xr l f^^^xr l g
 |[]=>by show 0=0^^^0;rw[py]
 |x::l=>by rw[io,io,io,lp l,xX]
theorem tm(p:α->Bool):∀l:List α,xr (l.filter p) f=xr l λx=>if p x=true then f x else 0
 |[]=>rfl
 |x::l=>by
  rw[io,←tm p l];by_cases c:p x=true
  ·rw[gV c,io,if_pos c]
  ·rw[hE c,if_neg c,pz]
theorem Dg(p q:Bool)(z:Nat):(if p=true then z else 0)^^^(if q=true then z else 0)=if Bool.xor p q=true then z else 0:=by
 cases p<;>cases q<;>simp
theorem AR(f:Nat->Nat)(N:Nat):xr (List.range (N+1)) f=f 0^^^xr (List.range N) λc=>f (c+1):=by
 rw[List.range_succ_eq_map,io,qi]
theorem re(f:Nat->Nat)(N:Nat):xr (List.range (N+1)) f=xr (List.range N) f^^^f N:=by
 rw[pD,u8];show _^^^(f N^^^0)=_;rw[jy]
end
noncomputable def sb(e j:Nat):Bool:=decide (e&&&j=j)
theorem DZ(e j:Nat):sb e j=(sb (e/2) (j/2)&&decide (j%2<=e%2)):=by
 unfold sb;rw[←CG];refine pE.mpr ?_;have c:(e&&&j)/2=e/2&&&j/2:=N1;have d:(e&&&j)%2=1↔e%2=1/\j%2=1:=Nat.and_mod_two_eq_one;constructor
 ·intro h;rw[h] at c d;exact⟨c.symm,by lia⟩
 ·intro⟨a,b⟩;lia
theorem qk(e:Nat):sb e 0=true:=by simp[sb]
theorem uw(h:e<j):sb e j=false:=by
 refine cO λz=>?_
 have:e&&&j<=e:=Nat.and_le_left;lia
theorem jJ:∀e j:Nat,sb (e+1) (j+1)=Bool.xor (sb e (j+1)) (sb e j)
 |0,j=>by
  by_cases c:j=0
  ·subst c;decide
  ·rw[uw (e:=0+1) (by lia),uw (e:=0) (by lia),uw (e:=0) (j:=j) (by lia)];rfl
 |e+1,j=>by
  rw[DZ (e+1+1),DZ (e+1),DZ (e+1)];have a:(e+1)/2<e+1:=by lia
  by_cases c:(e+1)%2=0
  ·rw[show(e+1+1)/2=(e+1)/2 by lia];by_cases d:j%2=0
   ·rw[show(j+1)/2=j/2 by lia,cI (show(j+1)%2<=(e+1+1)%2 by lia),cO (show ¬ (j+1)%2<=(e+1)%2 by lia),cI (show j%2<=(e+1)%2 by lia)];simp
   ·rw[cI (show(j+1)%2<=(e+1+1)%2 by lia),cI (show(j+1)%2<=(e+1)%2 by lia),cO (show ¬ j%2<=(e+1)%2 by lia)];simp
  ·obtain⟨p,b⟩:∃p,(e+1)/2=p:=⟨_,rfl⟩
   rw[show(e+1+1)/2=(e+1)/2+1 by lia,b];have:=jJ p;by_cases d:j%2=0
   ·rw[show(j+1)/2=j/2 by lia,cO (show ¬ (j+1)%2<=(e+1+1)%2 by lia),cI (show(j+1)%2<=(e+1)%2 by lia),cI (show j%2<=(e+1)%2 by lia)];simp
   ·rw[show(j+1)/2=j/2+1 by lia,cI (show(j+1)%2<=(e+1+1)%2 by lia),cI (show(j+1)%2<=(e+1)%2 by lia),cI (show j%2<=(e+1)%2 by lia)];rw[Cy,Cy,Cy];exact this (j/2)
 termination_by e _=>e
theorem AQ(e:Nat)(g:Int->Nat):xr (cU e) g=xr (List.range (e+1)) λj=>if sb e j=true then g ((e:Int)+(j:Int)) else 0:=by
 have h:=Uc (e:=e) (left:=(e:Int)) (by lia);unfold cU;rw[qi,←h,tm,show((if(e:Int)<(e:Int) then(e:Int) else(e:Int))+1).toNat=e+1 by split<;>lia]
 rfl
theorem L8(e:Nat)(g:Int->Nat):xr (cU (e+1)) g=xr (cU e) (λy=>g (y+1))^^^xr (cU e) (λy=>g (y+1+1)):=by
 rw[AQ,AQ,AQ,AR,AR (λj=>if sb e j=true then g ((e:Int)+(j:Int)+1) else 0) e];have a:(xr (List.range (e+1)) λc=>if sb (e+1) (c+1)=true then g (((e+1:Nat):Int)+((c+1:Nat):Int)) else 0)
   =(xr (List.range (e+1)) λc=>if sb e (c+1)=true then g ((e:Int)+((c+1:Nat):Int)+1) else 0)^^^(xr (List.range (e+1)) λc=>if sb e c=true then g ((e:Int)+(c:Int)+1+1) else 0):=by
  rw[←lp];refine zj λc _=>?_
  rw[jJ,←Dg];rw[show((e+1:Nat):Int)+((c+1:Nat):Int)=(e:Int)+((c+1:Nat):Int)+1 by lia];rw[show(e:Int)+((c+1:Nat):Int)+1=(e:Int)+(c:Int)+1+1 by lia]
 rw[a,re (N:=e) (f:=λc=>if sb e (c+1)=true then g ((e:Int)+((c+1:Nat):Int)+1) else 0),uw (e:=e) (j:=e+1) (by lia),qk,qk];simp only[gr,jk,gP,jy];rw[show((e+1:Nat):Int)+((0:Nat):Int)=(e:Int)+((0:Nat):Int)+1 by lia,gY]
def T(k:Int) (a:Row->Nat) (m:Row):Nat:=xr (bD m) λx=>if x.sum=m.sum+k then a x else 0
theorem Du(h:∀x∈bD m,φ x=ψ x):T k φ m=T k ψ m:=zj λx a=>by rw[h x a]
theorem vo(k:Int)(a b:Row->Nat)(m:Row):T k (λx=>a x^^^b x) m=T k a m^^^T k b m:=by
 unfold T;rw[←lp];refine zj λx _=>?_
 by_cases c:x.sum=m.sum+k
 ·rw[if_pos c,if_pos c,if_pos c]
 ·rw[if_neg c,if_neg c,if_neg c,py]
theorem vF(k:Int)(m:Row):T k (λ_=>0) m=0:=by
 unfold T;rw[zj (g:=λ_=>0) λx _=>by split<;>rfl,lu]
theorem nT(k:Int)(a:Row->Nat)(r:Row)(e:Nat):T k a (r++[(e:Int)])=xr (bD r) λu=>xr (cU e) λy=>if u.sum+y=r.sum+e+k then a (u++[y]) else 0:=by
 unfold T;rw[tF];unfold bO bA;rw[uK];refine zj λu _=>?_
 rw[qi,kL];refine zj λy _=>?_
 rw[gZ,gZ,fe,rg,fe,rg,Int.add_zero,Int.add_zero]
def bump(x:Row):Row:=x.dropLast++[x.getLastD 0+1]
theorem MZ(u:Row)(y:Int):bump (u++[y])=u++[y+1]:=by
 unfold bump;rw[List.dropLast_concat];simp
def up(a:Row->Nat):Row->Nat:=λx=>a (bump x)
theorem pb(a:Row->Nat)(u:Row)(y:Int):up a (u++[y])=a (u++[y+1]):=by unfold up;rw[MZ]
theorem qN(k:Int)(a:Row->Nat)(r:Row)(e:Nat):T k a (r++[(e:Int)+1])=T k (up a) (r++[(e:Int)])^^^T (k-1) (up (up a)) (r++[(e:Int)]):=by
 rw[show(e:Int)+1=((e+1:Nat):Int) by lia,nT,nT,nT,←lp];refine zj λu _=>?_
 rw[L8]
 congr 1
 ·refine zj λy _=>?_
  rw[pb];by_cases c:u.sum+y=r.sum+e+k
  ·rw[if_pos c,if_pos (by lia)]
  ·rw[if_neg c,if_neg (by lia)]
 ·refine zj λy _=>?_
  rw[pb,pb];by_cases c:u.sum+y=r.sum+e+(k-1)
  ·rw[if_pos c,if_pos (by lia)]
  ·rw[if_neg c,if_neg (by lia)]
def Nn(m:Row):Prop:=∀x∈m,0<=x
theorem Ts(h:Nn m)(a:x∈bD m):m.sum<=x.sum/\x.sum<=2*m.sum:=by
 have:=RZ h m.length;rw[dU] at this;exact this x a
theorem Hx(h:y∈cU e):(e:Int)<=y:=by
 unfold cU at h;obtain⟨j,_,rfl⟩:=bS.mp h;lia
theorem EW{e:Nat}(h:x∈bD (r++[(e:Int)])):∃u y,x=u++[((y:Nat):Int)]/\u∈bD r:=by
 rw[tF] at h;unfold bO bA at h;obtain⟨u,b,h⟩:=fL.mp h;obtain⟨y,a,rfl⟩:=bS.mp h;rw[kL] at a;have:=Hx a;exact⟨u,y.toNat,by rw[Ot (by lia)],b⟩
theorem QF{P:Row->Prop}(j:P [])(l:∀r,Nn r->P r->P (r++[0]))(f:∀r (e:Nat),Nn r->P (r++[(e:Int)])->P (r++[(e:Int)+1])):∀m:Row,Nn m->P m:=λm c=>by
 suffices h:∀i,i<=m.length->P (m.take i) by have:=h m.length (br _);rw[dU] at this;exact this
 intro i
 induction i with
 |zero=>intro _;exact j
 |succ i ih=>
  intro n;have g:m[i]?=some m[i]:=bV (by lia);rw[zf g];have a:Nn (m.take i):=λx k=>c x (ml k)
  have d:0<=m[i]:=c _ (gf _);obtain⟨e,b⟩:∃e:Nat,m[i]=(e:Int):=⟨m[i].toNat,by lia⟩
  rw[b];clear g d b
  induction e with
  |zero=>exact l _ a (ih (by lia))
  |succ e ie=>rw[show((e+1:Nat):Int)=(e:Int)+1 by lia];exact f _ e a ie
theorem EA:∀m:Row,Nn m->∀x∈bD m,Nn x:=λm l x b=>by
 have h:∀i,∀x∈bD (m.take i),Nn x:=λi=>by
  induction i with
  |zero=>intro x b;rw[et.mp (show x∈[[]] from b)];intro y d;cases d
  |succ i ih=>
   by_cases c:i<m.length
   ·have g:m[i]?=some m[i]:=bV c;have n:0<=m[i]:=l _ (gf c);obtain⟨e,k⟩:∃e:Nat,m[i]=(e:Int):=⟨m[i].toNat,by lia⟩
    intro x b;rw[zf g,k] at b;obtain⟨u,y,rfl,f⟩:=EW b;intro z j;rcases dk.mp j with a|a
    ·exact ih u f z a
    ·rw[et.mp a];lia
   ·rw[ka (by lia)] at ih ⊢;exact ih
 have:=h m.length;rw[dU] at this;exact this x b
theorem nL(h:Nn m)(b:k<0):T k φ m=0:=by
 unfold T;rw[zj (g:=λ_=>0) λx a=>if_neg (by have:=Ts h a;lia),lu]
theorem kB(k:Int)(a:Row->Nat):T k a []=if k=0 then a [] else 0:=by
 show(if([]:Row).sum=([]:Row).sum+k then a [] else 0)^^^0=_;rw[jy];by_cases c:k=0
 ·rw[if_pos c,if_pos (by rw[c];rfl)]
 ·rw[if_neg c,if_neg (by simp;lia)]
theorem uM(k:Int)(a:Row->Nat)(r:Row):T k a (r++[0])=T k (λu=>a (u++[0])) r:=by
 rw[show(0:Int)=((0:Nat):Int) from rfl,nT];refine zj λu _=>?_
 rw[AQ];show(if sb 0 0=true then(if u.sum+(((0:Nat):Int)+((0:Nat):Int))=r.sum+((0:Nat):Int)+k then a (u++[((0:Nat):Int)+((0:Nat):Int)]) else 0) else 0)^^^0=_;rw[jy,if_pos (qk 0)];simp
theorem vn(a b:Int)(d:Row->Nat)(r:Row)(e:Nat):T b (T a d) (r++[(e:Int)+1])
  =(T b (T a (up d)) (r++[(e:Int)])^^^T b (T (a-1) (up (up d))) (r++[(e:Int)]))^^^(T (b-1) (T a (up (up d))) (r++[(e:Int)])^^^T (b-1) (T (a-2) (up (up (up (up d))))) (r++[(e:Int)])):=by
 rw[qN,←vo,←vo];have f:∀(c:Int) (g:Row->Nat) (u:Row) (y:Nat),up (T c g) (u++[(y:Int)])=T c (up g) (u++[(y:Int)])^^^T (c-1) (up (up g)) (u++[(y:Int)]):=λc g u y=>by rw[pb,qN]
 congr 1
 ·refine Du λx i=>?_
  obtain⟨u,y,rfl,_⟩:=EW i;exact f _ _ _ _
 ·refine Du λx i=>?_
  obtain⟨u,y,rfl,_⟩:=EW i;have h:up (up (T a d)) (u++[(y:Int)])=up (T a (up d)) (u++[(y:Int)])^^^up (T (a-1) (up (up d))) (u++[(y:Int)]):=by
   rw[pb,show((y:Int)+1)=((y+1:Nat):Int) by lia,f,pb,pb]
   rfl
  rw[h,f,f,show a-1-1=a-2 by lia,gY,←gY (T (a-1) (up (up (up d))) _),py,pz]
def co(b a:Int) (c:Nat):Bool:=decide (2*(c:Int)<=a)&&(if(c:Int)<b then sb (b-1-c).toNat (a-2*c).toNat else decide ((c:Int)=b))
theorem mR{b a:Int}{c:Nat}(h:a<2*(c:Int)):co b a c=false:=by unfold co;rw[cO (by lia)];rfl
theorem nW{b a:Int}{c:Nat}(h:b<(c:Int)):co b a c=false:=by
 unfold co;rw[if_neg (by lia),cO (p:=(c:Int)=b) (by lia),Bool.and_false]
theorem ip{b a:Int}{c:Nat}(d:2*(c:Int)<=a)(e:(c:Int)<b):co b a c=sb (b-1-c).toNat (a-2*c).toNat:=by
 unfold co;rw[cI d,if_pos e,Bool.true_and]
theorem sH{b a:Int}{c:Nat}(d:2*(c:Int)<=a)(e:(c:Int)=b):co b a c=true:=by
 unfold co;rw[cI d,if_neg (by lia),cI e];rfl
theorem IB{b a:Int}{c:Nat}(h:2*b<=a)(d:(c:Int)<b):co b a c=false:=by
 rw[ip (by lia) d,uw (by lia)]
theorem IA(b a:Int)(c:Nat):co (b-1) (a-2) c=co b a (c+1):=by
 by_cases h:2*(c:Int)<=a-2
 ·by_cases g:(c:Int)<b-1
  ·rw[ip h g,ip (by lia) (by lia),show(b-1-((c+1:Nat):Int)).toNat=(b-1-1-(c:Int)).toNat by lia,show(a-2*((c+1:Nat):Int)).toNat=(a-2-2*(c:Int)).toNat by lia]
  ·by_cases g2:(c:Int)=b-1
   ·rw[sH h g2,sH (by lia) (by lia)]
   ·rw[nW (by lia),nW (by lia)]
 ·rw[mR (by lia),mR (by lia)]
theorem Gn(h:a<=2*b-1)(c:Nat):Bool.xor (co b a c) (co b a (c+1))=Bool.xor (co b (a-1) c) (co (b-1) a c):=by
 by_cases h0:a<2*(c:Int)
 ·rw[mR h0,mR (by lia),mR (by lia),mR h0]
 have d:(c:Int)<b:=by lia
 rw[ip (by lia) d];by_cases h1:a=2*(c:Int)
 ·rw[mR (a:=a) (c:=c+1) (by lia),mR (a:=a-1) (by lia),show(a-2*(c:Int)).toNat=0 by lia,qk];by_cases g:(c:Int)<b-1
  ·rw[ip (by lia) g,show(a-2*(c:Int)).toNat=0 by lia,qk];rfl
  ·rw[sH (by lia) (by lia)];rfl
 rw[ip (a:=a-1) (by lia) d];by_cases h2:a=2*(c:Int)+1
 ·rw[mR (a:=a) (c:=c+1) (by lia),show(a-2*(c:Int)).toNat=1 by lia,show(a-1-2*(c:Int)).toNat=0 by lia,qk];by_cases g:(c:Int)<b-1
  ·obtain⟨q,e⟩:∃q:Nat,b-1-1-(c:Int)=q:=⟨(b-1-1-(c:Int)).toNat,by lia⟩
   rw[ip (by lia) g,show(a-2*(c:Int)).toNat=0+1 by lia,show(b-1-1-(c:Int)).toNat=q by lia,show(b-1-(c:Int)).toNat=q+1 by lia,jJ,qk];cases sb q (0+1)<;>rfl
  ·rw[sH (by lia) (by lia),show(b-1-(c:Int)).toNat=0 by lia];rfl
 have g:(c:Int)<b-1:=by lia
 obtain⟨q,e⟩:∃q:Nat,b-1-1-(c:Int)=q:=⟨(b-1-1-(c:Int)).toNat,by lia⟩
 obtain⟨p,f⟩:∃p:Nat,a-2*(c:Int)=p+2:=⟨(a-2*(c:Int)-2).toNat,by lia⟩
 rw[ip (c:=c+1) (by lia) (by lia),ip (by lia) g,show(b-1-(c:Int)).toNat=q+1 by lia,show(b-1-1-(c:Int)).toNat=q by lia,show(b-1-((c+1:Nat):Int)).toNat=q by lia,
  show(a-2*(c:Int)).toNat=p+1+1 by lia,show(a-1-2*(c:Int)).toNat=p+1 by lia,show(a-2*((c+1:Nat):Int)).toNat=p by lia,jJ,jJ]
 cases sb q (p+1+1)<;>cases sb q (p+1)<;>cases sb q p<;>rfl
def cs(b a:Int) (N:Nat) (d:Row->Nat) (m:Row):Nat:=xr (List.range N) λc=>if co b a c=true then T c (T (a+b-c) d) m else 0
theorem uL:∀{N:Nat},k<N->(∀c,c≠k->f c=0)->xr (List.range N) f=f k
 |0,h,_=>by lia
 |N+1,h,z=>by
  rw[re];by_cases c:k=N
  ·rw[zj (g:=λ_=>0) λx a=>z x (by have:=bR.mp a;lia),lu,pz,c]
  ·rw[uL (by lia) z,z N (by lia),jy]
theorem IC{b a:Int}{N:Nat}(d:Row->Nat)(m:Row)(i:0<=b)(h:2*b<=a)(j:a<=2*b+1)(e:b<N):cs b a N d m=T b (T a d) m:=by
 obtain⟨k,rfl⟩:∃k:Nat,b=k:=⟨b.toNat,by lia⟩
 unfold cs;rw[uL (k:=k) (by lia) λc f=>?_,sH h rfl,if_pos rfl,show a+(k:Int)-k=a by lia];by_cases g:(c:Int)<k
 ·rw[IB h g];rfl
 ·rw[nW (by lia)];rfl
def AD(m:Row):Prop:=∀(c:Row->Nat) (a b:Int) (N:Nat),a<=2*b+1->b<N->T b (T a c) m=cs b a N c m
theorem vP{b a:Int}{N:Nat}(d:Row->Nat)(m:Row)(h:a<0):cs b a N d m=0:=by
 unfold cs;rw[zj (g:=λ_=>0) λc _=>by rw[mR (by lia)];rfl,lu]
theorem vH(e:Nn m)(c:Row->Nat) (h:a<0):T b (T a c) m=0:=by
 rw[Du (ψ:=λ_=>0) λx d=>nL (EA m e x d) h,vF]
theorem Ip{e:Nat}(l:Nn (r++[(e:Int)]))(i:AD (r++[(e:Int)])):AD (r++[(e:Int)+1]):=λd a b N h n=>by
 have j:Nn (r++[(e:Int)+1]):=λx t=>by
  rcases dk.mp t with z|z
  ·exact l x (ub _ z)
  ·rw[et.mp z];lia
 by_cases a0:a<0
 ·rw[vP _ _ a0,vH j _ a0]
 by_cases ap:2*b<=a
 ·by_cases b0:0<=b
  ·rw[IC _ _ b0 ap h n]
  ·lia
 obtain⟨M,rfl⟩:∃M,N=M+1:=⟨N-1,by lia⟩
 rw[vn];generalize hm:r++[(e:Int)]=m at *
 rw[i (up d) a b (M+1) h n,i (up (up d)) (a-1) b (M+1) (by lia) n,i (up (up d)) a (b-1) (M+1) (by lia) (by lia),i _ (a-2) (b-1) (M+1) (by lia) (by lia)];have o:cs b a (M+1) d (r++[(e:Int)+1])=((cs b a (M+1) (up d) m)^^^xr (List.range (M+1)) λc=>if co b a c=true then T c (T (a+b-1-c) (up (up d))) m else 0) ^^^
   ((xr (List.range (M+1)) λc=>if co b a (c+1)=true then T c (T (a+b-1-c) (up (up d))) m else 0)^^^xr (List.range (M+1)) λc=>if co b a (c+1)=true then T c (T (a-2+(b-1)-c) (up (up (up (up d))))) m else 0):=by
  have p:∀Z:Nat->Nat,(xr (List.range (M+1)) λc=>if co b a (c+1)=true then Z (c+1) else 0)=xr (List.range (M+1)) λc=>if co b a c=true then(if c=0 then 0 else Z c) else 0:=λZ=>by
   rw[re,nW (c:=M+1) (by lia),AR];simp
  have s:=p λc=>T ((c:Int)-1) (T (a+b-c) (up (up d))) m
  have q:=p λc=>T ((c:Int)-1) (T (a+b-c-2) (up (up (up (up d))))) m
  rw[zj (g:=λc=>if co b a (c+1)=true then T c (T (a+b-1-c) (up (up d))) m else 0) λc _=>by
   show(if co b a (c+1)=true then T (((c+1:Nat):Int)-1) (T (a+b-((c+1:Nat):Int)) (up (up d))) m else 0)=_
   rw[show((c+1:Nat):Int)-1=c by lia,show a+b-((c+1:Nat):Int)=a+b-1-c by lia]] at s
  rw[zj (g:=λc=>if co b a (c+1)=true then T c (T (a-2+(b-1)-c) (up (up (up (up d))))) m else 0) λc _=>by
   show(if co b a (c+1)=true then T (((c+1:Nat):Int)-1) (T (a+b-((c+1:Nat):Int)-2) _) m else 0)=_
   rw[show((c+1:Nat):Int)-1=c by lia,show a+b-((c+1:Nat):Int)-2=a-2+(b-1)-c by lia]] at q
  rw[s,q];unfold cs;rw[←lp,←lp,←lp];refine zj λc _=>?_
  by_cases hc:co b a c=true
  ·rw[if_pos hc,if_pos hc,if_pos hc,if_pos hc,if_pos hc,vn,hm,show a+b-(c:Int)-1=a+b-1-c by lia];by_cases c0:c=0
   ·subst c0;rw[if_pos rfl,if_pos rfl,nL (k:=((0:Nat):Int)-1) l (by lia),nL (k:=((0:Nat):Int)-1) l (by lia)]
   ·rw[if_neg c0,if_neg c0]
  ·rw[if_neg hc,if_neg hc,if_neg hc,if_neg hc,if_neg hc,py]
 rw[o];have f:cs (b-1) (a-2) (M+1) (up (up (up (up d)))) m=xr (List.range (M+1)) λc=>if co b a (c+1)=true then T c (T (a-2+(b-1)-c) (up (up (up (up d))))) m else 0:=by
  unfold cs;exact zj λc _=>by rw[IA]
 have two:cs b (a-1) (M+1) (up (up d)) m^^^cs (b-1) a (M+1) (up (up d)) m=(xr (List.range (M+1)) λc=>if co b a c=true then T c (T (a+b-1-c) (up (up d))) m else 0)^^^xr (List.range (M+1)) λc=>if co b a (c+1)=true then T c (T (a+b-1-c) (up (up d))) m else 0:=by
  unfold cs;rw[←lp,←lp];refine zj λc _=>?_
  rw[show a-1+b-(c:Int)=a+b-1-c by lia,show a+(b-1)-(c:Int)=a+b-1-c by lia,Dg,Dg,Gn (by lia)]
 rw[f,gY,←gY (cs b (a-1) _ _ _),two];simp only[gY]
theorem PF:∀m:Row,Nn m->AD m:=QF
 (λd a b N h i=>by
  by_cases a0:a<0
  ·rw[vP _ _ a0,vH (λx g=>absurd g (by simp)) _ a0]
  unfold cs;rw[kB,kB];by_cases b0:0<=b
  ·rw[uL (k:=0) (by lia) λc l=>by rw[kB,if_neg (show ¬ (c:Int)=0 by lia)];split<;>rfl,kB,kB];by_cases bz:b=0
   ·subst bz;rw[sH (by lia) (by lia)];simp
   ·rw[if_neg bz,if_neg (show ¬ a+b-((0:Nat):Int)=0 by lia)];simp
  ·lia)
 (λr j f d a b N h i=>by
  unfold cs;rw[uM,show(λu:Row=>T a d (u++[0]))=T a (λu=>d (u++[0])) from funext λu=>uM a d u,f _ a b N h i];unfold cs;refine zj λc _=>?_
  rw[uM,show(λu:Row=>T (a+b-c) d (u++[0]))=T (a+b-c) (λu=>d (u++[0])) from funext λu=>uM _ d u])
 (λr e j f=>Ip (λx g=>by
  rcases dk.mp g with z|z
  ·exact j x z
  ·rw[et.mp z];lia) f)
noncomputable def jN(e:Int):List Int:=((List.range ((e/2).toNat+1)).filter λj:Nat=>decide ((e.toNat-j)&&&j=j)).map λj:Nat=>(j:Int)
def d5(e:Int):List Int:=(jN e).map λj=>e-j
def ez(m:Row):List Row:=m.foldl (λa e=>bA a (d5 e)) [[]]
theorem u6(m:Row)(e:Int):ez (m++[e])=bA (ez m) (d5 e):=by unfold ez;rw[lH];rfl
theorem sT(f:0<=e):j∈jN e↔0<=j/\j<=e/2/\(e.toNat-j.toNat)&&&j.toNat=j.toNat:=by
 unfold jN;simp only[bS,dH,bR,lF];constructor
 ·rintro⟨a,⟨d,b⟩,rfl⟩;exact⟨by lia,by lia,b⟩
 ·rintro⟨d,b,c⟩;exact⟨j.toNat,⟨by lia,c⟩,by lia⟩
def ic(e a:Int) (p:Pt):List Pt:=((jN e).filter λj=>decide (p.2-a<=j/\j<=p.2)).map λj=>(p.1++[e-j],p.2-j)
def kj(e a:Int) (b:List Pt):List Pt:=b.flatMap (ic e a)
def bg(k M b:Int) (a:List Row):List Pt:=(a.filter λu=>decide (0<=k-(M-u.sum)/\k-(M-u.sum)<=b)).map λu=>(u,k-(M-u.sum))
theorem Qn{k M e rest:Int}(d:0<=e):∀rows:List Row,bg k (M+e) rest (bA rows (d5 e))=kj e rest (bg k M (e/2+rest) rows)
 |[]=>rfl
 |u::rows=>by
  have n:=Qn (k:=k) (M:=M) (rest:=rest) d rows;have l:bA (u::rows) (d5 e)=((d5 e).map λx=>u++[x])++bA rows (d5 e):=by simp[bA]
  have i:bg k (M+e) rest (bA (u::rows) (d5 e))=bg k (M+e) rest ((d5 e).map λx=>u++[x])++bg k (M+e) rest (bA rows (d5 e)):=by
   rw[l];unfold bg;rw[kN,hZ]
  have b:∀j:Int,k-(M+e-(u++[e-j]).sum)=k-(M-u.sum)-j:=λj=>by rw[gZ];simp;lia
  have o:bg k (M+e) rest ((d5 e).map λx=>u++[x])=ic e rest (u,k-(M-u.sum)):=by
   unfold bg d5 ic;rw[eS,rq,eS];have g:(jN e).filter ((λr:Row=>decide (0<=k-(M+e-r.sum)/\k-(M+e-r.sum)<=rest)) ∘ ((λx=>u++[x]) ∘ λj:Int=>e-j))=(jN e).filter λj=>decide (k-(M-u.sum)-rest<=j/\j<=k-(M-u.sum)):=
    mj λj _=>by
     show decide (0<=k-(M+e-(u++[e-j]).sum)/\k-(M+e-(u++[e-j]).sum)<=rest)=_;rw[b];exact pE.mpr ⟨λh=>by lia,λh=>by lia⟩
   rw[g];refine lI λj _=>?_
   show(u++[e-j],k-(M+e-(u++[e-j]).sum))=_;rw[b]
  rw[i,n,o];by_cases c:0<=k-(M-u.sum)/\k-(M-u.sum)<=e/2+rest
  ·have a:bg k M (e/2+rest) (u::rows)=(u,k-(M-u.sum))::bg k M (e/2+rest) rows:=by
    unfold bg;rw[gV (by simpa using c)]
    rfl
   rw[a];simp[kj]
  ·have a:bg k M (e/2+rest) (u::rows)=bg k M (e/2+rest) rows:=by
    unfold bg;rw[hE (by simpa using c)]
   have f:ic e rest (u,k-(M-u.sum))=[]:=by
    unfold ic;rw[yz.mpr λj m=>?_]
    ·rfl
    ·obtain⟨q,p,_⟩:=(sT d).mp m;simp only[lF];lia
   rw[a,f]
   rfl
def ar(r:Row):Int:=(r.map (· / 2)).sum
def dy(s:Int×List Pt) (e:Int):Int×List Pt:=(s.1-e/2,kj e (s.1-e/2) s.2)
def mG(k:Int) (r:Row):List Row:=(r.foldl dy (ar r,[([],k)])).2.map (·.1)
theorem U4(a b:Row):ar (a++b)=ar a+ar b:=by unfold ar;rw[hZ,gZ]
theorem EH{k:Int}(d:0<=k):∀(suf m:Row),(∀x∈suf,0<=x)->(suf.foldl dy (ar suf,bg k m.sum (ar suf) (ez m))).2=bg k (m++suf).sum 0 (ez (m++suf))
 |[],m,_=>by simp[ar]
 |e::suf,m,h=>by
  have c:=h e dB;have b:=EH d suf (m++[e]) λx g=>h x (bU _ g)
  have f:ar (e::suf)=e/2+ar suf:=by simp[ar]
  rw[lC];have a:dy (ar (e::suf),bg k m.sum (ar (e::suf)) (ez m)) e=(ar suf,bg k (m++[e]).sum (ar suf) (ez (m++[e]))):=by
   unfold dy;rw[f,show e/2+ar suf-e/2=ar suf by lia,u6,gZ,show m.sum+[e].sum=m.sum+e by simp,Qn c]
  rw[a,b,ff]
  rfl
theorem Qm(E:r≠[])(h:∀x∈r,0<=x)(w:0<=k):mG k r=(ez r).filter λu=>decide (u.sum=r.sum-k):=by
 unfold mG;by_cases c:k<=ar r
 ·have e:=EH w r [] h;have n:bg k ([]:Row).sum (ar r) (ez [])=[([],k)]:=by
   show bg k 0 (ar r) [[]]=_;unfold bg;rw[gV (by simp;lia)];simp
  rw[n] at e;rw[e,N3];unfold bg;rw[eS];have y:(ez r).filter (λu=>decide (0<=k-(r.sum-u.sum)/\k-(r.sum-u.sum)<=0))=(ez r).filter λu=>decide (u.sum=r.sum-k):=mj λu _=>pE.mpr ⟨λh=>by lia,λh=>by lia⟩
  rw[y];exact x9 _
 ·have e:=EH w r [] h;have n:bg k ([]:Row).sum (ar r) (ez [])=[]:=by
   show bg k 0 (ar r) [[]]=_;unfold bg;rw[hE (by simp;lia)];simp
  rw[n] at e;have none:∀(suf:Row) (b:List Pt),(∀x∈suf,0<=x)->(∀p∈b,ar suf<p.2)->(suf.foldl dy (ar suf,b)).2.map (·.1)=([]:List Row)\/(suf=[]/\(suf.foldl dy (ar suf,b)).2=b):=λsuf=>by
   induction suf with
   |nil=>intro b _ _;exact .inr ⟨rfl,rfl⟩
   |cons e suf ih=>
    intro b t m
    left
    have H:=t e dB;have I:ar (e::suf)=e/2+ar suf:=by simp[ar]
    have:dy (ar (e::suf),b) e=(ar suf,[]):=by
     unfold dy;rw[I,show e/2+ar suf-e/2=ar suf by lia]
     congr 1
     unfold kj;refine List.flatMap_eq_nil_iff.mpr λp q=>?_
     unfold ic;have f:=m p q;rw[yz.mpr λj s=>?_]
     ·rfl
     ·obtain⟨l,C,_⟩:=(sT H).mp s;simp only[lF];lia
    rw[lC,this];rcases ih [] (λx A=>t x (bU _ A)) (by simp) with h|⟨f,l⟩
    ·exact h
    ·rw[l];rfl
  have o:∀(i:Nat),∀u∈ez (r.take i),(r.take i).sum-ar (r.take i)<=u.sum:=λi=>by
   induction i with
   |zero=>intro u a;rw[et.mp (show u∈[[]] from a)];simp[ar]
   |succ i ih=>
    by_cases ci:i<r.length
    ·have g:r[i]?=some r[i]:=bV ci;have z:=h r[i] (gf ci);intro u a;rw[zf g,u6] at a;unfold bA d5 at a;obtain⟨v,G,a⟩:=fL.mp a;rw[eS] at a;obtain⟨j,s,rfl⟩:=bS.mp a;obtain⟨f,l,_⟩:=(sT z).mp s;have C:=ih v G;rw[zf g,U4];simp only[Function.comp,gZ,fe,rg];have:ar [r[i]]=r[i]/2:=by simp[ar]
     lia
    ·rw[ka (by lia)] at ih ⊢;exact ih
  have d:(ez r).filter (λu=>decide (u.sum=r.sum-k))=[]:=yz.mpr λu a=>by
   have:=o r.length u (by rw[dU];exact a);rw[dU] at this;simp only[lF];lia
  rw[d];rcases none r [([],k)] h (λp m=>by rw[et.mp m];lia) with f|⟨f,l⟩
  ·exact f
  ·exact absurd f E
theorem zZ{a:Type}[BEq a][LawfulBEq a]{l:List a}{x:a}(b:l.Nodup)(h:x∈l):l.count x=1:=by
 have c:l.count x<=1:=OA.mp b x;have d:0<l.count x:=rB.mpr h;lia
theorem TN{e x:Int}(l:0<=e)(q:0<=x):(d5 e).count x=(cU x.toNat).count e:=by
 have f:(d5 e).Nodup:=by
  unfold d5 jN;rw[eS];refine Oc _ ?_ ((rz).filter _);intro a b k m;simp only[Function.comp] at m;lia
 have i:(cU x.toNat).Nodup:=by
  unfold cU ak dD;refine Oc _ ?_ ((rz).filter _);intro a b k m;lia
 have d:x∈d5 e↔e∈cU x.toNat:=by
  unfold d5 cU;simp only[bS];constructor
  ·rintro⟨j,g,rfl⟩;obtain⟨o,p,n⟩:=(sT l).mp g;refine⟨j.toNat,qz.mpr ⟨?_,by lia,by lia⟩,by lia⟩;rw[show(e-j).toNat=e.toNat-j.toNat by lia];exact n
  ·rintro⟨j,g,h⟩;obtain⟨o,p,n⟩:=qz.mp g;refine⟨(j:Int),(sT l).mpr ⟨by lia,by lia,?_⟩,by lia⟩;rw[show e.toNat-(j:Int).toNat=x.toNat by lia,kL];exact o
 by_cases c:x∈d5 e
 ·rw[zZ f c,zZ i (d.mp c)]
 ·rw[kM.mpr c,kM.mpr λz=>c (d.mpr z)]
theorem LM(r:Row)(i:Nat):∀m∈ez (r.take i),m.length=(r.take i).length:=by
 induction i with
 |zero=>intro m a;rw[et.mp (show m∈[[]] from a)];rfl
 |succ i ih=>
  by_cases c:i<r.length
  ·have g:r[i]?=some r[i]:=bV c;intro m a;rw[zf g,u6] at a;unfold bA at a;obtain⟨v,b,a⟩:=fL.mp a;obtain⟨x,_,rfl⟩:=bS.mp a;rw[zf g,cQ,cQ,ih v b]
   rfl
  ·rw[ka (by lia)] at ih ⊢;exact ih
theorem Wd{q p:Row}(e:q.length=p.length)(d:∀x∈q,0<=x)(b:∀x∈p,0<=x):∀i,i<=q.length->(ez (q.take i)).count (p.take i)=(bD (p.take i)).count (q.take i):=λi=>by
 induction i with
 |zero=>intro _;rfl
 |succ i ih=>
  intro f;have c:q[i]?=some q[i]:=bV (by lia);have a:p[i]?=some (p[i]'(by lia)):=bV (by lia);rw[zf c,zf a,u6,tF];unfold bO;rw[ES,ES,ih (by lia),TN (d _ (gf _)) (b _ (gf _))]
theorem Nz{p:Row}(h:q≠[])(b:q.length=p.length)(e:∀x∈q,0<=x)(f:∀x∈p,0<=x)(d:0<=k):(mG k q).count p=(cN k p).count q:=by
 rw[Qm h e d,vd f d];have a:=Wd b e f q.length (br _);rw[dU,b,dU] at a;by_cases c:p.sum=q.sum-k
 ·rw[List.count_filter (by simpa using c),List.count_filter (by simp;lia),a]
 ·have i:((ez q).filter λu=>decide (u.sum=q.sum-k)).count p=0:=kM.mpr λz=>c (by simpa using (dH.mp z).2)
  have g:((bD p).filter λm=>decide (m.sum=p.sum+k)).count q=0:=kM.mpr λz=>c (by have:=(dH.mp z).2;simp at this;lia)
  rw[i,g]
def kU(k:Int) (l:List Row):List Row:=l.flatMap (mG k)
def Rows(n:Nat) (l:List Row):Prop:=∀r∈l,r.length=n/\∀x∈r,0<=x
theorem Rows.low(f:n≠0)(h:Rows n l) (s:0<=k):Rows n (kU k l):=λm a=>by
 unfold kU at a;obtain⟨r,b,a⟩:=fL.mp a;rw[Qm (λz=>by subst z;exact f (h [] b).1.symm) (h r b).2 s] at a;have a:=(dH.mp a).1;have e:=LM r r.length m (by rw[dU];exact a);rw[dU] at e;refine⟨by rw[e,(h r b).1],λx o=>?_⟩;have d:∀i:Nat,∀m∈ez (r.take i),∀x∈m,0<=x:=λi=>by
  induction i with
  |zero=>intro m a;rw[et.mp (show m∈[[]] from a)];simp
  |succ i ih=>
   by_cases c:i<r.length
   ·have g:r[i]?=some r[i]:=bV c;have t:=(h r b).2 r[i] (gf c);intro m a;rw[zf g,u6] at a;unfold bA d5 at a;obtain⟨v,q,a⟩:=fL.mp a;rw[eS] at a;obtain⟨j,p,rfl⟩:=bS.mp a;obtain⟨w,u,_⟩:=(sT t).mp p;exact BH (ih v q) (by simp only[Function.comp];lia)
   ·rw[ka (by lia)] at ih ⊢;exact ih
 exact d r.length m (by rw[dU];exact a) x o
theorem GX(a:Row)(b:List Row):i6 neg (aL a) (aK b) au=.ok (.bl (if neg then !decide (a∈b) else decide (a∈b))) au:=by
 unfold i6;rw[P8,Ef];dsimp only;rw[if_pos ⟨R6 a,Ce b⟩];have e:((b.map bT).any λy=>PyData.eqv y (bT a))=decide (a∈b):=by
  rw[List.any_map,kK,CJ,tU];constructor
  ·rintro⟨x,c,h⟩;have h:PyData.eqv (bT x) (bT a)=true:=h;rw[uQ] at h;have:=gR h;subst this;exact c
  ·intro h;refine⟨a,h,?_⟩;show PyData.eqv (bT a) (bT a)=true;rw[uQ];simp
 rw[e]
theorem L5(f:eG x=some (aJ l))(b:gq l)(k:∀g,Q (aK (aO l)) (au++g)):WP (tq [x] au) Q:=by
 refine gO rfl ?_;simp only[W,V];refine⟨_,f,?_⟩;refine iW (λi a s=>(∃v,a=[some x,some (.ref au.length),v])/\s=au++[.dT (aQ (aN (l.take i)))]) ⟨⟨_,rfl⟩,rfl⟩ ?_ ?_
 ·rintro i y a s c ⟨⟨v,rfl⟩,rfl⟩;obtain⟨r,e,rfl⟩:=j3 c;refine⟨_,rfl,?_⟩;unfold Fa;simp only[W,V,L];refine DC (ks:=aN (l.take i)) (by simp) (b.sub λz d=>ml d).odd ⟨⟨_,rfl⟩,?_⟩;rw[zf e];unfold aN;rw[lH];simp
 ·rintro a s ⟨⟨v,rfl⟩,rfl⟩;rw[zc,dU];simp only[W,V];refine EL (ks:=aN l) (by simp) b.odd ?_;simp only[W,V];exact k _
theorem oC(h:n<=16000000):n<=sizeLine:=by rw[me];lia
theorem MV{b a:List Row}(d:b.length+a.length<=16000000)(c:gq (b++a))(k:∀g,Q (aK (aO (b++a))) (au++g)):WP (nB [aK b,aK a] au) Q:=by
 refine gO rfl ?_;simp only[W,V];refine⟨by rw[zc,zc];exact oC d,?_⟩;exact L5 (l:=b++a) (by simp[eG,aJ]) c k
theorem T4(t:Int)(l:List Row)(i:Nat):∀x∈ao t (l.take i),x∈ao t l:=λx a=>by
 obtain⟨r,b,a⟩:=fL.mp a;exact fL.mpr ⟨r,ml b,a⟩
theorem T6(C:0<=t)(A:∀r∈l,∀x∈r,0<=x/\x<=1000)(u:∀r∈l,r.length<=1000)(p:∀r∈l,fk r<=20000)(n:gq (ao t l))(k:∀g,Q (aK (aO (ao t l))) (au++g)):WP (sS [aK l,.int t] au) Q:=by
 refine gO rfl ?_;simp only[W,V,Dd.N];refine WP.of (Sb (au:=au) (i:=t)) ⟨true,rfl,?_⟩;have q:¬ t<0:=by lia
 simp only[W,V,Dd.N,q,px];refine iW (λi a s=>(∃v w,a=[some (aK l),some (.int t),some (.ref au.length),v,w])/\∃g,s=au++(.dT (aQ (aN (ao t (l.take i))))::g)) ⟨⟨_,_,rfl⟩,[],rfl⟩ ?_ ?_
 ·rintro i y a s h ⟨⟨v,w,rfl⟩,g,rfl⟩;obtain⟨r,d,rfl⟩:=j3 h;have e:=ew d;refine⟨_,rfl,?_⟩;unfold R1;simp only[W,V,M,Dd.N,L];refine⟨r,qw r,?_⟩;rw[zf d,UE];split
  ·rename_i c;have f:cN t r=h8 r t:=by unfold cN;rw[if_pos c]
   rw[f];refine Vs (A r e) (u r e) (p r e) λo=>?_
   simp only[W,V,Dd.N];rw[ff,tQ];generalize g++o=g3;refine iW (λj a s=>(∃w,a=[some (aK l),some (.int t),some (.ref au.length),some (aL r),w])/\s=au++(.dT (aQ (aN (ao t (l.take i)++(h8 r t).take j)))::g3)) ⟨⟨_,rfl⟩,by rw[CC,jA]⟩ ?_ ?_
   ·rintro j y a s h ⟨⟨w,rfl⟩,rfl⟩;obtain⟨b,m,rfl⟩:=j3 h;refine⟨_,rfl,?_⟩;unfold R0;simp only[W,V,L];refine DC (ks:=aN (ao t (l.take i)++(h8 r t).take j)) (uD _ _) (n.sub λz hz=>?_).odd ⟨⟨_,rfl⟩,?_⟩
    ·rcases dk.mp hz with hz|hz
     ·exact T4 t l i z hz
     ·exact fL.mpr ⟨r,e,by rw[f];exact ml hz⟩
    ·rw[D2,zf m,←ff];unfold aN;rw[lH (l':=[b])]
     rfl
   ·rintro a s ⟨⟨w,rfl⟩,rfl⟩;simp only[L];refine⟨⟨_,_,rfl⟩,g3,?_⟩;rw[zc,dU]
  ·rename_i c;have f:cN t r=[]:=by unfold cN;rw[if_neg c]
   rw[f,jA]
   try simp only[L]
   exact⟨⟨_,_,rfl⟩,g,rfl⟩
 ·rintro a s ⟨⟨v,w,rfl⟩,g,rfl⟩;rw[zc,dU];simp only[W,V];refine EL (ks:=aN (ao t l)) (uD _ _) n.odd ?_;simp only[W,V];exact k _
def Ge:Row->Row->Prop
 |[],[]=>True
 |p::ps,v::vs=>p<=v/\Ge ps vs
 |_,_=>False
theorem Ge.refl:∀p:Row,Ge p p
 |[]=>trivial
 |p::ps=>⟨x8 _,Ge.refl ps⟩
theorem Ge.trans:∀{a b c:Row},Ge a b->Ge b c->Ge a c
 |[],[],[],_,_=>trivial
 |_::_,_::_,_::_,h1,h2=>⟨yc h1.1 h2.1,Ge.trans h1.2 h2.2⟩
theorem Ge.len:∀{a b:Row},Ge a b->b.length=a.length
 |[],[],_=>rfl
 |_::_,_::_,h=>by rw[dw,dw,Ge.len h.2]
theorem Ge.append:∀{a b c d:Row},Ge a b->Ge c d->Ge (a++c) (b++d)
 |[],[],_,_,_,h=>h
 |_::_,_::_,_,_,h1,h2=>⟨h1.1,Ge.append h1.2 h2⟩
theorem Ge.sum:∀{a b:Row},Ge a b->a.sum<=b.sum
 |[],[],_=>x8 _
 |_::_,_::_,h=>by
  have:=Ge.sum h.2;have:=h.1;rw[fe,fe];lia
theorem Ge.pos:∀{a b:Row},Ge a b->(∀x∈a,0<=x)->∀x∈b,0<=x
 |[],[],_,h,x,hx=>h x hx
 |p::a,v::b,h,ha,x,hx=>by
  rcases ca.mp hx with rfl|hx
  ·have:=ha p dB;have:=h.1;lia
  ·exact Ge.pos h.2 (λy c=>ha y (bU _ c)) x hx
def ow:Row->Nat->List Row
 |[],_=>[[]]
 |p::ps,K=>(List.range (K+1)).flatMap λj:Nat=>(ow ps (K-j)).map ((p+(j:Int))::·)
noncomputable def p9:Nat->Nat->Nat
 |0,_=>1
 |n+1,K=>((List.range (K+1)).map λj=>p9 n j).sum
noncomputable def acc:Nat->List Nat->List Nat
 |_,[]=>[]
 |s,a::l=>(s+a)::acc (s+a) l
def tb:Nat->List Nat
 |0=>List.replicate 17 1
 |n+1=>acc 0 (tb n)
def Dm(n K:Nat):Nat:=(tb n).getD K 0
theorem wL:∀{l:List Nat}{s i:Nat},i<l.length->(acc s l)[i]?=some (s+(l.take (i+1)).sum)
 |[],_,_,h=>by simp at h
 |a::l,s,0,_=>by simp[acc]
 |a::l,s,i+1,h=>by
  have:=wL (l:=l) (s:=s+a) (i:=i) (by simpa using h);unfold acc;rw[yC,this,List.take_succ_cons,fe,Cz]
theorem wM:∀(l:List Nat) (s:Nat),(acc s l).length=l.length
 |[],_=>rfl
 |a::l,s=>by unfold acc;rw[dw,dw,wM l]
theorem rd:∀n,(tb n).length=17
 |0=>rfl
 |n+1=>by unfold tb;rw[wM,rd n]
theorem wB:∀n:Nat,tb n=(List.range 17).map (p9 n)
 |0=>rfl
 |n+1=>by
  apply tT;intro i;by_cases h:i<17
  ·have e:=wL (l:=tb n) (s:=0) (i:=i) (by rw[rd];exact h);unfold tb;rw[e,wB n,fM,C3 h,←List.map_take,List.take_range,j6 (by lia),iS]
   rfl
  ·rw[oq (by rw[rd];lia),oq (by simp;lia)]
theorem vQ{K:Nat}(h:K<17):Dm n K=p9 n K:=by
 unfold Dm;rw[wB,cJ,fM,C3 h]
 rfl
theorem MK(f:Nat->Nat):∀K:Nat,((List.range (K+1)).map λj=>f (K-j)).sum=((List.range (K+1)).map f).sum:=λK=>by
 have e:((List.range (K+1)).map λj=>f (K-j))=((List.range (K+1)).map f).reverse:=by
  apply CN
  ·simp
  ·intro i a b;simp at a b ⊢
 rw[e,List.sum_reverse]
theorem Ei{b c:Type}(f:b->List c):∀l:List b,(l.flatMap f).length=(l.map λa=>(f a).length).sum
 |[]=>rfl
 |a::l=>by rw[CS,cQ,Ei f l,cr,fe]
theorem xU:∀(p:Row) (K:Nat),(ow p K).length=p9 p.length K
 |[],_=>rfl
 |p::ps,K=>by
  show((List.range (K+1)).flatMap λj:Nat=>(ow ps (K-j)).map ((p+(j:Int))::·)).length=((List.range (K+1)).map λj=>p9 ps.length j).sum;rw[Ei,←MK (p9 ps.length)]
  congr 1
  refine lI λj _=>?_
  rw[bj,xU ps]
theorem Bx:∀{p v:Row}{K:Nat},Ge p v->v.sum<=p.sum+K->v∈ow p K
 |[],[],K,_,_=>by simp[ow]
 |p::ps,v::vs,K,h,hs=>by
  have a:=h.1;have b:=h.2.sum;rw[fe,fe] at hs;refine fL.mpr ⟨(v-p).toNat,bR.mpr (by lia),bS.mpr ⟨vs,Bx h.2 (by lia),?_⟩⟩;rw[show p+((v-p).toNat:Int)=v by lia]
theorem AK:∀{p v:Row}{K:Nat},v∈ow p K->Ge p v/\v.sum<=p.sum+K
 |[],v,K,h=>by
  simp[ow] at h;subst h;exact⟨trivial,by simp⟩
 |p::ps,v,K,h=>by
  obtain⟨j,a,h⟩:=fL.mp h;obtain⟨w,c,rfl⟩:=bS.mp h;obtain⟨b,d⟩:=AK c;have a:=bR.mp a;refine⟨⟨by lia,b⟩,?_⟩;rw[fe,fe];lia
theorem MT(r:Row):∀x∈bD r,Ge r x:=by
 have:=RA (P:=λm s=>∀x∈s,Ge m x) (by simp;exact trivial) (λm e s c=>?_) r r.length
 ·rw[dU] at this;exact this
 ·intro x a;unfold bO bA at a;obtain⟨b,f,a⟩:=fL.mp a;obtain⟨y,d,rfl⟩:=bS.mp a;have:=(L6 d).1;exact(c b f).append ⟨by lia,trivial⟩
theorem Mt(h:∀y∈r,0<=y)(b:0<=k)(a:x∈cN k r):Ge r x/\x.sum=r.sum+k:=by
 rw[vd h b] at a;obtain⟨c,d⟩:=dH.mp a;exact⟨MT r x c,by simpa using d⟩
theorem w4:∀e:Nat,3*((e+1)*2^e)<=4*3^e
 |0=>by decide
 |1=>by decide
 |e+2=>by
  have a:=w4 (e+1);rw[tK 2 (e+1),tK 3 (e+1)];have h:(e+2+1)*(2^(e+1)*2)<=((e+1+1)*2^(e+1))*3:=by
   rw[Cs (2^(e+1)) 2,←yf,Cs ((e+1+1)*2^(e+1)) 3,←yf];exact tZ _ (by lia)
  lia
theorem wQ:∀{r:Row},(∀x∈r,0<=x)->3^r.length*(fk r*2^r.sum.toNat)<=4^r.length*3^r.sum.toNat
 |[],_=>by simp[fk]
 |e::r,h=>by
  have k:=h e dB;have a:=λx g=>h x (bU e g)
  have f:=wQ a;have j:=o4 a;have i:=w4 e.toNat;have b:(e::r).sum.toNat=e.toNat+r.sum.toNat:=by rw[fe];lia
  rw[b,Nat.pow_add,Nat.pow_add,dw,tK,tK];show 3^r.length*3*((e.toNat+1)*fk r*(2^e.toNat*2^r.sum.toNat))<=4^r.length*4*(3^e.toNat*3^r.sum.toNat)
  have m:=Nat.mul_le_mul f i;have d:3^r.length*3*((e.toNat+1)*fk r*(2^e.toNat*2^r.sum.toNat))=3^r.length*(fk r*2^r.sum.toNat)*(3*((e.toNat+1)*2^e.toNat)):=by
   simp only[yf,Cs,Nat.mul_left_comm]
  have c:4^r.length*4*(3^e.toNat*3^r.sum.toNat)=4^r.length*3^r.sum.toNat*(4*3^e.toNat):=by
   simp only[yf,Cs,Nat.mul_left_comm]
  rw[d,c];exact m
theorem Lm:(List.range 11).all (λn=>(List.range 18).all λs=>Nat.blt (4^n*3^s) (3^n*(20001*2^s)))=true:=by decide +kernel
theorem Gg{r:Row}(g:r.length<=10)(h:∀x∈r,0<=x)(e:r.sum<=17):fk r<=20000:=by
 have c:=wQ h;have a:=dW.mp (dW.mp Lm r.length (bR.mpr (by lia))) r.sum.toNat (bR.mpr (by lia));have a:4^r.length*3^r.sum.toNat<3^r.length*(20001*2^r.sum.toNat):=Nat.blt_eq.mp a;have b:=jl c a;have d:=Nat.lt_of_mul_lt_mul_left b;have f:=Nat.lt_of_mul_lt_mul_right d;lia
theorem TH:(List.range 32).all (λa=>(List.range 32).all λb=>Nat.ble ((a+1)*((b+1)*(31-a-b+1))) 20000)=true:=by decide +kernel
theorem EX(h:a+b+c<=31):(a+1)*((b+1)*(c+1))<=20000:=by
 have d:=dW.mp (dW.mp TH a (bR.mpr (by lia))) b (bR.mpr (by lia));have d:(a+1)*((b+1)*(31-a-b+1))<=20000:=Nat.ble_eq.mp d;exact ay (Nat.mul_le_mul_left _ (Nat.mul_le_mul_left _ (by lia))) d
theorem Gh:∀{r:Row},r.length<=3->(∀x∈r,0<=x)->r.sum<=31->fk r<=20000
 |[],_,_,_=>by simp[fk]
 |[a],_,h,s=>by
  have:=EX (a:=a.toNat) (b:=0) (c:=0) (by simp at s;lia)
  simpa [fk] using this
 |[a,b],_,h,s=>by
  have d:=h a (by simp);have e:=h b (by simp);have:=EX (a:=a.toNat) (b:=b.toNat) (c:=0) (by simp at s;lia)
  simpa [fk] using this
 |[a,b,c],_,h,s=>by
  have d:=h a (by simp);have e:=h b (by simp);have f:=h c (by simp);have:=EX (a:=a.toNat) (b:=b.toNat) (c:=c.toNat) (by simp at s;lia)
  simpa [fk] using this
 |_::_::_::_::_,h,_,_=>by simp at h
structure KX (n K:Nat) (some:List Row):Prop where
 rows:Rows n some
 big:(n<=3/\K<=16/\some.length<=40/\∀p∈some,p.sum+K<=32)\/(n<=10/\K<=8/\some.length<=12/\∀p∈some,p.sum+K<=18)
def UU(some:List Row) (T:Nat):List Row:=some.flatMap λp=>ow p T
theorem wJ{some:List Row}{T S:Nat}(h:T<=S){x:Row}(a:x∈UU some T):x∈UU some S:=by
 obtain⟨p,c,a⟩:=fL.mp a;obtain⟨b,d⟩:=AK a;exact fL.mpr ⟨p,c,Bx b (by lia)⟩
theorem Io{some:List Row}{x:Row}(h:x∈some):x∈UU some 0:=fL.mpr ⟨x,h,Bx (Ge.refl x) (by lia)⟩
theorem F8{n:Nat}{some:List Row}(h:Rows n some)(T:Nat):(UU some T).length=some.length*p9 n T:=by
 unfold UU;rw[Ei];have:∀l:List Row,Rows n l->(l.map λp=>(ow p T).length).sum=l.length*p9 n T:=λl=>by
  induction l with
  |nil=>intro _;simp
  |cons a l ih=>
   intro h;rw[cr,fe,ih λr b=>h r (bU _ b),xU,(h a dB).1,dw,Cu];lia
 exact this some h
theorem uN{n:Nat}{some l:List Row}{T k:Nat}(h:Rows n some)(e:∀x∈l,x∈UU some T){x:Row}(a:x∈ao (k:Int) l):x∈UU some (T+k):=by
 obtain⟨r,f,a⟩:=fL.mp a;obtain⟨p,b,d⟩:=fL.mp (e r f);obtain⟨c,j⟩:=AK d;obtain⟨g,i⟩:=Mt (c.pos (h p b).2) (by lia) a;exact fL.mpr ⟨p,b,Bx (c.trans g) (by lia)⟩
theorem KR:(List.range 4).all (λn=>(List.range 17).all λT=>Nat.ble (40*Dm n T) 600000)=true:=by decide +kernel
theorem M4:(List.range 11).all (λn=>(List.range 9).all λT=>Nat.ble (12*Dm n T) 600000)=true:=by decide +kernel
section
variable {n:Nat}{K:Nat}{some:List Row}
theorem KX.top(h:KX n K some){T:Nat}(e:T<=K):(UU some T).length<=600000:=by
 rw[F8 h.rows];rcases h.big with⟨d,c,a,b⟩|⟨d,c,a,b⟩
 ·have:=Nat.ble_eq.mp (dW.mp (dW.mp KR n (bR.mpr (by lia))) T (bR.mpr (by lia)));rw[vQ (by lia)] at this;exact ay (tZ _ a) this
 ·have:=Nat.ble_eq.mp (dW.mp (dW.mp M4 n (bR.mpr (by lia))) T (bR.mpr (by lia)));rw[vQ (by lia)] at this;exact ay (tZ _ a) this
theorem KX.few(h:KX n K some){T:Nat}(a:T<=K){l:List Row}(b:∀x∈l,x∈UU some T):gq l:=gq.of b (by have:=h.top a;lia)
theorem KX.len(h:KX n K some){T:Nat}(a:T<=K){l:List Row}(d:l.Nodup)(c:∀x∈l,x∈UU some T):l.length<=600000:=ay (yF d λx b=>c x b) (h.top a)
theorem KX.item(h:KX n K some){T:Nat}(o:T<K){x:Row}(l:x∈UU some T):x.length=n/\(∀y∈x,0<=y/\y<=1000)/\fk x<=20000:=by
 obtain⟨p,d,i⟩:=fL.mp l;obtain⟨f,m⟩:=AK i;have a:=f.pos (h.rows p d).2;have c:=f.len.trans (h.rows p d).1;rcases h.big with⟨k,g,j,e⟩|⟨k,g,j,e⟩
 ·have:=e p d;refine⟨c,λy b=>⟨a y b,?_⟩,Gh (by lia) a (by lia)⟩;have:=qI a y b;lia
 ·have:=e p d;refine⟨c,λy b=>⟨a y b,?_⟩,Gg (by lia) a (by lia)⟩;have:=qI a y b;lia
end
section
variable {au:ab}{Q:D->ab->Prop}{n:Nat}{K:Nat}{some:List Row}
theorem T5(h:KX n K some){T k:Nat}(f:1<=k)(d:T+k<=K){l:List Row}(c:∀x∈l,x∈UU some T)(q:∀g,Q (aK (aO (ao (k:Int) l))) (au++g)):WP (sS [aK l,.int (k:Int)] au) Q:=
 T6 (by lia) (λr a=>(h.item (by lia) (c r a)).2.1) (λr a=>by rw[(h.item (by lia) (c r a)).1];rcases h.big with b|b<;>lia) (λr a=>(h.item (by lia) (c r a)).2.2) (h.few d λx e=>uN h.rows c e) q
end
def R(a:Row) (l:List Row):List Row:=a.foldr ao l
def aj(a l:List Row):List Row:=a.flatMap λb=>R b l
theorem F7(a:Row)(k:Int)(l:List Row):R (a++[k]) l=R a (ao k l):=by unfold R;rw[List.foldr_append];rfl
theorem vm:∀(c:Row) {a b:List Row},(∀x,a.count x%2=b.count x%2)->∀x,(R c a).count x%2=(R c b).count x%2
 |[],_,_,h=>h
 |k::c,_,_,h=>NT k (vm c h)
theorem vE:∀a:Row,R a []=[]
 |[]=>rfl
 |k::a=>by show ao k (R a [])=[];rw[vE a];rfl
theorem Nc(b:List Row):aj b []=[]:=by
 unfold aj
 induction b with
 |nil=>rfl
 |cons a b ih=>rw[CS,vE,ih];rfl
theorem Ey{b:Type}:∀l:List b,dm l (λ_=>0)=0
 |[]=>rfl
 |a::l=>by rw[iQ,Ey l]
theorem xS(c:Nat):∀{f:List Int},f.Nodup->k∈f->dm f (λj=>if k=j then c else 0)=c
 |[],_,h=>by cases h
 |j::f,nd,h=>by
  have b:=g7.mp nd;rw[iQ];by_cases e:k=j
  ·subst e;have:dm f (λj=>if k=j then c else 0)=0:=by
    rw[Rv (d:=λ_=>0) λa g=>if_neg λz:k=a=>b.1 (z ▸ g),Ey]
   rw[if_pos rfl,this];lia
  ·rcases ca.mp h with h|h
   ·exact absurd h e
   ·rw[if_neg e,xS c b.2 h];lia
theorem QI{g:Type}(d:g->Int)(c:g->Nat){f:List Int}(i:f.Nodup):∀{L:List g},(∀a∈L,d a∈f)->dm L c=dm f λk=>dm (L.filter λa=>decide (d a=k)) c
 |[],_=>(Ey f).symm
 |a::L,h=>by
  have l:=QI d c i (L:=L) λb j=>h b (bU _ j)
  have e:(λk=>dm ((a::L).filter λb=>decide (d b=k)) c)=λk=>(if d a=k then c a else 0)+dm (L.filter λb=>decide (d b=k)) c:=funext λk=>by
   by_cases q:d a=k
   ·rw[gV (by simpa using q),iQ,if_pos q]
   ·rw[hE (by simpa using q),if_neg q,iS]
  rw[iQ,e,xR,xS (c a) i (h a dB),l]
theorem Rw{b:Type}(p:b->Bool)(c:b->Nat):∀L:List b,dm L c=dm (L.filter p) c+dm (L.filter λa=>!p a) c
 |[]=>rfl
 |a::L=>by
  rw[iQ,Rw p c L];by_cases q:p a=true
  ·rw[gV q,hE (by rw[q];decide),iQ];lia
  ·rw[hE q,gV (by simpa using q),iQ];lia
abbrev cB(r:Row):Bool:=!r.isEmpty
abbrev bJ(r:Row):Int:=r.getLastD 0
def dz(a:List Row):List Int:=sortI (hG ((a.filter cB).map bJ))
def ahead(k:Int) (a:List Row):List Row:=(a.filter λr=>cB r&&decide (bJ r=k)).map List.dropLast
theorem LC(a:List Row):(dz a).Nodup:=(EV _).nodup_iff.mpr (Bs _)
theorem BU:k∈dz b↔∃r∈b,r≠[]/\bJ r=k:=by
 unfold dz;rw[(EV _).mem_iff,uT,bS];constructor
 ·rintro⟨r,h,e⟩;obtain⟨c,d⟩:=dH.mp h;exact⟨r,c,by rintro rfl;simp[cB] at d,e⟩
 ·rintro⟨r,c,d,e⟩;exact⟨r,dH.mpr ⟨c,by cases r with|nil=>exact absurd rfl d|cons a r=>rfl⟩,e⟩
theorem uV(h:r≠[]):r.dropLast++[bJ r]=r:=by
 have:bJ r=r.getLast h:=by
  unfold bJ;rw[List.getLastD_eq_getLast?,List.getLast?_eq_some_getLast h]
  rfl
 rw[this];exact List.dropLast_concat_getLast h
theorem TU{c:List Row}(f:c.Nodup):c.filter (λr=>!cB r)=if[]∈c then[[]] else[]:=by
 induction c with
 |nil=>rfl
 |cons a c ih=>
  have d:=g7.mp f;cases a with
  |nil=>
   rw[gV rfl,ih d.2,if_neg d.1,if_pos dB]
  |cons b a=>
   rw[hE (by simp[cB]),ih d.2];have e:([]∈(b::a)::c)=([]∈c):=by simp
   simp only[e]
theorem TQ{b:List Row}(n:b.Nodup)(x:Row):(aj b l).count x%2=((if[]∈b then l else[])++(dz b).flatMap λk=>aj (ahead k b) (aO (ao k l))).count x%2:=by
 unfold aj;rw[qx,Rw cB (λr=>(R r l).count x),TU n,lG,qx];have i:dm (if[]∈b then[([]:Row)] else[]) (λr=>(R r l).count x)=(if[]∈b then l else[]).count x:=by
  split
  ·rw[iQ,Ku];rfl
  ·rfl
 have h:dm (b.filter cB) (λr=>(R r l).count x)=dm (dz b) λk=>dm ((b.filter cB).filter λr=>decide (bJ r=k)) λr=>(R r l).count x:=QI bJ _ (LC b) λr e=>by
  obtain⟨f,c⟩:=dH.mp e;exact BU.mpr ⟨r,f,by rintro rfl;simp[cB] at c,rfl⟩
 have p:(dm (dz b) λk=>dm ((b.filter cB).filter λr=>decide (bJ r=k)) λr=>(R r l).count x)%2=(dm (dz b) λk=>((ahead k b).flatMap λd=>R d (aO (ao k l))).count x)%2:=D5 λk o=>by
  rw[qx];unfold ahead;rw[Kt,C1];have m:(b.filter λa=>decide (bJ a=k)&&cB a)=b.filter λr=>cB r&&decide (bJ r=k):=mj λr _=>Bool.and_comm _ _
  rw[m];refine D5 λr e=>?_
  obtain⟨f,c⟩:=dH.mp e;rw[j8,tU] at c;have g:r≠[]:=by rintro rfl;simp[cB] at c
  have j:R r l=R r.dropLast (ao k l):=by
   conv=>lhs;rw[←uV g]
   rw[F7,c.2]
  rw[j];exact vm _ (λz=>(qy _ z).symm) x
 rw[i,h];lia
structure gc (K T:Nat) (rows:List Row):Prop where
 pos:∀r∈rows,∀p∈r,1<=p
 sum:∀r∈rows,r.sum+T<=K
theorem vk{n K:Nat}{some:List Row}(h:KX n K some){T:Nat}{l:List Row}(c:∀x∈l,x∈UU some T):∀{row:Row},(∀p∈row,1<=p)->∀x∈R row l,x∈UU some (T+row.sum.toNat)
 |[],_,x,hx=>by simpa using c x hx
 |k::row,hp,x,hx=>by
  have a:=λp a=>hp p (bU k a)
  have g:=hp k dB;have f:0<=row.sum:=o4 λp b=>by have:=a p b;lia
  have e:=vk h c (row:=row) a;obtain⟨d,rfl⟩:=lL (show 0<=k by lia);have:=uN h.rows e hx;rw[fe,show T+((d:Int)+row.sum).toNat=T+row.sum.toNat+d by lia];exact this
theorem Qa{n K:Nat}{some:List Row}(h:KX n K some){T:Nat}{b l:List Row}(d:gc K T b)(f:∀x∈l,x∈UU some T):∀x∈aj b l,x∈UU some K:=λx c=>by
 obtain⟨a,e,c⟩:=fL.mp c;have:=d.sum a e;have i:0<=a.sum:=o4 λp g=>by have:=d.pos a e p g;lia
 exact wJ (by lia) (vk h f (d.pos a e) x c)
theorem B3{K T:Nat}(h:gc K T a) (u:k∈dz a):1<=k/\k+T<=K/\gc K (T+k.toNat) (ahead k a):=by
 obtain⟨r,n,m,rfl⟩:=BU.mp u;have part:∀r∈a,r≠[]->1<=bJ r/\(∀p∈r.dropLast,1<=p)/\r.dropLast.sum+bJ r=r.sum:=λr j m=>by
  have e:=uV m;have c:=h.pos r j;rw[←e] at c;refine⟨c _ (by simp),λp l=>c p (ub _ l),?_⟩
  conv=>rhs;rw[←e]
  rw[gZ,List.sum_singleton]
 obtain⟨t,o,x⟩:=part r n m;have v:0<=r.dropLast.sum:=o4 λp c=>by have:=o p c;lia
 have w:=h.sum r n;refine⟨t,by lia,λq i=>?_,λq i=>?_⟩
 ·obtain⟨g,b,rfl⟩:=bS.mp i;obtain⟨f,d⟩:=dH.mp b;exact(part g f (by rintro rfl;simp[cB] at d)).2.1
 ·obtain⟨g,b,rfl⟩:=bS.mp i;obtain⟨f,d⟩:=dH.mp b;rw[j8,tU] at d;have s:=(part g f (by rintro rfl;simp[cB] at d)).2.2;have y:=h.sum g f;rw[d.2] at s;lia
theorem KF:∀{c:List Row},c.Nodup->(ahead k c).Nodup:=λ{c} m=>by
 unfold ahead;rw[yD,Oe];have d:(c.filter λr=>cB r&&decide (bJ r=k)).Nodup:=Oz _ m;rw[yD] at d;refine d.imp_of_mem λ{a b} i j h e=>h ?_
 have f:∀{r:Row},r∈c.filter (λr=>cB r&&decide (bJ r=k))->r=r.dropLast++[k]:=λ{r} l=>by
  obtain⟨_,g⟩:=dH.mp l;rw[j8,tU] at g;have:=uV (r:=r) (by rintro rfl;simp[cB] at g);rw[g.2] at this;exact this.symm
 rw[f i,f j,e]
theorem Lw(a:Row)(b:List Row):i6 neg (aL a) (.lst (aJ b)) au=.ok (.bl (if neg then !decide (a∈b) else decide (a∈b))) au:=by
 have d:dataOf au (.lst (aJ b))=some (.list (b.map bT)):=by
  unfold dataOf now;show cK (.lst (aJ b))=_;rw[cK,Q1]
  rfl
 unfold i6;rw[P8,d];dsimp only;rw[if_pos ⟨R6 a,Ce b⟩];have e:((b.map bT).any λy=>PyData.eqv y (bT a))=decide (a∈b):=by
  rw[List.any_map,kK,CJ,tU];constructor
  ·rintro⟨x,c,h⟩;have h:PyData.eqv (bT x) (bT a)=true:=h;rw[uQ] at h;have:=gR h;subst this;exact c
  ·intro h;refine⟨a,h,?_⟩;show PyData.eqv (bT a) (bT a)=true;rw[uQ];simp
 rw[e]
def iK(x:D) (a:List Row):Prop:=x=aK a\/x=.lst (aJ a)
theorem iK.in_(h:iK x rows)(a:Row):i6 false (aL a) x au=.ok (.bl (decide (a∈rows))) au:=by
 rcases h with rfl|rfl
 ·exact GX (neg:=false) a rows
 ·exact Lw (neg:=false) a rows
theorem iK.seq(h:iK x rows):eG x=some (aJ rows):=by
 rcases h with rfl|rfl<;>rfl
theorem Qf(h:r≠[]):cn (aL r) (.int (-1)) au=.ok (.int (bJ r)) au:=by
 conv=>lhs;rw[←uV h]
 refine nz rfl ?_;rw[hZ];exact Ea _ _
theorem M6(h:r≠[]):cutD (r.map D.int) none (some (-1))=r.dropLast.map D.int:=by
 conv=>lhs;rw[←uV h]
 exact KW _ _
theorem Qd:jm au (aL r)=some (cB r):=by
 cases r<;>rfl
theorem LD(k:iK x a)(m:a.length<=1000)(i:∀r∈a,r≠[]->0<=bJ r/\bJ r<64)(q:Q (.lst ((dz a).map .int)) au):
  WP (aE dR (aB (aG (aH (aA 0)) 1 [] (gN 0) (cW (aA 0)) (aS cn (aA 0) (lR gj (eC (.int 1))))) aC) (some x::b) au) Q:=by
 simp only[W,V];refine⟨_,k.seq,by rw[zc];exact small _ (by lia),?_⟩;refine AN (as:=a) (λb=>∃v,b=[v]) cB (λr=>.int (bJ r)) aL ⟨_,rfl⟩ ?_ ?_
 ·rintro r d b ⟨v,rfl⟩;refine⟨_,rfl,⟨_,rfl⟩,?_,λg=>?_⟩
  ·simp only[W,V];exact⟨_,Qd,trivial,rfl⟩
  ·simp only[W,V];have f:r≠[]:=by rintro rfl;cases g
   exact WP.of (Qf f) ⟨rfl,rfl⟩
 ·have c:=qw ((a.filter cB).map bJ);rw[eS] at c;have h:dR [.lst ((a.filter cB).map λr=>.int (bJ r))] au=.ok (.lst ((dz a).map .int)) au:=by
   unfold dR;dsimp only;rw[show(fw au (.lst ((a.filter cB).map λr=>D.int (bJ r)))).bind bP=some ((a.filter cB).map bJ) from c];dsimp only;rw[if_pos]
   ·rfl
   rw[dW];intro y e;obtain⟨r,d,rfl⟩:=bS.mp e;obtain⟨l,j⟩:=dH.mp d;have:=i r l (by rintro rfl;cases j);unfold gw;rw[j8];exact⟨cI this.1,cI this.2⟩
  exact WP.of h q
theorem KG(f:iK x rows)(g:rows.length<=1000)(q:Q (.lst (aJ (ahead k rows))) au):
  WP (aG (aH (aA 0)) 1 [3] (gN 0) (k8 (cW (aA 0)) (eB (aS fJ (aS cn (aA 0) (lR gj (eC (.int 1)))) (aA 1)))) (iU (aA 0) cF (cE (lR gj (eC (.int 1))))) (some x::v1::v2::some (.int k)::v4::b) au) Q:=by
 simp only[W,V];refine⟨_,f.seq,by rw[zc];exact small _ (by lia),?_⟩;refine AN (as:=rows) (λb=>∃v,b=[v,some (.int k)]) (λr=>cB r&&decide (bJ r=k)) (λr=>aL r.dropLast) aL ⟨_,rfl⟩ ?_ ?_
 ·rintro r h b ⟨v,rfl⟩;refine⟨_,rfl,⟨_,rfl⟩,?_,λd=>?_⟩
  ·simp only[W,V];refine⟨_,Qd,?_⟩;cases r with
   |nil=>exact⟨trivial,rfl⟩
   |cons a r=>
    rw[if_pos (show cB (a::r)=true from rfl)];refine WP.of (Qf (by simp)) ?_;simp only[W,V];exact⟨trivial,by simp[cB]⟩
  ·simp only[W,V,M,Dd.N];have c:r≠[]:=by rintro rfl;cases d
   rw[M6 c]
   try exact⟨rfl,rfl⟩
   try exact⟨trivial,rfl⟩
 ·have e:(rows.filter λr=>cB r&&decide (bJ r=k)).map (λr=>aL r.dropLast)=aJ (ahead k rows):=by
   unfold ahead aJ;rw[eS]
   rfl
  rw[e];exact q
theorem qj{l U:List Row}(h:∀x∈l,x∈U):∀x∈aO l,x∈U:=λx a=>h x (nH a)
theorem KA(h:WP (E σ au) (λx s=>∃a,eG x=some a/\WP (dM bd body a σ s) Q)):WP (cb (aH E) bd body σ au) Q:=by
 simp only[W];exact h
theorem KB(h:WP (E σ au) (λv s=>Q (.nx (σ.set i (some v))) s)):WP (aF i E σ au) Q:=by
 simp only[W];exact h
theorem wG(e:c σ au=.ok t au)(h:if t=true then WP (a σ au) Q else WP (b σ au) Q):WP (dZ c a b σ au) Q:=by
 simp only[W];exact WP.of e h
theorem wZ(c:f σ au=.ok v au)(a:jm au v=some b):cW f σ au=.ok b au:=by
 unfold cW;rw[c];simp[a]
theorem Bw(a:ab)(l:List Row):jm a (aK l)=some (!l.isEmpty):=by
 cases l<;>rfl
def cD(a l:List Row) (i:Nat):List Row:=(if[]∈a then l else[])++((dz a).take i).flatMap λk=>aj (ahead k a) (aO (ao k l))
theorem Tc{n K T:Nat}{b a l:List Row}(h:KX n K b)(g:gc K T a)(f:T<=K)(c:∀y∈l,y∈UU b T)(i:Nat):∀y∈cD a l i,y∈UU b K:=λy hy=>by
 rcases dk.mp hy with hy|hy
 ·split at hy
  ·exact wJ f (c y hy)
  ·cases hy
 ·obtain⟨k,j,hy⟩:=fL.mp hy;obtain⟨m,o,d⟩:=B3 g (ml j);obtain⟨p,rfl⟩:=lL (show 0<=k by lia);exact Qa h d (qj λz e=>uN h.rows c e) y hy
section
variable {au:ab}{Q:D->ab->Prop}
theorem Q2{n K T:Nat}{v:List Row}(h:KX n K v){U:cX}{x:D}{b l:List Row}(C:iK x b)(nd:b.Nodup)(hl:b.length<=1000)(w:gc K T b)(hK:K<=16)(hT:T<=K)(u:eQ l)(P:∀y∈l,y∈UU v T)
  (J:∀k∈dz b,∀(au:ab) (Q:D->ab->Prop),(∀g,Q (aK (aO (aj (ahead k b) (aO (ao k l))))) (au++g))->WP (U [.lst (aJ (ahead k b)),aK (aO (ao k l))] au) Q)
  (k:∀g,Q (aK (aO (aj b l))) (au++g)):WP (jW U [x,aK l] au) Q:=by
 show WP (cC 6 2 _ [x,aK l] au) Q;refine gO rfl ?_;refine gu (R:=λj s=>j=.nx [some x,some (aK l),some (aK (aO (cD b l 0))),none,none,none]/\s=au) ?_ ?_
 ·have e0:aO (cD b l 0)=if[]∈b then l else[]:=by
   unfold cD;rw[CC,List.flatMap_nil,jA];split
   ·exact u.odd
   ·rfl
  rw[e0];simp only[W,V];refine⟨by simp,?_⟩;refine WP.of (C.in_ []) ?_;simp only[W,V];by_cases c:[]∈b
  ·simp only[c,gr]
   first|exact⟨trivial,trivial⟩|exact⟨rfl,rfl⟩
  ·simp only[c,gP]
   first|exact⟨by simp,trivial,trivial⟩|exact⟨by simp,rfl,rfl⟩|exact⟨by simp,rfl,trivial⟩|exact⟨by simp,trivial,rfl⟩|simp
 rintro j s ⟨rfl,rfl⟩;show WP _ _;refine gu (R:=λj f=>(∃p o m,j=.nx [some x,some (aK l),some (aK (aO (cD b l (dz b).length))),p,o,m])/\∃g,f=s++g) ?_ ?_
 ·refine KA (LD C hl (λr H ne=>?_) ⟨_,rfl,?_⟩)
  ·obtain⟨h1,h2,_⟩:=B3 w (BU.mpr ⟨r,H,ne,rfl⟩);lia
  refine iW (λi E f=>(∃p o m,E=[some x,some (aK l),some (aK (aO (cD b l i))),p,o,m])/\∃g,f=s++g) ⟨⟨_,_,_,rfl⟩,[],by simp⟩ ?_ ?_
  ·rintro i y E f hy ⟨⟨p,o,m,rfl⟩,g,rfl⟩;obtain⟨d,q,rfl⟩:=AZ hy;have Y:=ew q;obtain⟨k1,k2,S⟩:=B3 w Y;refine⟨_,rfl,?_⟩;obtain⟨k',ek⟩:=lL (show 0<=d by lia);unfold QO;refine gu (R:=λj f=>j=.nx [some x,some (aK l),some (aK (aO (cD b l i))),some (.int d),some (aK (aO (ao d l))),m]/\∃g,f=s++g) ?_ ?_
   ·simp only[W,V];rw[ek];exact T5 h (by lia) (by lia) P λA=>⟨rfl,g++A,by simp⟩
   rintro j f ⟨rfl,g,rfl⟩;show WP _ _;have ki:aO (cD b l (i+1))=aO (aO (cD b l i)++aO (aj (ahead d b) (aO (ao d l)))):=B9 λz=>by
    have e:cD b l (i+1)=cD b l i++aj (ahead d b) (aO (ao d l)):=by
     unfold cD;rw[zf q,List.flatMap_append,ff];simp
    rw[e,lG,lG];have h1:=qy (cD b l i) z;have h2:=qy (aj (ahead d b) (aO (ao d l))) z;lia
   have hM:∀y∈aO (ao d l),y∈UU v (T+k'):=qj λz hz=>by rw[ek] at hz;exact uN h.rows P hz
   have G:gc K (T+k') (ahead d b):=by
    have:d.toNat=k':=by lia
    rw[this] at S;exact S
   by_cases c:aO (ao d l)=[]
   ·have e:aO (cD b l (i+1))=aO (cD b l i):=by
     rw[ki,c,Nc,show aO ([]:List Row)=[] from rfl,jA,(EK _).odd]
    refine wG (wZ rfl (Bw _ _)) ?_;rw[c];simp only[W,L,List.isEmpty_nil,Bool.not_true,gP];exact⟨⟨_,_,_,by rw[e]⟩,g,rfl⟩
   ·have I:(!(aO (ao d l)).isEmpty)=true:=by
     cases e:aO (ao d l) with
     |nil=>exact absurd e c
     |cons a t=>rfl
    refine wG (wZ rfl (Bw _ _)) ?_;rw[if_pos I];refine gu (R:=λj f=>j=.nx [some x,some (aK l),some (aK (aO (cD b l i))),some (.int d),some (aK (aO (ao d l))),some (.lst (aJ (ahead d b)))]/\f=s++g) (KB (KG C hl ⟨rfl,rfl⟩)) ?_;rintro j f ⟨rfl,rfl⟩;simp only[W,V];refine J d Y _ _ λA=>?_
    have m1:=Tc h w hT P i;have X:=Qa h G hM;have l1:=h.len (br K) (pj _) (qj m1);have l2:=h.len (br K) (pj _) (qj X);refine MV (by lia) (h.few (br K) λz hz=>?_) λg3=>?_
    ·rcases dk.mp hz with hz|hz
     ·exact qj m1 z hz
     ·exact qj X z hz
    ·simp only[L];exact⟨⟨_,_,_,by rw[ki]⟩,g++A++g3,by simp⟩
  ·rintro E f ⟨⟨p,o,m,rfl⟩,g,rfl⟩;rw[bj];exact⟨⟨_,_,_,rfl⟩,g,rfl⟩
 rintro j f ⟨⟨p,o,m,rfl⟩,g,rfl⟩;simp only[W,V];have e:aO (cD b l (dz b).length)=aO (aj b l):=by
  refine B9 λz=>?_
  unfold cD;rw[dU];exact(TQ nd z).symm
 rw[e];exact k g
theorem IS{n K:Nat}{u:List Row}(h:KX n K u)(A:K<=16):∀(f:Nat) {T:Nat}{x:D}{a l:List Row}{au:ab}{Q:D->ab->Prop},iK x a->a.Nodup->a.length<=1000->(∀r∈a,r.length<=f)->gc K T a->T<=K->eQ l->(∀y∈l,y∈UU u T) ->
  (∀g,Q (aK (aO (aj a l))) (au++g))->WP (cY jW (f+1) [x,aK l] au) Q:=λf=>by
 induction f with
 |zero=>
  intro T x a l au Q q e j p d t b i k;refine Q2 h q e j d A t b i (λw c=>?_) k;obtain⟨r,o,E,_⟩:=BU.mp c;have:=p r o;exact absurd (yB.mp (by lia)) E
 |succ f ih=>
  intro T x a l au Q q e j p d t b i k;refine Q2 h q e j d A t b i (λw c I U J=>?_) k;obtain⟨P,X,v⟩:=B3 d c;obtain⟨m,rfl⟩:=lL (show 0<=w by lia);rw[kL] at v;refine ih (.inr rfl) (KF e) ?_ (λr s=>?_) v (by lia) (EK _) (qj λz G=>uN h.rows i G) J
  ·unfold ahead;rw[bj];exact ay (pP _ _) j
  ·obtain⟨C,o,rfl⟩:=bS.mp s;obtain⟨H,S⟩:=dH.mp o;have:=p C H;rw[List.length_dropLast];lia
end
theorem P9{n K:Nat}(h:KX n K S0)(e:K<=16) (l:iK x a)(j:a.Nodup)(f:a.length<=1000)(d:∀r∈a,r.length<=7)(i:gc K 0 a)(b:eQ S0)
 (k:∀g,Q (aK (aO (aj a S0))) (au++g)):WP (cY jW 8 [x,aK S0] au) Q:=IS h e 7 l j f d i (gX _) b (λy c=>Io c) k
end Dd
namespace Dd
open L2 K07 K23
def az(r:List Int):List Nat:=(List.range (r.length-1)).filter λp=>decide (aX r p)
noncomputable abbrev kg(l:List Nat):List D:=l.map λ(p:Nat)=>D.int (p:Int)
theorem B7:p∈az r↔aX r p:=by
 unfold az;rw[dH,bR,lF];refine⟨λh=>h.2,λh=>⟨?_,h⟩⟩;obtain⟨a,b,_,e,_⟩:=h;have:=(db.mp e).1;lia
theorem Fc{r:List Int}(C:r.length<=1000):pp [aL r] au=.ok (.lst (kg (az r))) au:=by
 have W:=nD (bd:=gN 0) (c:=eB (aS fB (aS cn (aA 1) (aA 0)) (aS bH (eC (.int 2)) (aS cn (aA 1) (aS aM (aA 0) (eC (.int 1))))))) (f:=aA 0) (xs:=rng 0 (r.length-1)) (σ:=[none,some (aL r)]) (au:=au)
  (λi acc l s=>s=au/\(∃w:Option D,l=[w,some (aL r)])/\acc=kg ((List.range i).filter λp=>decide (aX r p))) ⟨rfl,⟨none,rfl⟩,rfl⟩ (by
   rintro i y acc l s o ⟨rfl,⟨w,rfl⟩,rfl⟩;obtain⟨G,rfl⟩:=qg o;have d:r[i]?=some r[i]:=bV (by lia);have g:r[i+1]?=some r[i+1]:=bV (by lia);have k:=o9 (au:=s) d;have h:=o9 (au:=s) g;rw[pC] at h;generalize hA:r[i]=a at *
   generalize hB:r[i+1]=b at *
   have q:decide (a<2*b)=decide (aX r i):=by
    rw[kK,lF,lF];exact⟨λz=>⟨_,_,d,g,z⟩,λ⟨x,y,t,n,z⟩=>by rw[d] at t;rw[g] at n;cases t;cases n;exact z⟩
   have m:dS 2 b:=.inl ⟨by decide,by decide⟩;refine⟨[some (.int (0+i)),some (aL r)],decide (aX r i),s,rfl,?_,?_⟩
   ·rw[←q,n5];generalize hI:(i:Int)=I at *
    simp at h;clear d g hA hB q G o C hI;simp only[aL] at *
    generalize D.tup (r.map D.int)=R at *
    simp[k,h,m]
   ·rw[pD,kN];by_cases c:aX r i
    ·refine .inr ⟨cI c,.int (0+i),s,rfl,rfl,⟨_,rfl⟩,?_⟩;simp[kg,c]
    ·refine .inl ⟨cO c,rfl,⟨_,rfl⟩,?_⟩
     simp[kg,c])
 obtain⟨H,E,st',e,rfl,_,rfl⟩:=W;rw[j5] at e;refine gW rfl ?_;have A:cg ((r.length:Int)-1):=iy (by lia) (by lia);have j:(rng 0 (r.length-1)).length<=sizeLine:=by rw[j5];exact small _ (by lia)
 have v:hU (aB (aS ce (aE cz (aB (aA 0) aC)) (eC (.int 1))) aC) [some (aL r)] st'=.ok (rng 0 (r.length-1)) st':=by
  have u:=Ec (au:=st') (r:=r);have k:((r.length:Int)-1).toNat=r.length-1:=by lia
  generalize (r.length:Int)=N at *
  simp only[aL] at *
  generalize D.tup (r.map D.int)=R at *
  simp[u,A,k]
 show aV _ [some (aL r)] st'=_;rw[nA,mT,v,zq,if_pos j];show((bm _ _ _ _ [none,some (aL r)] st').bind _).bind _=_;rw[e]
 rfl
noncomputable def av:Int->List Int->Int
 |_,[]=>0
 |n,x::xs=>n*x+av (n+1) xs
theorem vg:∀(a b:List Int) (n:Int),av n (a++b)=av n a+av (n+a.length) b
 |[],b,n=>by simp[av]
 |x::a,b,n=>by
  rw[tQ,av,av,vg a b (n+1),dw,show n+1+(a.length:Int)=n+((a.length+1:Nat):Int) by push_cast;lia];lia
theorem xo:∀(a:List Int) (n:Int),av (n+1) a=av n a+a.sum
 |[],n=>by simp[av]
 |x::a,n=>by
  rw[av,av,xo a (n+1),fe,tI];lia
noncomputable def eH:Int->List Int->List Int
 |_,[]=>[]
 |n,x::xs=>n*x::eH (n+1) xs
theorem Rj:∀(a:List Int) (n:Int),(eH n a).sum=av n a
 |[],n=>rfl
 |x::a,n=>by rw[eH,fe,Rj a,av]
theorem RS:∀(a:List Int) (x n:Int),eH n (a++[x])=eH n a++[(n+a.length)*x]
 |[],x,n=>by simp[eH]
 |y::a,x,n=>by
  rw[tQ,eH,eH,RS a x (n+1),dw,show n+1+(a.length:Int)=n+((a.length+1:Nat):Int) by push_cast;lia]
  rfl
theorem KO{a:List Int}:gn [.lst (a.map .int)] au=.ok (.int a.sum) au:=by
 unfold gn
 show(match ((some (a.map D.int)).bind bP) with
  |some a=>bu.ok (D.int a.sum) au
  |none=>.stuck)=_
 rw[Option.bind_some,qw]
theorem Ju(m:dS I x):aS bH (aA 0) (aA 1) [some (.int I),some (.int x)] s=.ok (.int (I*x)) s:=by simp[m]
theorem Pe:gT 2 (bv (gN 0) (bv (gN 1) eo)) (.tup [.int I,.int x]) [v,w]=some [some (.int I),some (.int x)]:=rfl
theorem Jt(k:∀x∈r,-10000<=x/\x<=10000):bm (gT 2 (bv (gN 0) (bv (gN 1) eo))) aI (aS bH (aA 0) (aA 1)) (gk 1 (r.map .int)) [none,none] au=.ok ((eH 1 r).map D.int) au:=by
 have W:=nD (bd:=gT 2 (bv (gN 0) (bv (gN 1) eo))) (c:=aI) (f:=aS bH (aA 0) (aA 1)) (xs:=gk 1 (r.map .int)) (σ:=[none,none]) (au:=au)
  (λi acc b s=>s=au/\(∃v w:Option D,b=[v,w])/\acc=(eH 1 (r.take i)).map D.int) ⟨rfl,⟨none,none,rfl⟩,rfl⟩ (by
   rintro i y acc b s j ⟨rfl,⟨v,w,rfl⟩,rfl⟩;obtain⟨d,h,rfl⟩:=Ep j;rw[fM] at h;obtain⟨x,a,rfl⟩:=jE.mp h;have g:=k x (ew a);have p:=(db.mp a).1;have m:dS (1+(i:Int)) x:=zK g.1 g.2;refine⟨[some (.int (1+(i:Int))),some (.int x)],true,s,Pe,rfl,.inr ⟨rfl,.int ((1+(i:Int))*x),s,Ju m,rfl,⟨_,_,rfl⟩,?_⟩⟩;rw[zf a,RS,hZ,g9,j6 (by lia)]
   simp)
 obtain⟨o,n,l,e,rfl,_,rfl⟩:=W;rw[Cc,bj,dU] at e;exact e
theorem NB{r:List Int}(f:r.length<=1000)(d:∀x∈r,-10000<=x/\x<=10000):sR [aL r] au=.ok (.int (av 1 r)) au:=by
 have e:=Jt (au:=au) d;refine gW rfl ?_;have a:(gk 1 (r.map D.int)).length<=sizeLine:=by rw[Cc,bj];exact small _ (by lia)
 have c:i8 (aA 0) [some (aL r)] au=.ok (gk 1 (r.map D.int)) au:=rfl;have b:aG (i8 (aA 0)) 2 [] (gT 2 (bv (gN 0) (bv (gN 1) eo))) aI (aS bH (aA 0) (aA 1)) [some (aL r)] au=.ok (.lst ((eH 1 r).map D.int)) au:=by
  rw[mT,c,zq,if_pos a];show((bm _ _ _ _ [none,none] au).bind _)=_;rw[e]
  rfl
 show aV _ [some (aL r)] au=_;rw[nA,jY,lV,b,zq,vG,zq,zq,KO,zq,Rj]
theorem NQ{r:List Int}(n:r.length<=1000):By [aL r] au=.ok (.lst (kg (az r))) au:=by
 have W:=nD (bd:=gN 0) (c:=cW (aE nJ (aB (aA 1) (aB (aA 0) aC)))) (f:=aA 0) (xs:=rng 0 (r.length-1)) (σ:=[none,some (aL r)]) (au:=au)
  (λi acc a s=>s=au/\(∃w:Option D,a=[w,some (aL r)])/\acc=kg ((List.range i).filter λp=>decide (aX r p))) ⟨rfl,⟨none,rfl⟩,rfl⟩ (by
   rintro i y acc a s d ⟨rfl,⟨w,rfl⟩,rfl⟩;obtain⟨o,rfl⟩:=qg d;rw[n5];refine⟨[some (.int i),some (aL r)],decide (aX r i),s,rfl,?_,?_⟩
   ·rw[ur,jY];show((nJ [aL r,.int i] s).bind _)=_;rw[Sa,kL,show decide (0<=(i:Int)/\aX r i)=decide (aX r i) by simp]
    rfl
   ·rw[pD,kN];by_cases c:aX r i
    ·refine .inr ⟨cI c,.int i,s,rfl,rfl,⟨_,rfl⟩,?_⟩;simp[kg,c]
    ·refine .inl ⟨cO c,rfl,⟨_,rfl⟩,?_⟩
     simp[kg,c])
 obtain⟨m,l,st',e,rfl,_,rfl⟩:=W;rw[j5] at e;refine gW rfl ?_;have j:cg ((r.length:Int)-1):=iy (by lia) (by lia);have b:(rng 0 (r.length-1)).length<=sizeLine:=by rw[j5];exact small _ (by lia)
 have h:hU (aB (aS ce (aE cz (aB (aA 0) aC)) (eC (.int 1))) aC) [some (aL r)] st'=.ok (rng 0 (r.length-1)) st':=by
  have g:=Ec (au:=st') (r:=r);have k:((r.length:Int)-1).toNat=r.length-1:=by lia
  generalize (r.length:Int)=N at *
  simp only[aL] at *
  generalize D.tup (r.map D.int)=R at *
  simp[g,j,k]
 show aV _ [some (aL r)] st'=_;rw[nA,mT,h,zq,if_pos b];show((bm _ _ _ _ [none,some (aL r)] st').bind _).bind _=_;rw[e]
 rfl
theorem LQ(i:∀x∈r,1<=x)(o:aX r p)(k:z∈ax r p):av 1 z<av 1 r:=by
 obtain⟨a,b,j,g,y⟩:=o;have E:p+1<r.length:=(db.mp g).1;have A:=i b (ew g);have G:=i a (ew j);unfold ax at k;obtain⟨two,w,rfl⟩:=bS.mp k;have h:=(zo _).mem_iff.mp w;rw[cJ,j,cJ,g] at h;simp only[N8] at h;unfold ah at h;obtain⟨c,v,q⟩:=bS.mp h;have C:c<(a/2+1).toNat:=bR.mp (dH.mp v).1;have m:r=r.take p++[a,b]++r.drop (p+2):=by
  have n:r.drop p=a::r.drop (p+1):=by
   rw[lN (by lia)]
   congr 1
   exact(db.mp j).2
  have l:r.drop (p+1)=b::r.drop (p+2):=by
   rw[lN (by lia)]
   congr 1
   exact(db.mp g).2
  calc r=r.take p++r.drop p:=(j9 p r).symm
   _=_:=by rw[n,l];simp
 have t:0<=(r.drop (p+2)).sum:=pk λx s=>i x (pM s)
 have f:av 1 (r.take p++two++r.drop (p+2))<av 1 (r.take p++[a,b]++r.drop (p+2)):=by
  rw[ff,ff,vg,vg (r.take p)];generalize (1:Int)+((r.take p).length:Int)=N;rw[vg,vg];generalize r.drop (p+2)=d at t;rw[←q];unfold eN;split
  ·rename_i u;simp only[av,dw,tP];rw[Int.mul_sub,Cq,tI,tI];lia
  ·rename_i u;have:(c:Int)=0:=by lia
   simp only[av,dw,tP];have e:=xo d (N+1);rw[show N+((0+1+1:Nat):Int)=N+1+1 by push_cast;lia,show N+((0+1:Nat):Int)=N+1 by push_cast;lia,e,Cq,tI];lia
 rw[←m] at f;exact f
end Dd
namespace Dd
open L2
noncomputable def Sh(n:Nat) (d:D):Prop:=∃p,cK d=some p/\p.canLay0=true/\p.depth<=n
theorem Sh.ok(e:cK d=some p)(a:p.canLay0=true)(b:p.depth<=64):PySem.SeqAt.shaped p=true/\PyData.eqv p p=true:=by
 refine⟨?_,PySem.SeqAt.eqv_refl p a⟩;show(p.canLay0&&decide (p.depth<=64))=true;rw[a,cI b];rfl
end Dd
namespace Dd
open L2 K07 K23
theorem Vp{ks:List (List Int)}{r:List Int}(hk:ks.length<=5000)(hl:r.length<=100)(A:aX r p)(ha:1<=r.getD p 0)(n:r.getD p 0<=40)(I:1<=r.getD (p+1) 0)(u:r.getD (p+1) 0<=40):
  ∃g,Cm [aK ks,aL r,.int p] au=.ok (aK (aO (ks++(r::ax r p)))) (au++g):=by
 have w:r.getD p 0<2*r.getD (p+1) 0:=by
  obtain⟨a,b,o,d,h⟩:=A;rw[cJ,o,cJ,d];exact h
 have hp:p+1<r.length:=by
  obtain⟨a,b,_,z,_⟩:=A;exact(db.mp z).1
 have Q:r[p]?=some (r.getD p 0):=by rw[cJ,bV (by lia)];rfl
 have U:r[p+1]?=some (r.getD (p+1) 0):=by rw[cJ,bV (by lia)];rfl
 have hx:=Cf r p;generalize hA:r.getD p 0=a at *
 generalize hB:r.getD (p+1) 0=b at *
 obtain⟨g,e⟩:=Ul (au:=au) ha n I u w;have hL:(aw (ah a b (a/2+1).toNat)).length<=100:=by
  rw[vi];have:=qu a b (a/2+1).toNat;lia
 have E:=Dz r p;have t:=EE r (p+2);rw[pC] at t;have W:=nD (bd:=gN 0) (c:=aI) (f:=aS aM (aS aM (iU (aA 1) cF (cE (aA 2))) (aA 0)) (iU (aA 1) (cE (aS aM (aA 2) (eC (.int 2)))) cF)) (xs:=aJ (aw (ah a b (a/2+1).toNat))) (σ:=[none,some (aL r),some (.int p)]) (au:=au++g)
  (λi acc q s=>s=au++g/\(∃v,q=[v,some (aL r),some (.int p)])/\acc=aJ (((aw (ah a b (a/2+1).toNat)).take i).map λtwo=>r.take p++two++r.drop (p+2))) ⟨rfl,⟨none,rfl⟩,rfl⟩ (by
   rintro i y acc q s G ⟨rfl,⟨v,rfl⟩,rfl⟩;obtain⟨two,C,rfl⟩:=j3 G;have h2:two.length<=2:=Se two ((zo _).mem_iff.mp (ew C));have l1:(r.take p).length<=100:=by rw[g9];lia
   have l2:(r.drop (p+2)).length<=100:=by rw[mY];lia
   have o:=BW (au:=au++g) (a:=r.take p) (b:=two) (by lia);have d:=BW (au:=au++g) (a:=r.take p++two) (b:=r.drop (p+2)) (by rw[cQ];lia);refine⟨[some (aL two),some (aL r),some (.int p)],true,au++g,rfl,rfl,.inr ⟨rfl,aL (r.take p++two++r.drop (p+2)),au++g,?_,rfl,⟨_,rfl⟩,?_⟩⟩
   ·have f1:iU (aA 1) cF (cE (aA 2)) [some (aL two),some (aL r),some (.int p)] (au++g)=.ok (aL (r.take p)) (au++g):=by
     show bu.ok (D.tup (cutD (r.map D.int) none (some (p:Int)))) _=_;rw[E]
    have P:iU (aA 1) (cE (aS aM (aA 2) (eC (.int 2)))) cF [some (aL two),some (aL r),some (.int p)] (au++g)=.ok (aL (r.drop (p+2))) (au++g):=by
     show bu.ok (D.tup (cutD (r.map D.int) (some ((p:Int)+(2:Nat))) none)) _=_;rw[t]
    rw[kG,kG,f1,zq];show((aM (aL (r.take p)) (aL two) (au++g)).bind _)=_;rw[o,zq,P];exact d
   ·rw[zf C,hZ]
    simp[aJ])
 obtain⟨ys,a0,a3,d,rfl,_,rfl⟩:=W;rw[zc,dU] at d;have j:(aJ (aw (ah a b (a/2+1).toNat))).length<=sizeLine:=by rw[zc];exact small _ (by lia)
 have Y:=o9 (au:=au) Q;have m:=o9 (au:=au) U;rw[pC] at m;have k:ax r p=(aw (ah a b (a/2+1).toNat)).map λtwo=>r.take p++two++r.drop (p+2):=by unfold ax;rw[hA,hB]
 rw[←k] at d;obtain⟨g',S⟩:=EZ (au:=au++g) (x:=.lst (aJ (ks++[r]++ax r p))) (l:=ks++[r]++ax r p) rfl (by simp;lia) (by have:=tE (ks++[r]++ax r p);rw[cQ,cQ,ot] at this;lia);refine⟨g++g',gW rfl ?_⟩;refine fA (σ1:=[some (aK ks),some (aL r),some (.int p),some (.lst (aJ (ax r p)))]) (st1:=au++g) ?_ ?_
 ·have ei:aH (aE u9 (aB (aS cn (aA 1) (aA 2)) (aB (aS cn (aA 1) (aS aM (aA 2) (eC (.int 1)))) aC))) [some (aK ks),some (aL r),some (.int p),none] au=.ok (aJ (aw (ah a b (a/2+1).toNat))) (au++g):=by
   clear E t d k;simp only[aL] at *
   generalize D.tup (r.map D.int)=R at *
   simp at m;simp[Y,m,e]
  show aF 3 _ [some (aK ks),some (aL r),some (.int p),none] au=_;rw[rb,mT,ei,zq,if_pos j];show(((bm _ _ _ _ [none,some (aL r),some (.int p)] _).bind _).bind _)=_;rw[d]
  rfl
 ·have H:=small 1 (by lia);have a1:aS aM (aE eW (aB (aA 0) aC)) (dO (aB (aA 1) aC)) [some (aK ks),some (aL r),some (.int p),some (.lst (aJ (ax r p)))] (au++g)=.ok (.lst (aJ (ks++[r]))) (au++g):=by
   have q1:aE eW (aB (aA 0) aC) [some (aK ks),some (aL r),some (.int p),some (.lst (aJ (ax r p)))] (au++g)=.ok (.lst (aJ ks)) (au++g):=rfl;have X:dO (aB (aA 1) aC) [some (aK ks),some (aL r),some (.int p),some (.lst (aJ (ax r p)))] (au++g)=.ok (.lst (aJ [r])) (au++g):=by
    show(if 1<=sizeLine then bu.ok (D.lst [aL r]) (au++g) else .stuck)=_;rw[if_pos H]
    rfl
   rw[kG,q1,zq,X,zq];show(if(aJ ks).length+(aJ [r]).length<=sizeLine then bu.ok (D.lst (aJ ks++aJ [r])) (au++g) else .stuck)=_;rw[if_pos (by rw[zc,zc];exact small _ (by simp;lia))];simp[aJ]
  have J:aS aM (aS aM (aE eW (aB (aA 0) aC)) (dO (aB (aA 1) aC))) (aA 3) [some (aK ks),some (aL r),some (.int p),some (.lst (aJ (ax r p)))] (au++g)=.ok (.lst (aJ (ks++[r]++ax r p))) (au++g):=by
   rw[kG,a1,zq];show(if(aJ (ks++[r])).length+(aJ (ax r p)).length<=sizeLine then bu.ok (D.lst (aJ (ks++[r])++aJ (ax r p))) (au++g) else .stuck)=_;rw[if_pos (by rw[zc,zc];exact small _ (by simp;lia))];simp[aJ]
  rw[nA,jY,lV,J];show((j4 [.lst (aJ (ks++[r]++ax r p))] _).bind _)=_;rw[S,show ks++[r]++ax r p=ks++(r::ax r p) by simp,ff]
  rfl
theorem BS{r:List Int}{p:Nat}{m:Int}{L:Nat}(h:bt r m L)(o:aX r p):∀z∈ax r p,bt z m L:=λz i=>by
 obtain⟨a,b,f,d,v⟩:=o;have C:p+1<r.length:=(db.mp d).1;have w:=h.pos b (ew d);have E:=h.pos a (ew f);unfold ax at i;obtain⟨two,u,rfl⟩:=bS.mp i;have e:=(zo _).mem_iff.mp u;rw[cJ,f,cJ,d] at e;simp only[N8] at e;unfold ah at e;obtain⟨c,t,q⟩:=bS.mp e;have y:c<(a/2+1).toNat:=bR.mp (dH.mp t).1;have l:r=r.take p++[a,b]++r.drop (p+2):=by
  have n:r.drop p=a::r.drop (p+1):=by
   rw[lN (by lia)]
   congr 1
   exact(db.mp f).2
  have k:r.drop (p+1)=b::r.drop (p+2):=by
   rw[lN (by lia)]
   congr 1
   exact(db.mp d).2
  calc r=r.take p++r.drop p:=(j9 p r).symm
   _=_:=by rw[n,k];simp
 have g:two.sum=a+b/\(∀x∈two,1<=x)/\two.length<=2:=by
  rw[←q];unfold eN;split
  ·rename_i s;refine⟨by simp<;>lia,λx hx=>?_,by simp⟩;simp only[ca,CK,or_false] at hx;rcases hx with rfl|rfl<;>lia
  ·rename_i s;refine⟨by simp<;>lia,λx hx=>?_,by simp⟩;simp only[ca,CK,or_false] at hx;subst hx;lia
 have j:r.sum=(r.take p).sum+(a+b)+(r.drop (p+2)).sum:=by
  conv=>lhs;rw[l]
  simp[gZ];lia
 refine⟨λx hx=>?_,?_,?_⟩
 ·rcases dk.mp hx with hx|hx
  ·rcases dk.mp hx with hx|hx
   ·exact h.pos x (ml hx)
   ·exact g.2.1 x hx
  ·exact h.pos x (pM hx)
 ·have:=h.sum;rw[gZ,gZ,g.1];lia
 ·have A:=h.len;rw[cQ,cQ,g9,mY];have:=g.2.2;lia
theorem qZ{r:List Int}{m:Int}{L:Nat}(h:bt r m L):∀x∈r,1<=x/\x<=m:=λx hx=>by
 refine⟨h.pos x hx,?_⟩;have:∀{r:List Int},(∀y∈r,1<=y)->∀x∈r,x<=r.sum:=λ{r}=>by
  induction r with
  |nil=>intro _ x hx;cases hx
  |cons a r ih=>
   intro h x hx;have c:=h a (by simp);have d:0<=r.sum:=pk λy b=>h y (bU _ b)
   rw[fe];rcases ca.mp hx with rfl|hx
   ·lia
   ·have:=ih (λy b=>h y (bU _ b)) x hx;lia
 exact yc (this h.pos x hx) h.sum
theorem D4{r:List Int}{m:Int}{L p:Nat}(h:bt r m L)(e:aX r p):(1<=r.getD p 0/\r.getD p 0<=m)/\(1<=r.getD (p+1) 0/\r.getD (p+1) 0<=m):=by
 obtain⟨a,b,d,c,_⟩:=e;rw[cJ,d,cJ,c];exact⟨qZ h a (ew d),qZ h b (ew c)⟩
noncomputable abbrev Lv:=List (Int×Nat×List (List Int))
def gs(a:Lv):List (Int×D):=a.map λq=>(q.1,.ref q.2.1)
structure gp (au:ab) (L:Nat) (lv:Lv):Prop where
 at_:au[L]?=some (.dI (gs lv))
 in_:∀q∈lv,au[q.2.1]?=some (.dT (aQ q.2.2))
 nd:(lv.map (·.1)).Nodup
 ix:(lv.map (·.2.1)).Nodup
 rows:∀q∈lv,q.2.2.Nodup
def bY(n:Nat) (r:List Int):Lv->Lv
 |[]=>[(av 1 r,n,[r])]
 |q::lv=>if q.1=av 1 r then(q.1,q.2.1,aP q.2.2 r)::lv else q::bY n r lv
theorem D6:eF (gs lv) m=(lv.find? λq=>decide (q.1=m)).map λq=>D.ref q.2.1:=by
 induction lv with
 |nil=>rfl
 |cons q lv ih=>
  by_cases e:q.1=m
  ·simp[eF,gs,e]
  ·have a:eF (gs (q::lv)) m=eF (gs lv) m:=by simp[eF,gs,e]
   rw[a,ih,List.find?_cons_of_neg (by simpa using e)]
theorem R7:∀{a:Lv},(∀q∈a,q.1≠av 1 r)->bY n r a=a++[(av 1 r,n,[r])]
 |[],_=>rfl
 |q::a,h=>by
  unfold bY;rw[if_neg (h q (by simp)),R7 λx b=>h x (bU _ b)]
  rfl
theorem R8:∀{a:Lv}{q:Int×Nat×List (List Int)},(a.map (·.1)).Nodup->q∈a->q.1=av 1 r->bY n r a=a.map λx=>if x.1=av 1 r then(x.1,x.2.1,aP x.2.2 r) else x
 |[],q,_,h,_=>by cases h
 |x::a,q,nd,h,e=>by
  rw[cr,g7] at nd;unfold bY;rw[cr];by_cases c:x.1=av 1 r
  ·rw[if_pos c,if_pos c]
   congr 1
   symm
   refine(lI (g:=id) λy b=>?_).trans (x9 _);rw[if_neg λz=>nd.1 (bS.mpr ⟨y,b,z.trans c.symm⟩)]
   rfl
  ·rw[if_neg c,if_neg c];rcases ca.mp h with rfl|h
   ·exact absurd e c
   ·rw[R8 nd.2 h e]
theorem Ua{L:Nat}{k:Int}(a:f σ au=.ok (.ref L) au)(h:au[L]?=some (.dI kv0))(c:g σ au=.ok [.int k,d] st2)(i:st2[L]?=some (.dI kvs))(e:kvs.length<sizeLine)(b:eF kvs k=some v):fS f g σ au=.ok v st2:=by
 unfold fS;rw[a,zq];dsimp only;rw[h];dsimp only;rw[c,zq]
 try dsimp only
 rw[i]
 try dsimp only
 rw[if_pos e,b]
theorem T9{L:Nat}{k:Int}(a:f σ au=.ok (.ref L) au)(h:au[L]?=some (.dI kv0))(c:g σ au=.ok [.int k,d] st2)(i:st2[L]?=some (.dI kvs))(e:kvs.length<sizeLine)(b:eF kvs k=none):fS f g σ au=.ok d (st2.set L (.dI (kS kvs k d))):=by
 unfold fS;rw[a,zq];dsimp only;rw[h];dsimp only;rw[c,zq]
 try dsimp only
 rw[i]
 try dsimp only
 rw[if_pos e,b]
theorem uv{b c:Type}{f:b->c}:∀{l:List b},(l.map f).Nodup->∀{x y:b},x∈l->y∈l->f x=f y->x=y
 |[],_,x,y,hx,_,_=>by cases hx
 |a::l,nd,x,y,hx,hy,e=>by
  rw[cr,g7] at nd;rcases ca.mp hx with h1|h1
  ·rcases ca.mp hy with h2|h2
   ·rw[h1,h2]
   ·exact absurd (bS.mpr ⟨y,h2,by rw[←e,h1]⟩) nd.1
  ·rcases ca.mp hy with h2|h2
   ·exact absurd (bS.mpr ⟨x,h1,by rw[e,h2]⟩) nd.1
   ·exact uv nd.2 h1 h2 e
theorem Sx{f:ab}{L:Nat}{g:Lv}{r:List Int}{Q:D->ab->Prop}(h:gp f L g)(hl:r.length<=1000)(S:∀x∈r,-10000<=x/\x<=10000)(hz:g.length<=10000)(hk:∀q∈g,q.2.2.length<=100000)
  (k:∀s,gp s L (bY f.length r g)->(∀i,i<f.length->i≠L->(∀q∈g,q.2.1≠i)->s[i]?=f[i]?)->f.length<=s.length->Q .non s):WP (vh [.ref L,aL r] f) Q:=by
 refine gO rfl ?_;simp only[W,V,M];have Y:=NB (au:=f) hl S;have J:aB (aE sR (aB (aA 1) aC)) (aB eU aC) [some (.ref L),some (aL r)] f=.ok [.int (av 1 r),.ref f.length] (f++[.dT []]):=by
  rw[lV,show aE sR (aB (aA 1) aC) [some (.ref L),some (aL r)] f=.ok (.int (av 1 r)) f from Y]
  rfl
 have hL:=zr h.at_;have d:∀{i:Nat}{o:O},f[i]?=some o->(f++[O.dT []])[i]?=some o:=λe=>by rw[gv (zr e)];exact e
 have m:(gs g).length<sizeLine:=by unfold gs;rw[bj];exact dh _ (by lia)
 cases hf:g.find? λq=>decide (q.1=av 1 r) with
 |some q=>
  have l:=Df hf;have n:q.1=av 1 r:=by simpa using CH hf
  have E:q.2.1≠L:=λz=>by have:=h.in_ q l;rw[z,h.at_] at this;cases this
  refine WP.of (Ua rfl h.at_ J (d h.at_) m (by rw[D6,hf];rfl)) ?_;refine WP.of (uC (d (h.in_ q l)) (by have:=hk q l;lia)) (k _ ?_ (λi A u v=>?_) (by rw[iT,cQ];lia))
  ·rw[R8 h.nd l n];refine⟨?_,λx hx=>?_,?_,?_,λx hx=>?_⟩
   ·rw[fu E,d h.at_]
    congr 2
    unfold gs;rw[eS];refine(lI λy j=>?_).symm;simp only[Function.comp];split<;>rfl
   ·obtain⟨y,j,rfl⟩:=bS.mp hx;by_cases c:y.1=av 1 r
    ·have I:y=q:=uv h.nd j l (c.trans n.symm);subst I;rw[if_pos c];exact lq (zr (d (h.in_ y j)))
    ·rw[if_neg c];have G:q.2.1≠y.2.1:=λz=>c (by rw[←uv h.ix l j z];exact n)
     rw[fu G];exact d (h.in_ y j)
   ·rw[eS];have:(g.map ((λx=>x.1) ∘ λx=>if x.1=av 1 r then(x.1,x.2.1,aP x.2.2 r) else x))=g.map (·.1):=lI λy _=>by simp only[Function.comp];split<;>rfl
    rw[this];exact h.nd
   ·rw[eS];have:(g.map ((λx=>x.2.1) ∘ λx=>if x.1=av 1 r then(x.1,x.2.1,aP x.2.2 r) else x))=g.map (·.2.1):=lI λy _=>by simp only[Function.comp];split<;>rfl
    rw[this];exact h.ix
   ·obtain⟨y,j,rfl⟩:=bS.mp hx;split
    ·exact tz (h.rows y j)
    ·exact h.rows y j
  ·rw[fu (v q l),gv A]
 |none=>
  have C:∀q∈g,q.1≠av 1 r:=λq l=>by simpa using tV.mp hf q l
  have U:kS (gs g) (av 1 r) (.ref f.length)=gs (g++[(av 1 r,f.length,[r])]):=by
   unfold kS;rw[if_neg]
   ·unfold gs;rw[hZ];rfl
   ·rw[Bool.not_eq_true,List.any_eq_false];intro x hx;obtain⟨y,j,rfl⟩:=bS.mp hx
    simpa using C y j
  have t:L≠f.length:=dJ hL;refine WP.of (T9 rfl h.at_ J (d h.at_) m (by rw[D6,hf];rfl)) ?_;rw[U];have P:((f++[O.dT []]).set L (.dI (gs (g++[(av 1 r,f.length,[r])]))))[f.length]?=some (.dT (aQ [])):=by
   rw[fu t,kQ (br _),tM];rfl
  refine WP.of (uC P (by simp)) (k _ ?_ (λi A u v=>?_) (by rw[iT,iT,cQ];lia))
  ·rw[R7 C,show aP [] r=[r] from rfl];have w:∀q∈g,q.2.1<f.length:=λq l=>zr (h.in_ q l)
   refine⟨?_,λx hx=>?_,?_,?_,λx hx=>?_⟩
   ·rw[fu t.symm,lq (by rw[cQ];lia)]
   ·rcases dk.mp hx with hx|hx
    ·have X:f.length≠x.2.1:=(dJ (w x hx)).symm;have h2:L≠x.2.1:=λz=>by have:=h.in_ x hx;rw[←z,h.at_] at this;cases this
     rw[fu X,fu h2];exact d (h.in_ x hx)
    ·simp at hx;subst hx
     exact lq (zr P)
   ·rw[hZ,yr];refine⟨h.nd,by simp,λa H b p=>?_⟩;obtain⟨y,j,rfl⟩:=bS.mp H;simp at p;subst p
    exact C y j
   ·rw[hZ,yr];refine⟨h.ix,by simp,λa H b p=>?_⟩;obtain⟨y,j,rfl⟩:=bS.mp H;simp at p;subst p
    exact dJ (w y j)
   ·rcases dk.mp hx with hx|hx
    ·exact h.rows x hx
    ·simp at hx;subst hx;simp
  ·rw[fu (dJ A).symm,fu u.symm,gv A]
noncomputable abbrev Lr:=List (Int×List (List Int))
def dq(a:Lv):Lr:=a.map λq=>(q.1,q.2.2)
def cx(r:List Int):Lr->Lr
 |[]=>[(av 1 r,[r])]
 |q::lr=>if q.1=av 1 r then(q.1,aP q.2 r)::lr else q::cx r lr
theorem BG:∀{a:Lv},dq (bY n r a)=cx r (dq a)
 |[]=>rfl
 |q::a=>by
  unfold bY;show _=cx r ((q.1,q.2.2)::dq a);unfold cx;dsimp only;split
  ·rfl
  ·show(q.1,q.2.2)::dq (bY n r a)=_;rw[BG]
noncomputable def f7:List Nat->Nat->Nat
 |[],_=>0
 |t::ts,v=>bif Nat.beq v 0 then 0 else Nat.xor (bif Nat.beq (v%2) 1 then t else 0) (f7 ts (v/2))
noncomputable def p6:Nat->Nat->Nat
 |0,_=>0
 |f+1,c=>bif Nat.beq c 0 then 0 else Nat.xor (2^(c%100-1)) (p6 f (c/100))
noncomputable def Wa:List (List Nat):=[[2,0,5,6,0,0,9,11,0,14,0,16,17,0,19,0,0,23,0,25,27,28,0,30,0,32,0,0,35,0,37,0,40,41,0,43,0,46,47,0,0,50,0,52,54,0,0,57,58,0,60,0,63,0,66,67,0,0,70,0,72,73,0,76,77,0,0,80,81,0,83],[3,4,6,0,908,11,1211,15,15,18,0,19,21,22,0,2524,26,28,30,3130,32,0,3534,36,36,0,4038,41,4241,0,43,46,4846,49,49,0,5251,55,56,55,0,58,60,6160,64,0,65,66,0,7069,71,71,74,75,0,77,8078,81,8281,0,83],[5,6,0,0,11,0,16,19,19,23,0,0,27,28,0,30,32,0,0,37,0,0,41,43,43,0,46,0,50,0,0,0,57,58,58,0,60,66,67,66,0,0,0,72,76,0,77,0,0,81,83,83],[7,8,10,13,14,17,1918,21,252423,2826,3027,3129,32,353432,3633,3735,4038,4238,4340,444342,48,494745,5046,5148,5150,5554,57,5854,595855,57,59,66,6866,696564,6966,68,70,7875,7975,78,7776,78,80,8382],[9,11,14,17,0,0,23,27,30,32,0,3735,0,41,4340,0,46,5046,0,5250,57,5854,0,6057,60,66,0,0,7066,0,70,0,80,817776,81,80],[12,15,18,21,22,26,28,32,3534,0,4038,434241,0,46,4846,525149,0,5855,6055,616058,66,6564,7069,7166,717069,75,8078,8175,8281,8078,8281],[16,19,23,27,28,32,0,0,41,0,46,50,0,0,57,6058,0,66,66,72,0,7776,81,83,8381],[20,24,29,33,34,38,39,45,47,53,54,5856,62,63,6664,706967,73,74,807876,838279],[25,30,35,40,41,46,47,54,0,63,0,67,73,0,76,81],[31,36,42,48,49,55,56,64,65,74,75,77],[37,43,50,57,58,66,67,76,77],[44,51,59,68,69,78,79],[52,60,70,80,81],[61,71,82],[72,83],[84]]
def gB:List (List Nat):=[]::Wa.map λl=>(l++List.replicate (84-l.length) 0).map (p6 3)
noncomputable def aY:List (List Int):=[[],[1],[2],[2,1],[3],[3,1],[4],[4,1],[5],[4,2],[5,1],[6],[4,2,1],[5,2],[6,1],[7],[5,2,1],[6,2],[7,1],[8],[6,2,1],[6,3],[7,2],[8,1],[9],[6,3,1],[7,2,1],[7,3],[8,2],[9,1],[10],[7,3,1],[8,2,1],[8,3],[9,2],[10,1],[11],[8,3,1],[8,4],[9,2,1],[9,3],[10,2],[11,1],[12],[8,4,1],[9,3,1],[9,4],[10,2,1],[10,3],[11,2],[12,1],[13],[8,4,2],[9,4,1],[10,3,1],[10,4],[11,2,1],[11,3],[12,2],[13,1],[14],[8,4,2,1],[9,4,2],[10,4,1],[10,5],[11,3,1],[11,4],[12,2,1],[12,3],[13,2],[14,1],[15],[9,4,2,1],[10,4,2],[10,5,1],[11,4,1],[11,5],[12,3,1],[12,4],[13,2,1],[13,3],[14,2],[15,1],[16]]
def jM(a v:Nat):Nat:=f7 (gB.getD a []) v
theorem BJ:∀a,f7 a 0=0
 |[]=>rfl
 |_::_=>rfl
theorem lz(t:Nat)(a:List Nat)(v:Nat):f7 (t::a) v=(if v%2=1 then t else 0)^^^f7 a (v/2):=by
 by_cases c:v=0
 ·subst c;rw[BJ,if_neg (by decide),Nat.zero_div,BJ];rfl
 ·have b:Nat.beq v 0=false:=by
   cases h:Nat.beq v 0 with
   |false=>rfl
   |true=>exact absurd (pN h) c
  have e:(bif Nat.beq (v%2) 1 then t else 0)=if v%2=1 then t else 0:=by
   by_cases d:v%2=1
   ·rw[if_pos d,d];rfl
   ·have:v%2=0:=by lia
    rw[if_neg d,this];rfl
  show(bif Nat.beq v 0 then 0 else Nat.xor (bif Nat.beq (v%2) 1 then t else 0) (f7 a (v/2)))=_;rw[b,e];rfl
theorem xY(a b c d:Nat):(a^^^b)^^^(c^^^d)=(a^^^c)^^^(b^^^d):=by
 rw[gY,gY,←gY b,←gY c,Ct b c]
theorem xu:∀(c:List Nat) (v w:Nat),f7 c (v^^^w)=f7 c v^^^f7 c w
 |[],v,w=>by show 0=0^^^0;rw[py]
 |t::c,v,w=>by
  rw[lz,lz,lz,Nat.xor_div_two,xu c,xY]
  congr 1
  have:=Nat.xor_mod_two_eq_one (a:=v) (b:=w);by_cases c1:v%2=1<;>by_cases c2:w%2=1<;>simp[c1,c2,this]
theorem DM(b:f 0=0)(c:∀v w,f (v^^^w)=f v^^^f w):∀(a:List Nat) (v:Nat),f7 (a.map f) v=f (f7 a v)
 |[],v=>b.symm
 |t::a,v=>by
  rw[cr,lz,lz,c,DM b c a]
  congr 1
  split
  ·rfl
  ·exact b.symm
theorem xw:∀(a b:List Nat) (v:Nat),a.length=b.length->f7 (List.zipWith Nat.xor a b) v=f7 a v^^^f7 b v
 |[],[],v,_=>by show 0=0^^^0;rw[py]
 |[],_::_,v,h=>by cases h
 |_::_,[],v,h=>by cases h
 |t::a,u::b,v,h=>by
  show f7 (Nat.xor t u::List.zipWith Nat.xor a b) v=_;rw[lz,lz,lz,xw a b _ (by simpa using h),xY]
  congr 1
  split
  ·rfl
  ·rfl
theorem xt:∀(a:List Nat) (i:Nat),f7 a (2^i)=a.getD i 0
 |[],i=>by simp[f7]
 |t::a,0=>by rw[lz];simp[BJ]
 |t::a,i+1=>by
  rw[lz,if_neg (by rw[tK];lia),show 2^(i+1)/2=2^i by rw[tK];lia,xt a i,pz]
  rfl
theorem Em(a:Nat):jM a 0=0:=BJ _
theorem DL(a v w:Nat):jM a (v^^^w)=jM a v^^^jM a w:=xu _ _ _
def hH(r:List Int) (v:Nat):Nat:=r.foldr (λa v=>jM a.toNat v) v
def nu(r:List Int):Nat:=hH r 1
def cf(l:List (List Int)):Nat:=l.foldr (λr x=>nu r^^^x) 0
theorem B8(r s:List Int)(v:Nat):hH (r++s) v=hH r (hH s v):=by unfold hH;rw[List.foldr_append]
theorem Qp:∀r,hH r 0=0
 |[]=>rfl
 |a::r=>by show jM _ (hH r 0)=0;rw[Qp r,Em]
theorem xq:∀r v w,hH r (v^^^w)=hH r v^^^hH r w
 |[],_,_=>rfl
 |a::r,v,w=>by show jM _ (hH r _)=jM _ (hH r v)^^^jM _ (hH r w);rw[xq r,DL]
theorem RQ:∀l m,cf (l++m)=cf l^^^cf m
 |[],m=>(pz _).symm
 |r::l,m=>by show nu r^^^cf (l++m)=(nu r^^^cf l)^^^cf m;rw[RQ l m,gY]
theorem LW{l:List (List Int)}(h:l.Perm m):cf l=cf m:=by
 induction h with
 |nil=>rfl
 |@cons x a b _ ih=>show nu x^^^cf a=nu x^^^cf b;rw[ih]
 |swap x y l=>show nu y^^^(nu x^^^cf l)=nu x^^^(nu y^^^cf l);rw[←gY,←gY,Ct (nu y)]
 |trans _ _ a b=>exact a.trans b
theorem LU{l:List (List Int)}(b:l.Nodup):cf (aP l r)=cf l^^^nu r:=by
 unfold aP;split
 ·rename_i h;have:∀{l:List (List Int)},l.Nodup->r∈l->cf (l.filter λx=>decide (x≠r))=cf l^^^nu r:=λ{l}=>by
   induction l with
   |nil=>intro _ h;cases h
   |cons a l ih=>
    intro b h;rw[g7] at b;by_cases c:a=r
    ·subst c;have e:l.filter (λx=>decide (x≠a))=l:=Ou.mpr λx d=>by
      rw[lF];intro z;subst z;exact b.1 d
     rw[hE (by simp),e];show cf l=(nu a^^^cf l)^^^nu a;rw[Ct,←gY,py,pz]
    ·rw[gV (by simpa using c)];show nu a^^^cf (l.filter λx=>decide (x≠r))=(nu a^^^cf l)^^^nu r;rw[ih b.2 (by rcases ca.mp h with z|z;exact absurd z.symm c;exact z),gY]
  exact this b h
 ·rw[RQ];show cf l^^^(nu r^^^0)=_;rw[jy]
theorem Rg:∀(m l:List (List Int)),l.Nodup->cf (m.foldl aP l)=cf l^^^cf m
 |[],l,_=>(jy _).symm
 |r::m,l,nd=>by
  rw[lC,Rg m _ (tz nd),LU nd];show _=cf l^^^(nu r^^^cf m);rw[gY]
def zL:List Int->List Nat
 |[x]=>gB.getD x.toNat []
 |[x,y]=>(gB.getD y.toNat []).map (jM x.toNat)
 |_=>[]
noncomputable def twosN(a b n:Nat):List (List Int):=((List.range n).filter λc=>Nat.beq (Nat.land (b-c-1) (a-2*c)) (a-2*c)).map λc=>if c=0 then[((a+b:Nat):Int)] else[((a+b-c:Nat):Int),(c:Int)]
def mD(a b:Nat):Bool:=bif Nat.blt a (2*b) then decide ((gB.getD b []).map (jM a)=(twosN a b (a/2+1)).foldr (λtwo m=>List.zipWith Nat.xor (zL two) m) (List.replicate 84 0)) else true
theorem NE:((List.range 17).all λa=>(List.range (17-a)).all λb=>bif Nat.blt 0 a&&Nat.blt 0 b then mD a b else true)=true:=by decide +kernel
theorem Jz:(gB.all λt=>Nat.beq t.length 84||Nat.beq t.length 0)=true/\((List.range 16).all λi=>Nat.beq (gB.getD (i+1) []).length 84)=true:=by decide +kernel
theorem qW(h:1<=a)(b:a<=16):(gB.getD a []).length=84:=by
 have:=dW.mp Jz.2 (a-1) (bR.mpr (by lia));rw[show a-1+1=a by lia] at this;exact pN this
theorem Rf:∀n v,f7 (List.replicate n 0) v=0
 |0,_=>rfl
 |n+1,v=>by
  rw[pL,lz,Rf n];split<;>rfl
theorem Tl{a b n:Nat}{two:List Int}(h:two∈twosN a b n):(two=[((a+b:Nat):Int)])\/∃c:Nat,0<c/\c<n/\two=[((a+b-c:Nat):Int),(c:Int)]:=by
 unfold twosN at h;obtain⟨c,d,rfl⟩:=bS.mp h;have d:=bR.mp (dH.mp d).1;by_cases z:c=0
 ·rw[if_pos z];exact .inl rfl
 ·rw[if_neg z];exact .inr ⟨c,by lia,d,rfl⟩
theorem He(o:1<=a)(q:1<=b)(r:a+b<=16)(l:a<2*b)(v:Nat):(twosN a b (a/2+1)).foldr (λtwo x=>hH two v^^^x) 0=jM a (jM b v):=by
 have h:=NE;have h:=dW.mp h a (bR.mpr (by lia));have h:=dW.mp h b (bR.mpr (by lia));rw[show(Nat.blt 0 a&&Nat.blt 0 b)=true by rw[j8];exact⟨C7 (by lia),C7 (by lia)⟩] at h;have h:mD a b=true:=h;unfold mD at h;rw[show Nat.blt a (2*b)=true from C7 (by lia)] at h;have h:=gR h;have i:=congrArg (λm=>f7 m v) h;simp only[DM (Em a) (DL a)] at i;show _=jM a (f7 (gB.getD b []) v);rw[i];have f:∀(d:List (List Int)),(∀two∈d,two∈twosN a b (a/2+1))->f7 (d.foldr (λtwo m=>List.zipWith Nat.xor (zL two) m) (List.replicate 84 0)) v=d.foldr (λtwo x=>hH two v^^^x) 0/\(d.foldr (λtwo m=>List.zipWith Nat.xor (zL two) m) (List.replicate 84 0)).length=84:=λd=>by
  induction d with
  |nil=>intro _;exact⟨Rf _ _,by simp⟩
  |cons two d ih=>
   intro j;obtain⟨n,g⟩:=ih λt k=>j t (bU _ k)
   have e:(zL two).length=84/\f7 (zL two) v=hH two v:=by
    rcases Tl (j two (by simp)) with rfl|⟨c,p,s,rfl⟩
    ·exact⟨qW (by simp;lia) (by simp;lia),rfl⟩
    ·refine⟨?_,?_⟩
     ·show((gB.getD (c:Int).toNat []).map _).length=_;rw[bj];exact qW (by simp;lia) (by simp;lia)
     ·show f7 ((gB.getD (c:Int).toNat []).map _) v=_;rw[DM (Em _) (DL _)];rfl
   rw[List.foldr_cons,List.foldr_cons];refine⟨?_,by rw[List.length_zipWith,e.1,g];rfl⟩;rw[xw _ _ _ (by rw[e.1,g]),e.2,n]
 exact(f _ λ_ h=>h).1.symm
theorem NX{a b:Nat}(i:1<=a)(j:1<=b)(f:a<2*b):∀{n:Nat},n<=a/2+1->ah a b n=twosN a b n:=λ{n} g=>by
 unfold ah twosN;have e:((List.range n).filter λ(c:Nat)=>fj ((b:Int)-c-1) ((a:Int)-2*c))=(List.range n).filter λc=>Nat.beq (Nat.land (b-c-1) (a-2*c)) (a-2*c):=by
  refine mj λc d=>?_
  have d:=bR.mp d;rw[show(b:Int)-c-1=((b-c-1:Nat):Int) by lia,show(a:Int)-2*c=((a-2*c:Nat):Int) by lia,Qu];generalize b-c-1=x;generalize a-2*c=y;show decide (Nat.land x y=y)=_;cases h:Nat.beq (Nat.land x y) y with
  |true=>exact cI (pN h)
  |false=>exact cO (Nat.ne_of_beq_eq_false h)
 rw[e];refine lI λc d=>?_
 have d:=bR.mp (dH.mp d).1;unfold eN;by_cases z:c=0
 ·subst z;rw[if_pos rfl,if_neg (by lia)];rfl
 ·rw[if_neg z,if_pos (by lia)]
  congr 1
  lia
theorem xy{f:List Int->List Int}{g:List Int->Nat}(w:Nat)(r:List Int)(h:∀two,nu (f two)=hH r (g two)):∀l:List (List Int),cf (l.map f)=hH r (l.foldr (λtwo x=>g two^^^x) 0)
 |[]=>(Qp r).symm
 |two::l=>by
  show nu (f two)^^^cf (l.map f)=hH r (g two^^^l.foldr (λtwo x=>g two^^^x) 0);rw[xy w r h l,xq,h]
theorem Hd{r:List Int}{p:Nat}{L:Nat}(h:bt r 16 L)(l:aX r p):cf (ax r p)=nu r:=by
 obtain⟨a,b,d,c,m⟩:=l;have q:p+1<r.length:=(db.mp c).1;have n:=h.pos a (ew d);have o:=h.pos b (ew c);have i:r=r.take p++([a,b]++r.drop (p+2)):=by
  have k:r.drop p=a::r.drop (p+1):=by
   rw[lN (by lia)]
   congr 1
   exact(db.mp d).2
  have j:r.drop (p+1)=b::r.drop (p+2):=by
   rw[lN (by lia)]
   congr 1
   exact(db.mp c).2
  calc r=r.take p++r.drop p:=(j9 p r).symm
   _=_:=by rw[k,j];simp
 have e:a+b<=16:=by
  have v:r.sum=(r.take p).sum+(a+(b+(r.drop (p+2)).sum)):=by
   conv=>lhs;rw[i]
   rw[gZ,gZ];simp;lia
  have t:=h.sum;have u:0<=(r.take p).sum:=pk λx f=>h.pos x (ml f)
  have s:0<=(r.drop (p+2)).sum:=pk λx f=>h.pos x (pM f)
  lia
 obtain⟨a,rfl⟩:=lL (show 0<=a by lia);obtain⟨b,rfl⟩:=lL (show 0<=b by lia);unfold ax;rw[cJ,d,cJ,c];simp only[N8];rw[LW ((zo _).map _),show((a:Int)/2+1).toNat=a/2+1 by lia,NX (by lia) (by lia) (by lia) (br _)];rw[xy (g:=λtwo=>hH two (hH (r.drop (p+2)) 1)) 0 (r.take p) λtwo=>by unfold nu;rw[B8,B8]];rw[He (by lia) (by lia) (by lia) (by lia)]
 conv=>rhs;rw[i]
 unfold nu;rw[B8,B8];rfl
def jL(i a:Nat):Bool:=match aY[i]? with
 |none=>true
 |some r=>bif decide ((a:Int)+r.sum<=16)&&decide (2*r.headD 0<=(a:Int)) then(match aY[aY.idxOf ((a:Int)::r)]? with|some b=>decide (b=(a:Int)::r)|none=>false)&&Nat.beq ((gB.getD a []).getD i 0) (2^aY.idxOf ((a:Int)::r)) else true
theorem TY:((List.range 84).all λi=>(List.range 17).all λa=>bif Nat.beq a 0 then true else jL i a)=true:=by decide +kernel
theorem DN:aY.Nodup:=by decide +kernel
theorem pd:aY.length=84:=by decide +kernel
def lS(r:List Int):Prop:=∀p,¬ aX r p
theorem Ig(h:az r=[]):lS r:=λp a=>by
 have:=B7.mpr a;rw[h] at this;cases this
theorem lS.tail(h:lS (a::r)):lS r:=λp ⟨x,y,c,b,q⟩=>h (p+1) ⟨x,y,by simpa using c,by simpa using b,q⟩
theorem lS.head(h:lS (a::r))(d:1<=a):2*r.headD 0<=a:=by
 cases r with
 |nil=>simp;lia
 |cons b r=>
  have:=h 0;refine Classical.byContradiction λc=>this ⟨a,b,rfl,rfl,?_⟩
  simp at c;lia
theorem Eo{L:Nat}:∀{r:List Int},bt r 16 L->lS r->∃i,aY[i]?=some r/\nu r=2^i
 |[],_,_=>⟨0,by decide +kernel,rfl⟩
 |a::r,h,hs=>by
  have g:=h.pos a (by simp);have b:=h.sum;rw[fe] at b;have o:0<=r.sum:=pk λx d=>h.pos x (bU _ d)
  obtain⟨i,f,j⟩:=Eo (L:=L) (r:=r) ⟨λx d=>h.pos x (bU _ d),by lia,by have:=h.len;rw[dw] at this;lia⟩ hs.tail;have n:i<84:=by have:=(db.mp f).1;rw[pd] at this;exact this
  have l:=hs.head g;obtain⟨a,rfl⟩:=lL (show 0<=a by lia);have k:=dW.mp (dW.mp TY i (bR.mpr n)) a (bR.mpr (by lia));rw[show Nat.beq a 0=false by cases z:Nat.beq a 0 with|false=>rfl|true=>have:=pN z;lia] at k;have k:jL i a=true:=k;unfold jL at k;rw[f] at k;have k:(bif decide ((a:Int)+r.sum<=16)&&decide (2*r.headD 0<=(a:Int)) then(match aY[aY.idxOf ((a:Int)::r)]? with|some e=>decide (e=(a:Int)::r)|none=>false)&&Nat.beq ((gB.getD a []).getD i 0) (2^aY.idxOf ((a:Int)::r)) else true)=true:=k;rw[cI (show(a:Int)+r.sum<=16 by lia),cI l] at k;simp only[Cy,cond_true] at k;rw[j8] at k;obtain⟨c,m⟩:=k;refine⟨aY.idxOf ((a:Int)::r),?_,?_⟩
  ·cases z:aY[aY.idxOf ((a:Int)::r)]? with
   |none=>rw[z] at c;cases c
   |some e=>
    rw[z] at c;rw[gR c]
  ·show jM _ (nu r)=_;rw[j];show f7 (gB.getD a []) (2^i)=_;rw[xt];exact pN m
def mM(l:List (List Int)):Prop:=∀r∈l,bt r 16 6/\lS r
theorem xx(h:mM l) (d:aY[i]?=some x):(cf l).testBit i=decide (l.count x%2=1):=by
 induction l with
 |nil=>simp[cf]
 |cons r l b=>
  have b:=b λy e=>h y (bU _ e)
  obtain⟨j,a,f⟩:=Eo (h r (by simp)).1 (h r (by simp)).2;show(nu r^^^cf l).testBit i=_;rw[ro,b,f,C2,n8];by_cases c:j=i
  ·subst c;rw[d] at a;cases a;rw[cI rfl,if_pos (by simp)];rcases mn (l.count x) with z|z
   ·rw[cO (by lia),cI (by lia)];rfl
   ·rw[cI z,cO (by lia)];rfl
  ·have:¬ r=x:=λz=>by
    subst z;obtain⟨n,g⟩:=db.mp a;obtain⟨m,k⟩:=db.mp d;exact c ((CO DN).mp (g.trans k.symm))
   simp[c,this]
def fH(v:Nat):List (List Int):=aw (((List.range 84).filter λi=>v.testBit i).map λi=>aY.getD i [])
theorem Ie(h:mM l)(m:l.Nodup):aw l=fH (cf l):=by
 unfold fH;refine Sf (E2 m ?_ λx=>?_)
 ·refine Oc _ (R:=λi j=>i≠j/\i<84/\j<84) ?_ ?_
  ·rintro i j ⟨q,o,p⟩ e;rw[cJ,cJ,bV (by rw[pd];exact o),bV (by rw[pd];exact p)] at e;exact q ((CO DN).mp e)
  ·refine List.Pairwise.imp_of_mem (R:=(·≠·)) (λ{a b} n f h=>⟨h,bR.mp (dH.mp n).1,bR.mp (dH.mp f).1⟩) (rz.filter _)
 ·constructor
  ·intro g;obtain⟨i,k,r⟩:=Eo (h x g).1 (h x g).2;have d:i<84:=by have:=(db.mp k).1;rw[pd] at this;exact this
   refine bS.mpr ⟨i,dH.mpr ⟨bR.mpr d,?_⟩,by rw[cJ,k];rfl⟩;rw[xx h k,N7 m,if_pos g];rfl
  ·intro g;obtain⟨i,d,rfl⟩:=bS.mp g;obtain⟨d,f⟩:=dH.mp d;have d:=bR.mp d;have e:aY[i]?=some (aY.getD i []):=by rw[cJ,bV (by rw[pd];exact d)];rfl
   rw[xx h e,N7 m] at f;by_cases c:aY.getD i []∈l
   ·exact c
   ·rw[if_neg c] at f;simp at f
theorem DJ{b:Type}[DecidableEq b]:∀{l m:List b},l.Nodup->(∀x∈l,x∈m)->l.length<=m.length
 |[],m,_,_=>gX _
 |a::l,m,nd,h=>by
  rw[g7] at nd;have d:a∈m:=h a (by simp);have f:=DJ (l:=l) (m:=m.erase a) nd.2 λx c=>by
   refine(List.mem_erase_of_ne λe=>?_).mpr (h x (bU _ c));subst e;exact nd.1 c
  rw[List.length_erase_of_mem d] at f;have:0<m.length:=List.length_pos_of_mem d;rw[dw];lia
noncomputable def jP:Nat->Nat->List (List Int)
 |0,_=>[[]]
 |k+1,s=>[]::(List.range s).flatMap λa=>(jP k (s-1-a)).map λr=>((a+1:Nat):Int)::r
noncomputable def oQ:Nat->Nat->Nat
 |0,_=>1
 |k+1,s=>1+((List.range s).map λa=>oQ k (s-1-a)).sum
theorem P0:∀k s,(jP k s).length=oQ k s
 |0,_=>rfl
 |k+1,s=>by
  unfold jP oQ;rw[dw,List.length_flatMap,yd]
  congr 2
  refine lI λa _=>?_
  rw[bj,P0 k]
theorem P1:∀(k s:Nat) (r:List Int),bt r s k->r∈jP k s
 |0,s,r,h=>by
  have:=h.len;have:r=[]:=yB.mp (by lia);subst this;simp[jP]
 |k+1,s,[],_=>by simp[jP]
 |k+1,s,a::r,h=>by
  have d:=h.pos a (by simp);have c:=h.sum;rw[fe] at c;have e:0<=r.sum:=pk λx b=>h.pos x (bU _ b)
  obtain⟨a,rfl⟩:=lL (show 0<=a by lia);unfold jP;refine bU _ (fL.mpr ⟨a-1,bR.mpr (by lia),bS.mpr ⟨r,P1 k _ r ⟨λx b=>h.pos x (bU _ b),?_,?_⟩,?_⟩⟩)
  ·lia
  ·have:=h.len;rw[dw] at this;lia
  ·rw[show a-1+1=a by lia]
theorem QC{l:List (List Int)}(b:l.Nodup)(h:∀r∈l,bt r 16 6):l.length<=15000:=by
 have d:=DJ b λr c=>P1 6 16 r (h r c)
 rw[P0] at d;have a:Nat.ble (oQ 6 16) 15000=true:=by decide +kernel
 have a:=C6 a;lia
theorem wf:∀{r:List Int}{k:Int},0<=k->(∀x∈r,1<=x)->0<=av k r
 |[],k,_,_=>by simp[av]
 |x::r,k,hk,h=>by
  have c:=wf (r:=r) (k:=k+1) (by lia) λy a=>h y (bU _ a)
  have d:=h x (by simp);have b:0<=k*x:=NZ hk (by lia);unfold av;lia
theorem we:∀{r:List Int}{k:Int},0<=k->(∀x∈r,1<=x)->av k r<=(k+r.length)*r.sum
 |[],k,_,_=>by simp[av]
 |x::r,k,hk,h=>by
  have d:=we (r:=r) (k:=k+1) (by lia) λy a=>h y (bU _ a)
  have e:=h x (by simp);have f:0<=((r.length:Int)+1)*x:=NZ (by lia) (by lia);rw[fe,dw,Cq];unfold av;have c:(k+((r.length+1:Nat):Int))*x=k*x+((r.length:Int)+1)*x:=by rw[←tI];congr 1;try lia
  have b:(k+1+(r.length:Int))*r.sum=(k+((r.length+1:Nat):Int))*r.sum:=by congr 1;push_cast;lia
  rw[c];rw[b] at d
  lia
theorem wd(h:bt r 16 6):0<=av 1 r/\av 1 r<=112:=by
 refine⟨wf (by lia) h.pos,yc (we (by lia) h.pos) ?_⟩;have b:=h.len;have c:=h.sum;have a:0<=r.sum:=pk h.pos
 calc (1+(r.length:Int))*r.sum<=7*r.sum:=Int.mul_le_mul_of_nonneg_right (by lia) a
  _<=112:=by lia
structure ik (lr:Lr):Prop where
 nd:(lr.map (·.1)).Nodup
 row:∀q∈lr,∀r∈q.2,bt r 16 6/\av 1 r=q.1
 key:∀q∈lr,0<=q.1/\q.1<=112
 rnd:∀q∈lr,q.2.Nodup
theorem ik.few(h:ik b):b.length<=113/\∀q∈b,q.2.length<=15000:=by
 refine⟨?_,λq a=>QC (h.rnd q a) λr d=>(h.row q a r d).1⟩;have:=DJ (m:=(List.range 113).map λ(i:Nat)=>(i:Int)) h.nd λx c=>by
  obtain⟨q,a,rfl⟩:=bS.mp c;have:=h.key q a;exact bS.mpr ⟨q.1.toNat,bR.mpr (by lia),by lia⟩
 simpa using this
theorem tr:∀{a:Lr}(q:Int×List (List Int)),q∈cx r a->q∈a\/(q.1=av 1 r/\((q.2=[r]/\∀x∈a,x.1≠av 1 r)\/∃l,(q.1,l)∈a/\q.2=aP l r))
 |[],q,h=>by
  unfold cx at h;simp at h;subst h;exact .inr ⟨rfl,.inl ⟨rfl,λx f=>by cases f⟩⟩
 |x::a,q,h=>by
  unfold cx at h;split at h
  ·rename_i c;rcases ca.mp h with rfl|h
   ·exact .inr ⟨c,.inr ⟨x.2,by simp,rfl⟩⟩
   ·exact .inl (bU _ h)
  ·rename_i c;rcases ca.mp h with rfl|h
   ·exact .inl (by simp)
   ·rcases tr q h with h|⟨e,⟨b,d⟩|⟨l,b,d⟩⟩
    ·exact .inl (bU _ h)
    ·refine .inr ⟨e,.inl ⟨b,λy hy=>?_⟩⟩;rcases ca.mp hy with rfl|hy
     ·exact c
     ·exact d y hy
    ·exact .inr ⟨e,.inr ⟨l,bU _ b,d⟩⟩
theorem Qc:∀{a:Lr},(a.map (·.1)).Nodup->((cx r a).map (·.1)).Nodup
 |[],_=>by simp[cx]
 |x::a,nd=>by
  rw[cr,g7] at nd;unfold cx;split
  ·rw[cr,g7];exact nd
  ·rename_i c;rw[cr,g7];refine⟨λz=>?_,Qc nd.2⟩;obtain⟨q,b,e⟩:=bS.mp z;rcases tr q b with h|⟨h,_⟩
   ·exact nd.1 (bS.mpr ⟨q,h,e⟩)
   ·exact c (e.symm.trans h)
theorem ik.flip(h:ik lr)(f:bt r 16 6):ik (cx r lr):=by
 refine⟨Qc h.nd,λq e x c=>?_,λq e=>?_,λq e=>?_⟩
 ·rcases tr q e with a|⟨a,⟨b,d⟩|⟨l,b,d⟩⟩
  ·exact h.row q a x c
  ·rw[b,et] at c;subst c;exact⟨f,a.symm⟩
  ·rw[d,lX] at c;rcases c with⟨c,_⟩|⟨rfl,_⟩
   ·exact h.row _ b x c
   ·exact⟨f,a.symm⟩
 ·rcases tr q e with a|⟨a,_⟩
  ·exact h.key q a
  ·rw[a];exact wd f
 ·rcases tr q e with a|⟨a,⟨b,d⟩|⟨l,b,d⟩⟩
  ·exact h.rnd q a
  ·rw[b];simp
  ·rw[d];exact tz (h.rnd _ b)
def gt(a:Lr) (x:List Int):Prop:=∃q∈a,x∈q.2
theorem Lu(h:ik b)(o:bt r 16 6):gt (cx r b) x↔(gt b x/\x≠r)\/(x=r/\¬ gt b r):=by
 have g:∀{b:Lr},(b.map (·.1)).Nodup->(∀q∈b,∀r∈q.2,av 1 r=q.1)->(gt (cx r b) x↔(gt b x/\x≠r)\/(x=r/\¬ gt b r)):=λ{b}=>by
  induction b with
  |nil=>
   intro _ _;unfold cx gt;simp
  |cons a b ih=>
   intro k j;rw[cr,g7] at k;have f:∀y,gt (a::b) y↔y∈a.2\/gt b y:=λy=>by unfold gt;simp
   unfold cx;split
   ·rename_i c;have m:¬ gt b r:=λ⟨q,d,l⟩=>k.1 (bS.mpr ⟨q,d,by rw[c];exact(j q (bU _ d) r l).symm⟩)
    have i:gt ((a.1,aP a.2 r)::b) x↔x∈aP a.2 r\/gt b x:=by unfold gt;simp
    rw[i,lX,f,f];by_cases e:x=r
    ·subst e;simp[m]
    ·simp[e]
   ·rename_i c;have i:gt (a::cx r b) x↔x∈a.2\/gt (cx r b) x:=by unfold gt;simp
    have n:r∉a.2:=λz=>c (j a (by simp) r z).symm
    rw[i,ih k.2 λq d=>j q (bU _ d),f,f];by_cases e:x=r
    ·subst e;simp[n]
    ·simp[e]
 exact g h.nd λq d x l=>(h.row q d x l).2
def stepK(a:List (List Int)) (z:List Int×Nat):List (List Int):=(z.1::ax z.1 z.2).foldl aP a
def eX(a:List (List Int)) (q:List (List Int×Nat)):List (List Int):=q.foldl stepK a
def mK:List (List Int)->List (List Int×Nat)->Prop
 |_,[]=>True
 |ks,z::q=>z.1∈ks/\aX z.1 z.2/\mK (stepK ks z) q
theorem mK.snoc:∀{q:List (List Int×Nat)}{b:List (List Int)}{z:List Int×Nat},mK b q->z.1∈eX b q->aX z.1 z.2->mK b (q++[z])
 |[],b,z,_,h1,h2=>⟨h1,h2,trivial⟩
 |a::q,b,z,h,h1,h2=>⟨h.1,h.2.1,mK.snoc h.2.2 h1 h2⟩
theorem eX.snoc:eX ks (q++[z])=stepK (eX ks q) z:=by unfold eX;rw[lH];rfl
theorem Nj{m:List (List Int)}(h:x∈m.foldl aP ks):x∈ks\/x∈m:=by
 induction m generalizing ks with
 |nil=>exact .inl h
 |cons a m ih=>
  rcases ih h with h|h
  ·rw[lX] at h;rcases h with⟨h,_⟩|⟨rfl,_⟩
   ·exact .inl h
   ·exact .inr (by simp)
  ·exact .inr (bU _ h)
theorem Lp{m b:List (List Int)}(h:b.Nodup):(m.foldl aP b).Nodup:=by
 induction m generalizing b with
 |nil=>exact h
 |cons a m ih=>exact ih (tz h)
structure cp (ks:List (List Int)):Prop where
 nd:ks.Nodup
 row:∀r∈ks,bt r 16 6
theorem cp.few(h:cp ks):ks.length<=15000:=QC h.nd h.row
theorem cp.step(h:cp ks)(a:z.1∈ks)(b:aX z.1 z.2):cp (stepK ks z)/\cf (stepK ks z)=cf ks:=by
 refine⟨⟨Lp h.nd,λr hr=>?_⟩,?_⟩
 ·rcases Nj hr with hr|hr
  ·exact h.row r hr
  ·rcases ca.mp hr with rfl|hr
   ·exact h.row _ a
   ·exact BS (h.row _ a) b r hr
 ·unfold stepK;rw[Rg _ _ h.nd];show cf ks^^^(nu z.1^^^cf (ax z.1 z.2))=_;rw[Hd (h.row _ a) b,py,jy]
theorem cp.walk:∀{q:List (List Int×Nat)}{e:List (List Int)},cp e->mK e q->cp (eX e q)/\cf (eX e q)=cf e
 |[],e,h,_=>⟨h,rfl⟩
 |z::q,e,h,w=>by
  obtain⟨a,b⟩:=h.step w.1 w.2.1;obtain⟨c,d⟩:=cp.walk a w.2.2;exact⟨c,d.trans b⟩
theorem QL(h:cp c)(w:mK c q)(s:∀x∈eX c q,lS x):aw (eX c q)=fH (cf c):=by
 obtain⟨a,b⟩:=h.walk w;rw[Ie (λr d=>⟨a.row r d,s r d⟩) a.nd,b]
def f9(b:List (List Int)) (c:Lr):Lr:=b.foldl (λa r=>cx r a) c
structure hV (au:ab) (L:Nat) (lv:Lv) (ms:List (List Int)) (s:ab) (lv':Lv):Prop where
 at_:gp s L lv'
 eq:dq lv'=f9 ms (dq lv)
 keep:∀i,i<au.length->i≠L->(∀q∈lv,q.2.1≠i)->s[i]?=au[i]?
 len:au.length<=s.length
 ix:∀q∈lv',au.length<=q.2.1\/∃q0∈lv,q0.2.1=q.2.1
theorem hV.refl{L:Nat}(h:gp au L lv):hV au L lv [] au lv:=⟨h,rfl,λ_ _ _ _=>rfl,br _,λq a=>.inr ⟨q,a,rfl⟩⟩
theorem Q7:∀{b:Lv},∀q∈bY n r b,q.2.1=n\/∃a∈b,a.2.1=q.2.1
 |[],q,hq=>by
  unfold bY at hq;simp at hq;subst hq;exact .inl rfl
 |x::b,q,hq=>by
  unfold bY at hq;split at hq
  ·rcases ca.mp hq with rfl|hq
   ·exact .inr ⟨x,by simp,rfl⟩
   ·exact .inr ⟨q,bU _ hq,rfl⟩
  ·rcases ca.mp hq with rfl|hq
   ·exact .inr ⟨q,by simp,rfl⟩
   ·rcases Q7 q hq with h|⟨a,c,d⟩
    ·exact .inl h
    ·exact .inr ⟨a,bU _ c,d⟩
theorem hV.snoc{L:Nat}{m:List (List Int)}{r:List Int}(a:hV au L lv m s b)(h:gp s2 L (bY s.length r b))(k:∀i,i<s.length->i≠L->(∀q∈b,q.2.1≠i)->s2[i]?=s[i]?)(l:s.length<=s2.length):
  hV au L lv (m++[r]) s2 (bY s.length r b):=by
 refine⟨h,?_,λi t n e=>?_,ay a.len l,λq e=>?_⟩
 ·rw[BG,a.eq];unfold f9;rw[lH];rfl
 ·have u:=a.len;rw[k i (by lia) n λq f=>?_,a.keep i t n e];rcases a.ix q f with c|⟨g,c,d⟩
  ·lia
  ·rw[←d];exact e g c
 ·rcases Q7 q e with c|⟨g,c,d⟩
  ·exact .inl (by rw[c];exact a.len)
  ·rcases a.ix g c with j|⟨p,j,o⟩
   ·exact .inl (by rw[←d];exact j)
   ·exact .inr ⟨p,j,o.trans d⟩
theorem xm(h:ik (dq a)):a.length<=113/\∀q∈a,q.2.2.length<=15000:=by
 refine⟨by have:=h.few.1;unfold dq at this;rwa [bj] at this,λq b=>h.few.2 (q.1,q.2.2) (bS.mpr ⟨q,b,rfl⟩)⟩
theorem wx(h:bt r 16 6):r.length<=1000/\∀x∈r,-10000<=x/\x<=10000:=⟨by have:=h.len;lia,λx a=>by have:=qZ h x a;lia⟩
theorem Jr{L:Nat}{e:List (List Int)}(h:gp au L lv)(l:ik (dq lv))(j:∀r∈e,bt r 16 6)
  (k:∀s a d,hV au L lv e s a->ik (dq a)->Q (.nx [S0,some (.ref L),S2,S3,S4,S5,d]) s):WP (dM (gN 6) D7 (aJ e) [S0,some (.ref L),S2,S3,S4,S5,v6] au) Q:=by
 refine iW (λi g s=>∃a d,g=[S0,some (.ref L),S2,S3,S4,S5,d]/\hV au L lv (e.take i) s a/\ik (dq a)) ⟨lv,v6,rfl,.refl h,l⟩ ?_ ?_
 ·rintro i x g s p ⟨a,d,rfl,t,c⟩;obtain⟨r,f,rfl⟩:=j3 p;have y:=(db.mp f).1;have b:=wx (j r (ew f));have z:=xm c;have n:=j r (ew f);refine⟨[S0,some (.ref L),S2,S3,S4,S5,some (aL r)],rfl,?_⟩;unfold D7;simp only[W,V,M];refine Sx t.at_ b.1 b.2 (by lia) (λq v=>by have:=z.2 q v;lia) λw m o u=>?_
  simp only[W,V,Dd.L];refine⟨bY s.length r a,_,rfl,?_,?_⟩
  ·rw[zf f];exact t.snoc m o u
  ·rw[BG];exact c.flip n
 ·rintro g s ⟨a,d,rfl,t,c⟩;rw[zc] at t;rw[dU] at t;exact k s a d t c
theorem Lo{L:Nat}{e:List (List Int)}(h:gp au L lv)(l:ik (dq lv))(j:∀r∈e,bt r 16 6)
  (k:∀s a d,hV au L lv e s a->ik (dq a)->Q (.nx [S0,some (.ref L),d,S3,S4,S5,S6]) s):WP (dM (gN 2) BA (aJ e) [S0,some (.ref L),v2,S3,S4,S5,S6] au) Q:=by
 refine iW (λi g s=>∃a d,g=[S0,some (.ref L),d,S3,S4,S5,S6]/\hV au L lv (e.take i) s a/\ik (dq a)) ⟨lv,v2,rfl,.refl h,l⟩ ?_ ?_
 ·rintro i x g s p ⟨a,d,rfl,t,c⟩;obtain⟨r,f,rfl⟩:=j3 p;have y:=(db.mp f).1;have b:=wx (j r (ew f));have z:=xm c;have n:=j r (ew f);refine⟨[S0,some (.ref L),some (aL r),S3,S4,S5,S6],rfl,?_⟩;unfold BA;simp only[W,V,M];refine Sx t.at_ b.1 b.2 (by lia) (λq v=>by have:=z.2 q v;lia) λw m o u=>?_
  simp only[W,V,Dd.L];refine⟨bY s.length r a,_,rfl,?_,?_⟩
  ·rw[zf f];exact t.snoc m o u
  ·rw[BG];exact c.flip n
 ·rintro g s ⟨a,d,rfl,t,c⟩;rw[zc] at t;rw[dU] at t;exact k s a d t c
def gi(q:List (List Int×Nat)):List D:=q.map λz=>.tup [aL z.1,.int z.2]
def gy(a:Lr×List (List Int×Nat)) (r:List Int):Lr×List (List Int×Nat):=match az r with
 |[]=>a
 |p::_=>(f9 (ax r p) a.1,a.2++[(r,p)])
structure Wy (s0:ab) (b:Nat) (L M:Nat) (s:ab) (lv:Lv) (q:List (List Int×Nat)):Prop where
 at_:gp s L lv
 stp:s[M]?=some (.lst (gi q))
 ne:M≠L
 ni:∀x∈lv,x.2.1≠M
 bL:b<=L
 bM:b<=M
 bI:∀x∈lv,b<=x.2.1
 low:∀i,i<b->s[i]?=s0[i]?
 bs:b<=s.length
theorem gp.more{L:Nat}(h:gp s L lv)(g:ab):gp (s++g) L lv:=
 ⟨by rw[gv (zr h.at_)];exact h.at_,λq a=>by rw[gv (zr (h.in_ q a))];exact h.in_ q a,h.nd,h.ix,h.rows⟩
theorem Wy.more{b L M:Nat}(h:Wy s0 b L M s lv q)(g:ab):Wy s0 b L M (s++g) lv q:=
 ⟨h.at_.more g,by rw[gv (zr h.stp)];exact h.stp,h.ne,h.ni,h.bL,h.bM,h.bI,λi a=>by rw[gv (da a h.bs)];exact h.low i a,by rw[cQ];have:=h.bs;lia⟩
theorem Wy.put{b L M:Nat}(h:Wy s0 b L M s lv q):Wy s0 b L M (s.set M (.lst (gi q++[.tup [aL z.1,.int z.2]]))) lv (q++[z]):=by
 refine⟨⟨?_,λx a=>?_,h.at_.nd,h.at_.ix,h.at_.rows⟩,?_,h.ne,h.ni,h.bL,h.bM,h.bI,λi c=>?_,by rw[iT];exact h.bs⟩
 ·rw[fu h.ne];exact h.at_.at_
 ·rw[fu (h.ni x a).symm];exact h.at_.in_ x a
 ·rw[lq (zr h.stp)];unfold gi;rw[hZ];rfl
 ·have:=h.bM;rw[fu (by lia)];exact h.low i c
theorem Wy.to{b L M:Nat}{e:List (List Int)}(h:Wy s0 b L M s lv q)(t:hV s L lv e s2 lv'):Wy s0 b L M s2 lv' q:=by
 have f:=zr h.stp;refine⟨t.at_,?_,h.ne,λx c=>?_,h.bL,h.bM,λx c=>?_,λi g=>?_,ay h.bs t.len⟩
 ·rw[t.keep M f h.ne h.ni];exact h.stp
 ·rcases t.ix x c with a|⟨y,a,d⟩
  ·lia
  ·rw[←d];exact h.ni y a
 ·rcases t.ix x c with a|⟨y,a,d⟩
  ·exact ay h.bs a
  ·rw[←d];exact h.bI y a
 ·have a:=h.bs;have d:=h.bL;rw[t.keep i (by lia) (by lia) λx c=>by have:=h.bI x c;lia];exact h.low i g
theorem LJ{b L M:Nat}{m:List (List Int)}(h:Wy s0 b L M au lv q)(sm:ik (dq lv))(hq:q.length+m.length<=10000000)(Y:∀r∈m,bt r 16 6)
  (k:∀s c d t o l,Wy s0 b L M s c d->(dq c,d)=m.foldl gy (dq lv,q)->ik (dq c)->d.length<=q.length+m.length->Q (.nx [S0,some (.ref L),t,some (.ref M),S4,o,l]) s):
  WP (dM (gN 2) D8 (aJ m) [S0,some (.ref L),v2,some (.ref M),S4,v5,v6] au) Q:=by
 refine iW (λi H s=>∃c d t o l,H=[S0,some (.ref L),t,some (.ref M),S4,o,l]/\Wy s0 b L M s c d/\(dq c,d)=(m.take i).foldl gy (dq lv,q)/\ik (dq c)/\d.length<=q.length+i) ⟨lv,q,v2,v5,v6,rfl,h,rfl,sm,br _⟩ ?_ ?_
 ·rintro i x H s hx ⟨c,d,t,o,l,rfl,u,w,f,E⟩;obtain⟨r,J,rfl⟩:=j3 hx;have hi:=(db.mp J).1;have n:=Y r (ew J);have rl:=n.len;refine⟨[S0,some (.ref L),some (aL r),some (.ref M),S4,o,l],rfl,?_⟩;have U:(m.take (i+1)).foldl gy (dq lv,q)=gy (dq c,d) r:=by rw[zf J,lH,←w];rfl
  unfold D8;simp only[W,V,Dd.M];refine WP.of (NQ (by lia)) ?_
  try simp only[W,V,Dd.M]
  cases hp:az r with
  |nil=>
   refine⟨false,rfl,?_⟩;rw[if_neg (by decide)];refine⟨c,d,_,_,_,rfl,u,?_,f,by lia⟩;rw[U];unfold gy;rw[hp]
  |cons p ps=>
   refine⟨true,rfl,?_⟩;rw[if_pos rfl];have G:aX r p:=B7.mp (by rw[hp];simp);have I:=D4 n G;have A:p+1<r.length:=by obtain⟨a,b,_,z,_⟩:=G;exact(db.mp z).1
   have a1:=Cf r p;have S:∀s:ab,cn (.lst (kg (p::ps))) (.int 0) s=.ok (.int p) s:=λs=>nz rfl (Eb (j:=0) rfl)
   refine⟨_,_,rfl,u.stp,WP.of (S s) ⟨small _ (by simp),_,_,rfl,u.stp,by unfold gi;rw[bj,me];lia,WP.of (S _) ?_⟩⟩;have C:=u.put (z:=(r,p));obtain⟨g,e⟩:=Sz (au:=s.set M (.lst (gi d++[.tup [aL r,.int p]]))) (r:=r) (p:=p) A (by lia) I.1.1 (by lia) (by lia) (by lia);refine WP.of e ⟨_,rfl,?_⟩;have v:=C.more g;refine Jr v.at_ f (BS n G) λs2 P a0 X y=>?_
   refine⟨P,d++[(r,p)],_,_,_,rfl,v.to X,?_,y,by rw[cQ,ot];lia⟩;rw[U];unfold gy;rw[hp]
   show _=(f9 (ax r p) (dq c),d++[(r,p)])
   rw[X.eq]
 ·rintro H s ⟨c,d,t,o,l,rfl,u,w,f,E⟩;rw[zc] at w E;rw[dU] at w;exact k s c d t o l u w f E
def dg(a:Lr):Int:=match a.map (·.1) with
 |[]=>0
 |k::ks=>cG true k ks
def kl(a:Lr) (m:Int):Lr:=a.filter λq=>decide (q.1≠m)
def f8(a:Lv) (m:Int):Lv:=a.filter λq=>decide (q.1≠m)
theorem Jq:dq (f8 lv m)=kl (dq lv) m:=by
 unfold dq f8 kl;rw[rq];rfl
theorem Jp:ii (gs lv) m=gs (f8 lv m):=by
 unfold ii gs f8;rw[rq];rfl
theorem Wy.less{b L M:Nat}{m:Int}(h:Wy s0 b L M s lv q):Wy s0 b L M (s.set L (.dI (gs (f8 lv m)))) (f8 lv m) q:=by
 have sub:∀x∈f8 lv m,x∈lv:=λx a=>(dH.mp a).1
 have d:∀x∈lv,x.2.1≠L:=λx a z=>by have:=h.at_.in_ x a;rw[z,h.at_.at_] at this;cases this
 refine⟨⟨lq (zr h.at_.at_),λx a=>?_,?_,?_,λx a=>h.at_.rows x (sub x a)⟩,?_,h.ne,λx a=>h.ni x (sub x a),h.bL,h.bM,λx a=>h.bI x (sub x a),λi c=>?_,by rw[iT];exact h.bs⟩
 ·rw[fu (d x (sub x a)).symm];exact h.at_.in_ x (sub x a)
 ·exact h.at_.nd.sublist (yw.map _)
 ·exact h.at_.ix.sublist (yw.map _)
 ·rw[fu h.ne.symm];exact h.stp
 ·have:=h.bL;rw[fu (by lia)];exact h.low i c
structure Iv (k0:List (List Int)) (m:Int) (lr:Lr) (rs:List (List Int)) (q:List (List Int×Nat)):Prop where
 wk:mK k0 q
 g:ik lr
 lt:∀x∈lr,x.1<m
 low:∀x,av 1 x<m->(x∈eX k0 q↔gt lr x)
 rs_:∀x∈rs,av 1 x=m/\x∈eX k0 q
 rn:rs.Nodup
 high:∀x∈eX k0 q,m<=av 1 x->x∈rs\/lS x
theorem MY(G:ik lr)(b:bt r 16 6)(c:av 1 r<m)(h:∀x,av 1 x<m->(x∈ks↔gt lr x)):∀x,av 1 x<m->(x∈aP ks r↔gt (cx r lr) x):=λx a=>by
 rw[lX,Lu G b,h x a,h r c]
theorem ER:∀{ms:List (List Int)}{lr:Lr}{ks:List (List Int)},ik lr->(∀r∈ms,bt r 16 6/\av 1 r<m)->(∀x,av 1 x<m->(x∈ks↔gt lr x))->ik (f9 ms lr)/\∀x,av 1 x<m->(x∈ms.foldl aP ks↔gt (f9 ms lr) x)
 |[],lr,ks,G,_,h=>⟨G,h⟩
 |r::ms,lr,ks,G,hm,h=>ER (ms:=ms) (G.flip (hm r (by simp)).1) (λx a=>hm x (bU _ a)) (MY G (hm r (by simp)).1 (hm r (by simp)).2 h)
theorem Q8:∀{ms a:List (List Int)},(∀r∈ms,x≠r)->(x∈ms.foldl aP a↔x∈a)
 |[],a,_=>Iff.rfl
 |r::ms,a,h=>by
  rw[lC,Q8 (ms:=ms) λy b=>h y (bU _ b),lX];have:=h r (by simp);simp[this]
theorem Ej:∀{ms:List (List Int)}{a:Lr},(∀r∈ms,av 1 r<m)->(∀x∈a,x.1<m)->∀x∈f9 ms a,x.1<m
 |[],a,_,h=>h
 |r::ms,a,hm,h=>Ej (ms:=ms) (λx b=>hm x (bU _ b)) λx b=>by
  rcases tr x b with c|⟨c,_⟩
  ·exact h x c
  ·rw[c];exact hm r (by simp)
theorem Iv.row(K:cp k0)(h:Iv k0 m lr (r::rs) q):Iv k0 m (gy (lr,q) r).1 rs (gy (lr,q) r).2:=by
 obtain⟨v,_⟩:=K.walk h.wk;have d:=h.rs_ r (by simp);have n:=g7.mp h.rn;unfold gy;cases hp:az r with
 |nil=>
  refine⟨h.wk,h.g,h.lt,h.low,λx a=>h.rs_ x (bU _ a),n.2,λx a i=>?_⟩;rcases h.high x a i with z|z
  ·rcases ca.mp z with rfl|z
   ·exact .inr (Ig hp)
   ·exact .inl z
  ·exact .inr z
 |cons p ps=>
  have k:aX r p:=B7.mp (by rw[hp];simp);have c:=v.row r d.2;have l:∀z∈ax r p,bt z 16 6/\av 1 z<m:=λz g=>⟨BS c k z g,by rw[←d.1];exact LQ c.pos k g⟩
  have s:∀x,av 1 x<m->(x∈aP (eX k0 q) r↔gt lr x):=λx a=>by
   rw[lX,←h.low x a];have:x≠r:=λe=>by rw[e,d.1] at a;lia
   simp[this]
  obtain⟨t,u⟩:=ER h.g l s;have f:∀x,m<=av 1 x->(x∈stepK (eX k0 q) (r,p)↔x∈eX k0 q/\x≠r):=λx a=>by
   show x∈(ax r p).foldl aP (aP (eX k0 q) r)↔_;rw[Q8 λy o e=>by have:=(l y o).2;rw[←e] at this;lia,lX];have:=d.2;constructor
   ·rintro(z|⟨rfl,z⟩)
    ·exact z
    ·exact absurd this z
   ·exact λz=>.inl z
  refine⟨h.wk.snoc d.2 k,t,Ej (λz g=>(l z g).2) h.lt,λx a=>?_,λx a=>?_,n.2,λx a i=>?_⟩
  ·rw[eX.snoc];exact u x a
  ·have b:=h.rs_ x (bU _ a);rw[eX.snoc];refine⟨b.1,(f x (by rw[b.1];exact x8 _)).mpr ⟨b.2,λe=>?_⟩⟩;subst e;exact n.1 a
  ·rw[eX.snoc] at a;obtain⟨a,j⟩:=(f x i).mp a;rcases h.high x a i with z|z
   ·rcases ca.mp z with e|z
    ·exact absurd e j
    ·exact .inl z
   ·exact .inr z
theorem Iv.rows(K:cp k0):∀{rs:List (List Int)}{a:Lr}{q:List (List Int×Nat)},Iv k0 m a rs q->Iv k0 m (rs.foldl gy (a,q)).1 [] (rs.foldl gy (a,q)).2
 |[],a,q,h=>h
 |r::rs,a,q,h=>Iv.rows (rs:=rs) K (h.row K)
theorem wC:∀{b:Lr},b≠[]->(∃l,(dg b,l)∈b)/\∀x∈b,x.1<=dg b
 |[],h=>absurd rfl h
 |a::b,_=>by
  obtain⟨c,d⟩:=Ed (b.map (·.1)) a.1;have e:dg (a::b)=cG true a.1 (b.map (·.1)):=rfl;rw[e];refine⟨?_,λx g=>d _ (by rw[←cr (f:=λq:Int×List (List Int)=>q.1)];exact bS.mpr ⟨x,g,rfl⟩)⟩;rw[←cr (f:=λq:Int×List (List Int)=>q.1)] at c;obtain⟨q,i,e⟩:=bS.mp c;exact⟨q.2,by rw[←e];exact i⟩
theorem Iv.next(h:Iv k0 m lr [] q)(d:(dg lr,l)∈lr):Iv k0 (dg lr) (kl lr (dg lr)) (aw l) q:=by
 have i:lr≠[]:=λe=>by rw[e] at d;cases d
 have top:=(wC i).2;have n:dg lr<m:=h.lt _ d;have sub:∀x∈kl lr (dg lr),x∈lr/\x.1≠dg lr:=λx a=>by
  obtain⟨f,g⟩:=dH.mp a;exact⟨f,gR g⟩
 have j:∀x∈lr,x.1=dg lr->x.2=l:=λx a e=>by
  have:=uv h.g.nd a d e;rw[this]
 refine⟨h.wk,⟨h.g.nd.sublist (yw.map _),λx a=>h.g.row x (sub x a).1,λx a=>h.g.key x (sub x a).1,λx a=>h.g.rnd x (sub x a).1⟩,λx a=>?_,λx a=>?_,λx a=>?_,?_,λx a p=>?_⟩
 ·have f:=sub x a;have g:=top x f.1;have o:=f.2;lia
 ·rw[h.low x (by lia)];constructor
  ·rintro⟨y,c,b⟩;refine⟨y,dH.mpr ⟨c,cI λe=>?_⟩,b⟩;have:=(h.g.row y c x b).2;lia
  ·rintro⟨y,c,b⟩;exact⟨y,(sub y c).1,b⟩
 ·have a:=(zo l).mem_iff.mp a;have e:=(h.g.row _ d x a).2;have e:av 1 x=dg lr:=e;exact⟨e,(h.low x (by lia)).mpr ⟨_,d,a⟩⟩
 ·exact(zo l).nodup_iff.mpr (h.g.rnd _ d)
 ·rcases Int.lt_or_le (av 1 x) m with z|z
  ·obtain⟨y,c,b⟩:=(h.low x z).mp a;have e:=(h.g.row y c x b).2;have k:=top y c;exact .inl ((zo l).mem_iff.mpr (by rw[←j y c (by lia)];exact b))
  ·rcases h.high x a z with z|z
   ·cases z
   ·exact .inr z
theorem Iv.end_(h:Iv c m [] [] q):∀x∈eX c q,lS x:=λx a=>by
 rcases Int.lt_or_le (av 1 x) m with z|z
 ·obtain⟨y,b,_⟩:=(h.low x z).mp a;cases b
 ·rcases h.high x a z with z|z
  ·cases z
  ·exact z
theorem Iv.start(K:cp k0):Iv k0 113 (f9 k0 []) [] []:=by
 have d:∀r∈k0,bt r 16 6/\av 1 r<113:=λr f=>⟨K.row r f,by have:=wd (K.row r f);lia⟩
 obtain⟨g,h⟩:=ER (m:=113) (ms:=k0) (lr:=[]) (ks:=[]) ⟨by simp,λq b=>(by cases b),λq b=>(by cases b),λq b=>(by cases b)⟩ d λx _=>by unfold gt;simp
 have e:∀x,x∈k0.foldl aP []↔x∈k0:=λx=>by
  have:=(sQ k0 [] mX).2.2 x;rw[this,N7 K.nd];by_cases c:x∈k0<;>simp[c]
 refine⟨trivial,g,Ej (λz i=>(d z i).2) (λx a=>(by cases a)),λx a=>?_,λx a=>(by cases a),mX,λx a j=>?_⟩
 ·rw[←h x a,e];rfl
 ·have:=(d x a).2;lia
theorem Kv{L:Nat}(a:f σ au=.ok (.ref L) au)(h:au[L]?=some (.dI kvs)):jc f σ au=.ok (!kvs.isEmpty) au:=by
 unfold jc;rw[a,zq];dsimp only;rw[h]
theorem Js{L:Nat}(h:au[L]?=some (.dI (gs lv)))(b:lv≠[]):gI [.ref L] au=.ok (.int (dg (dq lv))) au:=by
 unfold gI;dsimp only;rw[h];cases lv with
 |nil=>exact absurd rfl b
 |cons a lv=>
  show bu.ok (D.int (cG true a.1 ((gs lv).map (·.1)))) au=.ok (D.int (cG true a.1 ((dq lv).map (·.1)))) au
  congr 3
  unfold gs dq;rw[eS,eS];rfl
theorem Kb{L:Nat}{k:Int}(c:f σ au=.ok (.ref L) au)(h:au[L]?=some (.dI kvs))(a:g σ au=.ok [.int k] au)(b:eF kvs k=some v):ko f g σ au=.ok v (au.set L (.dI (ii kvs k))):=by
 unfold ko;rw[c,zq];dsimp only
 rw[h];dsimp only
 rw[a,zq];try dsimp only
 rw[h];try dsimp only
 rw[b]
theorem Te{au:ab}(h:∀i,i<au.length->s[i]?=au[i]?)(a:au.length<=s.length):s=au++s.drop au.length:=by
 refine tT λi=>?_
 rcases pB i au.length with z|z
 ·rw[h i z,gv z]
 ·rw[kQ z,oj];congr 1;lia
structure SY (ks:List (List Int)) (q:List (List Int×Nat)):Prop where
 wk:mK ks q
 fin:∀x∈eX ks q,lS x
 len:q.length<=2000000
theorem MS{c:ab}{g:List (List Int)}{T:SS}(K:cp g)(k:∀q M s h u v p,SY g q->s[M]?=some (.lst (gi q))->c.length<=M->(∀i,i<c.length->s[i]?=c[i]?)->WP (T [some (aK g),some (.ref c.length),h,some (.ref M),u,v,p] s) QQ):
  WP (aD (aF 1 iG) (aD (cb (aH (aA 0)) (gN 2) BA) (aD (aF 3 (dA aC)) (aD (dE (jc (aA 1)) D9) T))) [some (aK g),none,none,none,none,none,none] c) QQ:=by
 simp only[W,V];refine WP.of (show iG _ c=.ok (.ref c.length) (c++[.dI []]) from rfl) ?_
 try simp only[W,V]
 refine⟨_,rfl,?_⟩;have a0:gp (c++[O.dI []]) c.length []:=⟨by simp;rfl,λq e=>(by cases e),by simp,by simp,λq e=>(by cases e)⟩
 refine Lo (lv:=[]) a0 ⟨by simp[dq],λq e=>(by cases e),λq e=>(by cases e),λq e=>(by cases e)⟩ K.row λs b h t G=>?_
 simp only[W,V];refine⟨small _ (by simp),?_⟩;have H:=t.len;rw[cQ,ot] at H;have J:∀x∈b,c.length+1<=x.2.1:=λx C=>by
  rcases t.ix x C with z|⟨y,o,_⟩
  ·rw[cQ,ot] at z;exact z
  ·cases o
 have d:Wy c c.length c.length s.length (s++[.lst []]) b []:=by
  refine⟨t.at_.more _,by simp;rfl,by lia,λx C=>dJ (zr (t.at_.in_ x C)),br _,by lia,λx C=>by have:=J x C;lia,λi hi=>?_,by rw[cQ];lia⟩;rw[gv (by lia),t.keep i (by rw[cQ];lia) (by lia) λq e=>(by cases e),gv hi]
 have f:Iv g (113:Nat) (dq b) [] []:=by
  rw[t.eq];exact Iv.start K
 generalize s.length=M at d;refine EC (λj σ s=>∃b q h u v p,σ=[some (aK g),some (.ref c.length),h,some (.ref M),u,v,p]/\Wy c c.length c.length M s b q/\Iv g (j:Int) (dq b) [] q/\q.length+15000*j<=15000*113) (k:=113) ⟨b,[],_,_,_,_,rfl,d,f,by simp⟩ (by lia) ?_;rintro j σ s ⟨b,q,h,u,v,p,rfl,d,f,ql⟩;refine WP.of (Kv rfl d.at_.at_) ?_;cases b with
 |nil=>
  rw[if_neg (by simp[gs])];simp only[W];exact k q M s _ _ _ _ ⟨f.wk,f.end_,by lia⟩ d.stp d.bM d.low
 |cons a lv0=>
  rw[if_pos (by simp[gs])];generalize hlv:a::lv0=b at *
  have S:b≠[]:=by rw[←hlv];simp
  have A:dq b≠[]:=by rw[←hlv];simp[dq]
  clear hlv a lv0;obtain⟨⟨l,w⟩,_⟩:=wC A;obtain⟨y,o,Y⟩:=bS.mp (show(dg (dq b),l)∈b.map λq=>(q.1,q.2.2) from w);have e1:y.1=dg (dq b):=congrArg Prod.fst Y;have e2:y.2.2=l:=congrArg Prod.snd Y;have ev:eF (gs b) (dg (dq b))=some (.ref y.2.1):=by
   rw[D6];cases hf:b.find? λq=>decide (q.1=dg (dq b)) with
   |none=>exact absurd e1 (by simpa using tV.mp hf y o)
   |some z=>
    have h1:z.1=dg (dq b):=by simpa using CH hf
    rw[uv d.at_.nd (Df hf) o (h1.trans e1.symm)];rfl
  have eg:aB (aE gI (aB (aA 1) aC)) aC [some (aK g),some (.ref c.length),h,some (.ref M),u,v,p] s=.ok [.int (dg (dq b))] s:=by
   rw[lV,show aE gI (aB (aA 1) aC) [some (aK g),some (.ref c.length),h,some (.ref M),u,v,p] s=_ from Js d.at_.at_ S]
   rfl
  unfold D9;simp only[W,V];refine WP.of (Kb rfl d.at_.at_ eg ev) ?_;rw[Jp]
  try simp only[W,V]
  have X:y.2.1≠c.length:=λz=>by have:=d.at_.in_ y o;rw[z,d.at_.at_] at this;cases this
  have U:(s.set c.length (.dI (gs (f8 b (dg (dq b))))))[y.2.1]?=some (.dT (aQ l)):=by
   rw[fu X.symm,←e2];exact d.at_.in_ y o
  have fl:=f.g.few.2 _ w;have fl:l.length<=15000:=fl;refine WP.of (E4 U (by lia)) ⟨_,rfl,?_⟩;have n:=f.next w;have P:=d.less (m:=dg (dq b));rw[←Jq] at n;have sl:(aw l).length=l.length:=vi l;have tj:dg (dq b)<j:=f.lt _ w;have t0:0<=dg (dq b):=(f.g.key _ w).1;refine LJ P n.g (by lia) (λr hr=>(f.g.row _ w r ((zo l).mem_iff.mp hr)).1) λs3 Q q3 x2 x5 x6 I ee g3 a1=>?_
  refine⟨(dg (dq b)).toNat,by lia,Q,q3,_,_,_,_,rfl,I,?_,by lia⟩;have E:=n.rows K;rw[←ee] at E;rw[Ot t0];exact E
theorem wF(K:cp ks)(k:∀q g,SY ks q->Q (.lst (gi q)) (au++g)):WP (kz [aK ks] au) Q:=by
 refine gO rfl ?_;refine MS K λq M s d l j h w b f a=>?_
 simp only[W,V,Dd.M];refine⟨_,_,rfl,b,?_⟩;have e:=Te (s:=s.set M .dead) (au:=au) (λi c=>by rw[fu (by lia)];exact a i c) (by rw[iT];have:=zr b;lia);rw[e];exact k q _ w
theorem RY(K:cp ks)(w:mK ks q)(k:∀g,Q (aK (aw (eX ks q))) (au++g)):WP (sX [aK ks,.lst (gi q)] au) Q:=by
 refine gO rfl ?_;simp only[W,V];refine WP.of (UY K.nd (by have:=K.few;lia)) ?_
 try simp only[W,V]
 refine⟨_,rfl,?_⟩;refine iW (λi j s=>∃m d g,j=[some (aK ks),some (.lst (gi q)),some (.ref au.length),m,d]/\s=au++.dT (aQ (eX ks (q.take i)))::g/\cp (eX ks (q.take i))/\mK (eX ks (q.take i)) (q.drop i)) ⟨_,_,[],rfl,rfl,K,w⟩ ?_ ?_
 ·rintro i x j s f ⟨m,d,g,rfl,rfl,a,c⟩;unfold gi at f;rw[fM] at f;obtain⟨z,h,rfl⟩:=jE.mp f;have A:=(db.mp h).1;have t:q.drop i=z::q.drop (i+1):=by
   rw[lN A];congr 1;exact(db.mp h).2
  have o:q.take (i+1)=q.take i++[z]:=zf h;rw[t] at c;obtain⟨r,l,u⟩:=c;have b:=a.row _ r;have y:=D4 b l;refine⟨[some (aK ks),some (.lst (gi q)),some (.ref au.length),some (aL z.1),some (.int z.2)],rfl,?_⟩;unfold Sv;simp only[W,V];obtain⟨v,e⟩:=Va (au:=au++.dT (aQ (eX ks (q.take i)))::g) (n:=au.length) (p:=z.2) (by simp) a.nd (by have:=a.few;lia) r (by have:=b.len;lia) l y.1.1 (by lia) (by lia) (by lia);refine WP.of e ?_;simp only[L];refine⟨_,_,g++v,rfl,?_,?_,?_⟩
  ·rw[o,eX.snoc];unfold stepK;simp
  ·rw[o,eX.snoc];exact(a.step r l).1
  ·rw[o,eX.snoc];exact u
 ·rintro j s ⟨m,d,g,rfl,rfl,a,c⟩;rw[show(gi q).length=q.length from bj ..,dU] at *
  simp only[W,V];refine WP.of (E4 (n:=au.length) (ks:=eX ks q) (by simp) (by have:=a.few;lia)) ?_;exact WP.of (show bE [.lst (aJ (aw (eX ks q)))] _=.ok (aK (aw (eX ks q))) _ from rfl) (k _)
theorem tw(K:cp ks)(k:∀g,Q (aK (fH (cf ks))) (au++g)):WP (pf [aK ks] au) Q:=by
 refine gO rfl ?_;simp only[W,V];refine wF K λq g w=>?_
 refine RY K w.wk λa=>?_
 rw[QL K w.wk w.fin,ff];exact k _
end Dd
namespace K45
end K45
namespace Dd
open L2 K13
theorem l8{c d:Type}(h:c->d->Nat)(m:List d):∀l:List c,xr l (λa=>xr m (h a))=xr m (λb=>xr l λa=>h a b)
 |[]=>(lu m).symm
 |a::l=>by
  rw[io,l8 h m l,←lp]
  rfl
theorem qM{a b:List Row}(h:∀x,a.count x%2=b.count x%2):xr a f=xr b f:=by
 have c:∀(l:List Row) (i:Nat),(xr l f).testBit i=decide (dm l (λx=>if(f x).testBit i=true then 1 else 0)%2=1):=λl i=>by
  induction l with
  |nil=>simp[xr,dm]
  |cons x l ih=>
   rw[io,ro,ih,iQ];cases(f x).testBit i
   ·simp
   ·simp only[gr];rw[kK];simp;lia
 refine Nat.eq_of_testBit_eq λi=>?_
 rw[c,c,xT _ h]
theorem qL(l:List Row):xr (aO l) f=xr l f:=qM (qy l)
theorem AO(x:Row):∀l:List Row,xr l (λy=>if y=x then 1 else 0)=l.count x%2
 |[]=>rfl
 |a::l=>by
  rw[io,AO x l,n8];have:=mn (l.count x);by_cases c:a=x
  ·rw[if_pos c,if_pos (by simpa using c)];rcases this with e|e<;>rw[e]
   ·show 1=_;lia
   ·show 0=_;lia
  ·rw[if_neg c,if_neg (by simpa using c),pz];lia
theorem Rh(h:∀f:Row->Nat,xr a f=xr b f):aO a=aO b:=B9 λx=>by rw[←AO x a,←AO x b,h]
theorem vD(a:0<=k)(b:Nn p):xr (cN k p) f=T k f p:=by
 rw[vd b a,tm];unfold T;refine zj λx _=>?_
 by_cases c:x.sum=p.sum+k
 ·rw[if_pos (cI c),if_pos c]
 ·rw[if_neg (by simp[c]),if_neg c]
theorem F4(b:0<=k)(a:∀p∈l,Nn p):xr (ao k l) f=xr l (T k f):=by
 unfold ao;rw[uK];exact zj λp c=>vD b (a p c)
theorem wA:∀{r:List Int},(∀x∈r,0<=x)->0<=r.sum
 |[],_=>by simp
 |a::r,h=>by
  have c:=h a (by simp);have d:=wA λx b=>h x (bU _ b)
  rw[fe];lia
theorem Tk(l:List Int)(j:Nat):(l.drop j++l.take j).sum=l.sum:=by
 have:(l.take j++l.drop j).sum=l.sum:=by rw[j9]
 rw[gZ] at this ⊢;lia
theorem UD{n:Nat}{N d:Int}(p:ck au n)(hN:1<=N)(b0:N<=1000)(hd:0<=d)(a9:d<=1000)(k:∀r o,r.length=N.toNat->(∀x∈r,0<=x)->r.sum<=d->bC au o n->Q (aL r) o):WP (Ch [.ref n,.int N,.int d] au) Q:=by
 refine gO rfl ?_;simp only[W,V];refine ls p (by lia) (by lia) λl0 b3 Y h2 J=>?_
 refine ls J.bag (by lia) (by lia) λr1 a h3 h4 d2=>?_
 have t:=J.trans d2
 have b:∀left:Int,0<=left->left<=d->WP (aD (aF 4 (dA aC))
   (aD (cb (hU (aB (aS ce (aA 1) (eC (.int 1))) aC)) (gN 5) Fi)
   (aD (bX (bQ (aA 4) (aB (aA 3) aC)))
   (aD (aF 6 (aE zg (aB (aA 0) (aB (aA 1) aC))))
   (aV (aE bE (aB (aS aM (iU (aA 4) (cE (aA 6)) cF) (iU (aA 4) cF (cE (aA 6)))) aC)))))) [some (.ref n),some (.int N),some (.int d),some (.int left),none,none,none] a) (kR Q):=λleft A H=>by
  simp only[W,V];refine⟨small _ (by simp),True.intro,_,rfl,iy (by lia) (by lia),?_⟩;have S:au.length<=a.length:=t.len;have l:a.length≠n:=tN (t.lt p.lt);refine iW (λi C s=>∃(left:Int) (r:List Int) (v:Option D),C=[some (.ref n),some (.int N),some (.int d),some (.int left),some (.ref a.length),v,none]/\0<=left/\r.sum+left<=d/\r.length=i/\(∀x∈r,0<=x)/\bC au s n/\s[a.length]?=some (.lst (r.map .int)))
   ⟨left,[],none,rfl,A,(by rw[rg,n5];exact H),rfl,by simp,t.trans (.more t.bag _),by simp⟩ ?_ ?_
  ·rintro i x C s hx ⟨left,r,v,rfl,G,U,E,f,u,c⟩;obtain⟨hi,rfl⟩:=uG hx;refine⟨_,rfl,?_⟩;unfold Fi;simp only[W,V,M];refine⟨_,_,rfl,c,?_⟩;have a0:=wA f;refine ls u.bag (by lia) (by lia) λy w z b2 g=>?_
   have m:w[a.length]?=some (.lst (r.map .int)):=(g.keep _ (zr c) l).trans c;have X:=u.trans g;have e:=zr m;refine⟨_,_,rfl,m,by rw[bj];exact dh _ (by lia),?_⟩;have h:(w.set a.length (.lst (r.map D.int++[D.int y])))[a.length]?=some (.lst ((r++[y]).map .int)):=by rw[lq e];simp
   refine iZ (xs:=(r++[y]).map .int) (d:=.int y) (BX h) (by rw[hZ];exact Ea _ _) ?_;simp only[W,V,L];exact⟨True.intro,left-y,r++[y],_,rfl,by lia,(by rw[gZ,fe,rg];lia),by simp[E],BH f z,X.over p.lt S,h⟩
  ·rintro C s ⟨left,r,v,rfl,G,U,E,f,u,c⟩;rw[j5] at E;simp only[W,V,M];have e:=zr c;refine⟨_,_,rfl,c,_,_,rfl,c,by rw[bj];exact dh _ (by lia),?_⟩;have h:(s.set a.length (.lst (r.map D.int++[D.int left])))[a.length]?=some (.lst ((r++[left]).map .int)):=by rw[lq e];simp
   have P:bC au (s.set a.length (.lst (r.map D.int++[D.int left]))) n:=u.over p.lt S;refine ls P.bag (by lia) (by lia) λy w z b2 g=>?_
   have I:w[a.length]?=some (.lst ((r++[left]).map .int)):=(g.keep _ (zr h) l).trans h;refine⟨y,rfl,.inr ⟨_,mS I,y,rfl,.inr ⟨_,mS I,?_⟩⟩⟩;obtain⟨j,rfl⟩:=lL z;rw[EE,Dz];refine WP.of (MN (small _ (by rw[cQ,ot];lia))) ?_;simp only[W,V];refine k _ _ ?_ ?_ ?_ (P.trans g)
   ·rw[QJ,cQ,ot];lia
   ·intro x hx;rcases dk.mp hx with hx|hx
    ·exact BH f G x (pM hx)
    ·exact BH f G x (ml hx)
   ·rw[Tk,gZ,fe,rg];lia
 simp only[W,V];split
 ·have q:=b d hd (x8 _);simp only[W,V] at q;exact q
 ·have q:=b l0 Y (by lia);simp only[W,V] at q;exact q
theorem Ks{n:Nat}{N m d:Int}(q:ck au n)(u:1<=N)(o:N<=1000)(P:0<=m)(G:m<63)(H:0<=d)(f:d<=1000)(k:∀l b,l.length<=m->mL N.toNat l->(∀r∈l,r.sum<=d)->bC au b n->Q (aK l) b):WP (BO [.ref n,.int N,.int m,.int d] au) Q:=by
 refine gO rfl ?_;simp only[W,V];refine ls q (by lia) (by lia) λc I S Y w=>?_
 refine⟨c,rfl,iy (by lia) (by lia),by rw[j5];exact small _ (by lia),?_⟩;refine xV (λi acc j s=>∃(l:List (List Int)) (v:Option D),acc=aJ l/\l.length=i/\(∀r∈l,r.length=N.toNat/\∀x∈r,0<=x)/\(∀r∈l,r.sum<=d)/\j=[v,some (.ref n),some (.int N),some (.int d)]/\bC au s n) ⟨[],none,rfl,rfl,by simp,by simp,rfl,w⟩ ?_ ?_
 ·rintro i x acc j s X ⟨l,v,rfl,p,e,h,rfl,a⟩;refine⟨_,rfl,?_⟩;simp only[W,V];refine UD a.bag u o H f λr U A E C t=>⟨l++[r],_,by simp[aJ],by simp[p],λz hz=>?_,λz hz=>?_,rfl,a.trans t⟩
  ·rcases dk.mp hz with hz|hz
   ·exact e z hz
   ·simp at hz;subst hz;exact⟨A,E⟩
  ·rcases dk.mp hz with hz|hz
   ·exact h z hz
   ·simp at hz;subst hz;exact C
 ·rintro J j s ⟨l,v,rfl,p,e,h,rfl,a⟩;rw[j5] at p;refine xC (l:=l) rfl (by lia) λg=>k _ _ ?_ (Tg e) (λr y=>h r (nH y)) (a.trans (.more a.bag g))
  have:=Cd l;lia
end Dd
namespace K50
end K50
namespace Dd
open L2 K13
theorem PM:∀m:Row,Nn m->∀a:Row->Nat,T 0 a m=a m:=QF
 (λa=>by rw[kB,if_pos rfl])
 (λr _ b a=>by rw[uM,b])
 (λr e c b a=>by
  rw[qN,b,pb,nL ?_ (by lia),jy];intro x hx;rcases dk.mp hx with hx|hx
  ·exact c x hx
  ·rw[et.mp hx]
   lia)
def Act(b:Row) (c:Row->Nat):Row->Nat:=b.foldl (λd a=>T a d) c
theorem uO(a:Int)(b:Row)(c:Row->Nat):Act (a::b) c=Act b (T a c):=rfl
theorem Dv(p q:Row)(a:Row->Nat):Act (p++q) a=Act q (Act p a):=lH
theorem Fm{a:Type}{L:List a}{d:Row->Nat}{b:a->Row->Nat}(k:Int)(h:∀m,Nn m->d m=xr L λc=>b c m){m:Row}(e:Nn m):T k d m=xr L λc=>T k (b c) m:=by
 unfold T
 conv=>rhs;rw[l8]
 refine zj λx f=>?_
 rw[h x (EA m e x f)];by_cases c:x.sum=m.sum+k
 ·simp only[c,gr]
 ·simp only[c,gP];exact(lu _).symm
theorem Dw{e:Type}{L:List e}:∀(b:Row) {ψ:Row->Nat}{χ:e->Row->Nat},(∀m,Nn m->ψ m=xr L λc=>χ c m)->∀m,Nn m->Act b ψ m=xr L λc=>Act b (χ c) m
 |[],_,_,h,m,d=>h m d
 |a::b,_,_,h,m,d=>Dw b (λm d=>Fm a h d) m d
theorem MU{a:Row}(h:∀m,Nn m->ψ m=χ m) (b:Nn m):Act a ψ m=Act a χ m:=by
 have:=Dw (L:=[()]) a (ψ:=ψ) (χ:=λ_=>χ) (λm b=>by rw[h m b];show χ m=χ m^^^0;rw[jy]) m b;rw[this];show _^^^0=_;rw[jy]
theorem PZ:∀(b:Row) (m:Row),Act b (λ_=>0) m=0
 |[],_=>rfl
 |a::b,m=>by
  rw[uO,show T a (λ_=>0)=λ_=>0 from funext λm=>vF a m];exact PZ b m
theorem AC:∀(b:Row) {l:List Row},(∀x∈b,0<=x)->(∀p∈l,Nn p)->∀p∈R b l,Nn p
 |[],_,_,h=>h
 |a::b,l,hr,h=>λp c=>by
  obtain⟨q,f,c⟩:=fL.mp (show p∈ao a (R b l) from c);have d:=AC b (λx e=>hr x (bU _ e)) h q f;rw[vd d (hr a dB)] at c;exact EA q d p (dH.mp c).1
theorem xW:∀(b:Row) {l:List Row}{d:Row->Nat},(∀x∈b,0<=x)->(∀p∈l,Nn p)->xr (R b l) d=xr l (Act b d)
 |[],_,_,_,_=>rfl
 |a::b,l,d,hr,h=>by
  have c:∀x∈b,0<=x:=λx e=>hr x (bU _ e)
  show xr (ao a (R b l)) d=_;rw[F4 (hr a dB) (AC b c h),xW b c h]
  rfl
theorem uJ(d:∀r∈b,∀x∈r,0<=x)(h:∀p∈l,Nn p):xr (aj b l) φ=xr b λa=>xr l (Act a φ):=by
 unfold aj;rw[uK];exact zj λa c=>xW a (d a c) h
def two(a b:Int) (c:Nat):Row:=if c=0 then[a+b] else[a+b-c,(c:Int)]
theorem F9(h:a<2*b)(p q:Row)(e:Row->Nat) (d:Nn m):Act (p++a::b::q) e m=xr ((List.range (b.toNat+1)).filter (co b a)) λc=>Act (p++two a b c++q) e m:=by
 rw[Dv,uO,uO,tm];generalize hψ:Act p e=ψ;have f:∀m,Nn m->T b (T a ψ) m=xr (List.range (b.toNat+1)) λc=>(if co b a c=true then Act (two a b c) ψ else λ_=>0) m:=λm d=>by
  rw[PF m d ψ a b (b.toNat+1) (by lia) (by lia)];unfold cs;refine zj λc _=>?_
  by_cases z:co b a c=true
  ·rw[if_pos z,if_pos z];unfold two;by_cases z0:c=0
   ·subst z0;rw[if_pos rfl];show T 0 _ m=T (a+b) ψ m;rw[PM m d,show a+b-((0:Nat):Int)=a+b by lia]
   ·rw[if_neg z0]
    rfl
  ·rw[if_neg z,if_neg z]
 rw[Dw q f m d];refine zj λc _=>?_
 by_cases z:co b a c=true
 ·rw[if_pos z,if_pos z,Dv,Dv,hψ]
 ·rw[if_neg z,if_neg z,PZ]
def slow:Row->Option (Row×Int×Int×Row)
 |a::b::r=>if a<2*b then some ([],a,b,r) else(slow (b::r)).map λz=>(a::z.1,z.2)
 |_=>none
theorem xO:∀{r p q:Row}{a b:Int},slow r=some (p,a,b,q)->r=p++a::b::q/\a<2*b
 |[],_,_,_,_,h=>by cases h
 |[_],_,_,_,_,h=>by cases h
 |a::b::r,p,q,a',b',h=>by
  unfold slow at h;split at h
  ·rename_i c;cases h;exact⟨rfl,c⟩
  ·obtain⟨⟨g,z⟩,d,f⟩:=jE.mp h;cases f;obtain⟨e,l⟩:=xO d;exact⟨by rw[e];rfl,l⟩
def mI:Nat->Row->List Row
 |0,r=>[r]
 |n+1,r=>match slow r with
  |none=>[r]
  |some (p,a,b,q)=>((List.range (b.toNat+1)).filter (co b a)).flatMap λc=>mI n (p++two a b c++q)
theorem w6(d:Row->Nat) (f:Nn m):∀(n:Nat) (r:Row),Act r d m=xr (mI n r) λs=>Act s d m
 |0,r=>by
  show _=_^^^0;rw[jy]
 |n+1,r=>by
  unfold mI;split
  ·show _=_^^^0;rw[jy]
  ·rename_i p a b q h;obtain⟨e,l⟩:=xO h;rw[uK,e,F9 l p q d f];exact zj λc _=>w6 d f n _
def jO(a b:List Row):Bool:=(a++b).all λx=>Nat.beq ((a.count x+b.count x)%2) 0
theorem Ll(h:jO a b=true)(x:Row):a.count x%2=b.count x%2:=by
 by_cases c:x∈a++b
 ·have:=pN (dW.mp h x c);lia
 ·have d:x∉a:=λz=>c (dk.mpr (.inl z))
  have e:x∉b:=λz=>c (dk.mpr (.inr z))
  rw[kM.mpr d,kM.mpr e]
def jG(a:Row->Nat) (v:Nat):Nat:=xr (List.range 84) λi=>if v.testBit i=true then a (aY.getD i []) else 0
theorem Kp(a:Row->Nat)(v w:Nat):jG a (v^^^w)=jG a v^^^jG a w:=by
 unfold jG;rw[←lp];exact zj λi _=>by rw[Dg,ro]
theorem QG(a:Row->Nat):jG a 0=0:=by
 unfold jG;rw[show(λi=>if(0:Nat).testBit i=true then a (aY.getD i []) else 0)=λ_=>0 from funext λi=>by rw[ym];rfl,lu]
theorem rc{b:Type}(a:Row->Nat)(g:b->Nat):∀L:List b,jG a (xr L g)=xr L λc=>jG a (g c)
 |[]=>QG a
 |c::L=>by rw[io,Kp,rc a g L];rfl
theorem xP(a:Row->Nat)(v:Nat):xr (fH v) a=jG a v:=by
 unfold fH;refine(qM (b:=((List.range 84).filter λi=>v.testBit i).map λi=>aY.getD i []) λx=>by rw[(zo _).count_eq]).trans ?_;rw[qi,tm]
 rfl
theorem wg:∀(a:List Nat) (v:Nat),f7 a v=xr (List.range a.length) λi=>if v.testBit i=true then a.getD i 0 else 0
 |[],v=>rfl
 |t::a,v=>by
  rw[lz,dw,AR,wg a]
  congr 1
  ·by_cases c:v%2=1
   ·rw[if_pos c,if_pos (by rw[Nat.testBit_zero];exact cI c)]
    rfl
   ·rw[if_neg c,if_neg (by rw[Nat.testBit_zero];simpa using c)]
  ·exact zj λi _=>by rw[Nat.testBit_succ];rfl
def yQ(a i:Nat):Bool:=bif Nat.ble ((aY.getD i []).sum.toNat+a) 9 then jO (mI 40 ((a:Int)::aY.getD i [])) (((List.range 84).filter λj=>((gB.getD a []).getD i 0).testBit j).map λj=>aY.getD j [])&&(List.range 84).all (λj=>!((gB.getD a []).getD i 0).testBit j||decide ((aY.getD j []).sum=(aY.getD i []).sum+a)) else true
theorem MA:((List.range 9).all λa=>(List.range 84).all λi=>yQ (a+1) i)=true:=by decide +kernel
theorem Qr:(aY.all λr=>r.all λx=>decide (0<=x))=true:=by decide +kernel
theorem Jy:0<=(aY.getD i []).sum:=by
 by_cases c:i<aY.length
 ·rw[cJ,bV c];exact o4 λx a=>gR (dW.mp (dW.mp Qr _ (gf c)) x a)
 ·rw[cJ,oq (by lia)];exact x8 _
theorem nY:∀(r:Row),(∀x∈r,1<=x)->r.sum<=9->(∀i,i<84->(nu r).testBit i=true->(aY.getD i []).sum=r.sum)/\∀(d:Row->Nat) (m:Row),Nn m->Act r d m=jG (λs=>Act s d m) (nu r)
 |[],_,_=>by
  refine⟨λi b h=>?_,λd m o=>?_⟩
  ·have:i=0:=by
    have h:(2^0:Nat).testBit i=true:=h;rw[C2] at h;exact(gR h).symm
   subst this
   rfl
  ·show d m=jG _ 1;unfold jG;rw[uL (k:=0) (by lia) λc H=>if_neg (by rw[show(1:Nat)=2^0 from rfl,C2];simpa using fX H)]
   rfl
 |a::r,hp,hs=>by
  have Q:=hp a dB;have n:∀x∈r,1<=x:=λx t=>hp x (bU _ t)
  have P:0<=r.sum:=o4 λx t=>by have:=n x t;lia
  rw[fe] at hs;obtain⟨y,I⟩:=nY r n (by lia);obtain⟨a,rfl⟩:=lL (show 0<=a by lia);have e:nu ((a:Int)::r)=xr (List.range 84) λi=>if(nu r).testBit i=true then(gB.getD a []).getD i 0 else 0:=by
   show f7 (gB.getD (a:Int).toNat []) (nu r)=_;rw[wg,kL,qW (by lia) (by lia)]
  have f:∀i,i<84->(nu r).testBit i=true->jO (mI 40 ((a:Int)::aY.getD i [])) (((List.range 84).filter λj=>((gB.getD a []).getD i 0).testBit j).map λj=>aY.getD j [])=true/\∀j,j<84->((gB.getD a []).getD i 0).testBit j=true->(aY.getD j []).sum=(aY.getD i []).sum+a:=λi b g=>by
   have:=dW.mp (dW.mp MA (a-1) (bR.mpr (by lia))) i (bR.mpr b);rw[show a-1+1=a by lia] at this;unfold yQ at this;have J:=@Jy i;have A:=y i b g;rw[show Nat.ble ((aY.getD i []).sum.toNat+a) 9=true from C7 (by lia)] at this;obtain⟨v,G⟩:=Oy.mp this;refine⟨v,λj u p=>?_⟩;have:=dW.mp G j (bR.mpr u);rw[p] at this;exact gR (by simpa using this)
  refine⟨λj u g=>?_,λd m o=>?_⟩
  ·rw[e] at g;have:∃i,i<84/\(nu r).testBit i=true/\((gB.getD a []).getD i 0).testBit j=true:=by
    by_cases c:∃i,i<84/\(nu r).testBit i=true/\((gB.getD a []).getD i 0).testBit j=true
    ·exact c
    ·exfalso
     have none:∀l:List Nat,(∀i∈l,i<84)->(xr l λi=>if(nu r).testBit i=true then(gB.getD a []).getD i 0 else 0).testBit j=false:=λl=>by
      induction l with
      |nil=>intro _;exact ym j
      |cons i l ih=>
       intro C;rw[io,ro,ih λi b=>C i (bU _ b)];by_cases z:(nu r).testBit i=true
       ·rw[if_pos z];cases q:((gB.getD a []).getD i 0).testBit j with
        |false=>rfl
        |true=>exact absurd ⟨i,C i dB,z,q⟩ c
       ·rw[if_neg z,ym]
        rfl
     rw[none _ λi b=>bR.mp b] at g;cases g
   obtain⟨i,b,w,E⟩:=this;rw[(f i b w).2 j u E,y i b w,fe];lia
  ·rw[uO,I (T (a:Int) d) m o,e,rc];unfold jG;refine zj λi b=>?_
   have b:=bR.mp b;by_cases z:(nu r).testBit i=true
   ·rw[if_pos z];show Act ((a:Int)::aY.getD i []) d m=_;have v:=(f i b z).1;rw[w6 d o 40,qM (Ll v),qi,tm];simp only[z,gr]
   ·rw[if_neg z];simp only[z];exact(QG λs=>Act s d m).symm
structure fW (c:Int) (ks:List Row):Prop where
 pos:∀r∈ks,∀x∈r,1<=x
 sum:∀r∈ks,r.sum<=c
theorem fW.nn(h:fW c d):∀r∈d,∀x∈r,0<=x:=λr b x a=>by have:=h.pos r b x a;lia
theorem wh(a:List Row):cf a=xr a nu:=rfl
theorem Bv(h:r∈fH v):∃i,i<84/\v.testBit i=true/\r=aY.getD i []:=by
 unfold fH at h;obtain⟨i,b,rfl⟩:=bS.mp ((zo _).mem_iff.mp h);obtain⟨a,c⟩:=dH.mp b;exact⟨i,bR.mp a,c,rfl⟩
theorem Qq:∀x∈aY.getD i [],0<=x:=λx a=>by
 by_cases c:i<aY.length
 ·rw[cJ,bV c] at a;exact gR (dW.mp (dW.mp Qr _ (gf c)) x a)
 ·rw[cJ,oq (by lia)] at a;cases a
theorem Ic(v:Nat):∀r∈fH v,∀x∈r,0<=x:=λr a=>by
 obtain⟨i,_,_,rfl⟩:=Bv a;exact Qq
theorem Rq(h:fW 9 ks)(a:Row->Nat) (c:Nn m):xr (fH (cf ks)) (λr=>Act r a m)=xr ks λr=>Act r a m:=by
 rw[xP,wh,rc];exact zj λr b=>((nY r (h.pos r b) (h.sum r b)).2 a m c).symm
theorem Nd(f:∀r∈a,∀x∈r,0<=x)(g:∀r∈b,∀x∈r,0<=x)(d:∀p∈e,Nn p)(h:∀(c:Row->Nat) (m:Row),Nn m->xr a (λr=>Act r c m)=xr b λr=>Act r c m):aO (aj a e)=aO (aj b e):=by
 refine Rh λc=>?_
 rw[uJ f d,uJ g d];exact(l8 _ _ _).trans ((zj λm i=>h c m (d m i)).trans (l8 _ _ _).symm)
theorem qA(h:fW 9 ks)(c:∀p∈a,Nn p):aO (aj (fH (cf ks)) a)=aO (aj ks a):=Nd (Ic _) h.nn c λb m d=>Rq h b d
theorem MJ(h:∀i,i<84->(v^^^w).testBit i=false):fH v=fH w:=by
 unfold fH;rw[mj λi c=>?_];have:=h i (bR.mp c);rw[ro] at this;cases a:v.testBit i<;>cases b:w.testBit i<;>rw[a,b] at this<;>first|rfl|cases this
structure lh (m:Int) (lg c:Nat) (l:List Row):Prop where
 row:∀r∈l,bt r m lg
 nd:l.Nodup
 len:l.length<=c
theorem Rn{n:Nat}{A m L:Int}{lg c:Nat}(i:L=lg)(q:A=c)(b:lg<=100)(s:c<=60)(f:ck au n)(j:0<=m)(o:m<=900)(k:∀l a,lh m lg c l->bC au a n->Q (aK l) a):WP (nK [.ref n,.int A,.int m,.int L] au) Q:=by
 obtain⟨l,a,e,h,g,r,p,d⟩:=Um (A:=A) (m:=m) i b (by lia) (by lia) f j o;exact WP.of e (k l a ⟨h,g,by lia⟩ d)
theorem xQ:(aY.all λr=>Nat.ble r.length 6&&r.all λx=>decide (1<=x))=true/\Nat.ble ((List.range 84).filter λi=>decide ((aY.getD i []).sum<=9)).length 40=true:=by decide +kernel
theorem wy(h:i<84):(aY.getD i []).length<=6/\∀x∈aY.getD i [],1<=x:=by
 have c:i<aY.length:=by rw[pd];exact h
 have e:aY.getD i []=aY[i]:=by rw[cJ,bV c];rfl
 have:=dW.mp xQ.1 aY[i] (gf c);obtain⟨a,b⟩:=Oy.mp this;rw[e];exact⟨C6 a,λx d=>gR (dW.mp b x d)⟩
structure qb (c:Int) (l:List Row):Prop where
 len:l.length<=40
 short:∀r∈l,r.length<=6
 pos:∀r∈l,∀x∈r,1<=x
 nd:l.Nodup
 sum:∀r∈l,r.sum<=c
theorem oB(v:c<=9)(h:fW c ks):qb c (fH (cf ks)):=by
 have m:∀(l:List Row) (i:Nat),(cf l).testBit i=true->∃r∈l,(nu r).testBit i=true:=λl i=>by
  induction l with
  |nil=>intro z;rw[show cf []=0 from rfl,ym] at z;cases z
  |cons r l ih=>
   intro z;rw[show cf (r::l)=nu r^^^cf l from rfl,ro] at z;cases q:(nu r).testBit i with
   |true=>exact⟨r,dB,q⟩
   |false=>
    rw[q,Bool.false_xor] at z;obtain⟨o,d,k⟩:=ih z;exact⟨o,bU _ d,k⟩
 have g:∀i,i<84->(cf ks).testBit i=true->(aY.getD i []).sum<=c:=λi n j=>by
  obtain⟨r,f,j⟩:=m ks i j;have:=h.sum r f;rw[(nY r (h.pos r f) (by lia)).1 i n j];exact this
 refine⟨?_,λr f=>?_,λr f=>?_,?_,λr f=>?_⟩
 ·unfold fH;rw[(zo _).length_eq,bj];refine ay (yF (Oz _ rz) λi n=>?_) (C6 xQ.2);obtain⟨d,k⟩:=dH.mp n;exact dH.mpr ⟨d,cI (by have:=g i (bR.mp d) k;lia)⟩
 ·obtain⟨i,d,_,rfl⟩:=Bv f;exact(wy d).1
 ·obtain⟨i,d,_,rfl⟩:=Bv f;exact(wy d).2
 ·unfold fH;rw[(zo _).nodup_iff,yD];refine Oe.mpr (List.Pairwise.imp_of_mem (λ{a b} s j p e=>?_) (yD.mp (Oz _ rz)));have u:a<aY.length:=by rw[pd];exact bR.mp (dH.mp s).1
  have t:b<aY.length:=by rw[pd];exact bR.mp (dH.mp j).1
  rw[cJ,cJ,bV u,bV t] at e;exact p ((CO DN).mp e)
 ·obtain⟨i,d,k,rfl⟩:=Bv f;exact g i d k
def o8(m:Nat):Row:=List.replicate m 1++List.replicate (8-m) 0
theorem l4(m:Nat):Nn (o8 m):=λx hx=>by
 rcases dk.mp hx with hx|hx<;>rw[(List.mem_replicate.mp hx).2]<;>decide
def t8:List (Row×Nat):=[([1,1,1,1,1,1,1,1],1),([2,1,1,1,1,1,1,1],2),([2,2,1,1,1,1,1,1],4),([2,2,2,1,1,1,1,1],16),([2,2,2,2,1,1,1,1],64),([2,2,2,2,2,1,1,1],256),([2,2,2,2,2,2,1,1],2048),([2,2,2,2,2,2,2,1],32768),([2,2,2,2,2,2,2,2],524288),([4,1,1,1,1,1,1,1],24),([4,2,1,1,1,1,1,1],32),([4,2,2,1,1,1,1,1],384),([4,2,2,2,1,1,1,1],1024),([4,2,2,2,2,1,1,1],49152),([4,2,2,2,2,2,1,1],262144),([4,4,1,1,1,1,1,1],3584),([4,4,2,1,1,1,1,1],40960),([4,4,2,2,1,1,1,1],393216),([8,1,1,1,1,1,1,1],61440),([8,2,1,1,1,1,1,1],327680)]
theorem xG(a b:Nat):(a%2)^^^(b%2)=(a+b)%2:=by
 rcases mn a with e|e<;>rcases mn b with f|f<;>rw[e,f]
 ·show 0=_;lia
 ·show 1=_;lia
 ·show 1=_;lia
 ·show 0=_;lia
theorem QM(M:List Row):∀L:List Row,(xr M λy=>L.count y%2)=(dm L λq=>M.count q)%2
 |[]=>by
  rw[show(λy:Row=>([]:List Row).count y%2)=λ_=>0 from funext λy=>rfl,lu]
  rfl
 |q::L=>by
  have e:(λy:Row=>(q::L).count y%2)=λy=>(if y=q then 1 else 0)^^^(L.count y%2):=funext λy=>by
   rw[n8,yd,←xG]
   congr 1
   by_cases c:q=y
   ·rw[if_pos (by simpa using c),if_pos c.symm]
   ·rw[if_neg (by simpa using c),if_neg (fX c)]
  rw[e,lp,AO,QM M L,xG,iQ]
theorem Fn{L:List Row}(f:n≠0)(g:Rows n L)(b:0<=a) (e:Nn x):T a (λy=>L.count y%2) x=(kU a L).count x%2:=by
 rw[←vD b e,QM];unfold kU;rw[qx]
 congr 1
 refine Rv λq h=>?_
 have d:=g q h;have j:q≠[]:=λz=>by rw[z] at d;exact f d.1.symm
 by_cases c:q.length=x.length
 ·exact(Nz j c d.2 e b).symm
 ·have k:(cN a x).count q=0:=kM.mpr λz=>by
   rw[vd e b] at z;exact c ((UJ e q (dH.mp z).1).2)
  have i:(mG a q).count x=0:=kM.mpr λz=>by
   have:=(g.low f b x (fL.mpr ⟨q,h,z⟩)).1;exact c (d.1.trans this.symm)
  rw[k,i]
def zM(b:Row) (L:List Row):List Row:=b.foldl (λL a=>kU a L) L
theorem wN(d:n≠0):∀(b:Row) {L:List Row},(∀x∈b,0<=x)->Rows n L->∀{m:Row},Nn m->Act b (λy=>L.count y%2) m=(zM b L).count m%2
 |[],_,_,_,_,_=>rfl
 |a::b,L,hr,hL,m,c=>by
  have e:=hr a dB;rw[uO,MU (χ:=λy=>(kU a L).count y%2) (λm c=>Fn d hL e c) c,wN d b (λx f=>hr x (bU _ f)) (hL.low d e) c]
  rfl
def z8(j:Nat):List Row:=(t8.filter λq=>q.2.testBit j).map (·.1)
theorem F5:(t8.all λq=>decide (q.1.length=8)&&q.1.all λx=>decide (0<=x))=true:=by decide +kernel
theorem Fk:((List.range 20).all λi=>(List.range 20).all λj=>Nat.beq (xr (z8 j) λz=>(zM (aY.getD i []) [z]).count (o8 8)%2) (if i=j then 1 else 0))=true:=by decide +kernel
theorem Pf:((List.range 84).all λi=>Nat.ble i 19||decide (8<(aY.getD i []).sum))=true:=by decide +kernel
theorem PH(h:i<20)(c:j<20):(xr (z8 j) λz=>Act (aY.getD i []) (λy=>[z].count y%2) (o8 8))=if i=j then 1 else 0:=by
 have e:=pN (dW.mp (dW.mp Fk i (bR.mpr h)) j (bR.mpr c));rw[←e];refine zj λz d=>wN (n:=8) (by lia) _ Qq (λr f=>?_) (l4 8)
 rw[et.mp f];obtain⟨q,k,rfl⟩:=bS.mp d;have:=dW.mp F5 q (dH.mp k).1;obtain⟨a,b⟩:=Oy.mp this;exact⟨gR a,λx g=>gR (dW.mp b x g)⟩
theorem LV(h:fW 8 ks):∀i,i<84->(cf ks).testBit i=true->i<20:=λi c a=>by
 have f:∀l:List Row,(cf l).testBit i=true->∃r∈l,(nu r).testBit i=true:=λl=>by
  induction l with
  |nil=>intro z;rw[show cf []=0 from rfl,ym] at z;cases z
  |cons r l ih=>
   intro z;rw[show cf (r::l)=nu r^^^cf l from rfl,ro] at z;cases q:(nu r).testBit i with
   |true=>exact⟨r,dB,q⟩
   |false=>
    rw[q,Bool.false_xor] at z;obtain⟨d,g,e⟩:=ih z;exact⟨d,bU _ g,e⟩
 obtain⟨r,b,a⟩:=f ks a;have s:=(nY r (h.pos r b) (by have:=h.sum r b;lia)).1 i c a;have:=dW.mp Pf i (bR.mpr c);rcases Bool.or_eq_true_iff.mp this with z|z
 ·have:=C6 z;lia
 ·have:=gR z;have:=h.sum r b;lia
theorem pT(h:fW 8 ks)(e:aO (aj ks [o8 8])=[]):fH (cf ks)=[]:=by
 have t:fW 9 ks:=⟨h.pos,λr u=>by have:=h.sum r u;lia⟩
 have n:∀p∈[o8 8],Nn p:=λp C=>by rw[et.mp C];exact l4 8
 have x:∀a:Row->Nat,xr ks (λr=>Act r a (o8 8))=0:=λa=>by
  have:xr (aO (aj ks [o8 8])) a=0:=by rw[e];rfl
  rw[qL,uJ h.nn n] at this;rw[←this];exact zj λr _=>(jy _).symm
 have y:∀a:Row->Nat,jG (λr=>Act r a (o8 8)) (cf ks)=0:=λa=>by rw[←xP,Rq t a (l4 8),x]
 have d:=LV h;generalize cf ks=v at y d;have f:∀a:Row->Nat,(xr (List.range 20) λi=>if v.testBit i=true then Act (aY.getD i []) a (o8 8) else 0)=0:=λa=>by
  refine Eq.trans ?_ (y a);unfold jG;have o:List.range 84=List.range 20++(List.range 64).map (20+·):=by decide
  rw[o,u8,qi]
  rw[show(xr (List.range 64) λx=>if v.testBit (20+x)=true then Act (aY.getD (20+x) []) a (o8 8) else 0)=0 from by
   rw[zj (g:=λ_=>0) λx A=>if_neg λz=>?_,lu];have:=d (20+x) (by have:=bR.mp A;lia) z
   lia,jy]
 have none:∀j,j<20->v.testBit j=false:=λj m=>by
  have s:(xr (z8 j) λz=>xr (List.range 20) λi=>if v.testBit i=true then Act (aY.getD i []) (λy=>[z].count y%2) (o8 8) else 0)=0:=by
   rw[zj (g:=λ_=>0) λz _=>f _,lu]
  rw[l8,zj (g:=λi=>if i=j then(if v.testBit i=true then 1 else 0) else 0) λi l=>?_,uL (k:=j) m λc w=>if_neg w,if_pos rfl] at s
  ·cases q:v.testBit j with
   |false=>rfl
   |true=>rw[q] at s;cases s
  ·by_cases b:v.testBit i=true
   ·simp only[b,gr];exact PH (bR.mp l) m
   ·rw[show v.testBit i=false from by simpa using b];simp only[jk,gP,lu];split<;>rfl
 unfold fH;rw[yz.mpr λi l=>?_]
 ·rfl
 ·cases q:v.testBit i with
  |false=>exact pJ
  |true=>
   have:=none i (d i (bR.mp l) q);rw[q] at this;cases this
end Dd
namespace Dd
open L2
def SH:SS:=(aD (aF 3 (aG (aH (aA 1)) 1 [] (gN 0) (eB (aS lQ (aE cz (aB (aE pp (aB (aA 0) aC)) aC)) (eC (.int 0)))) (aA 0)))
 (dZ (eB (aS lQ (aE cz (aB (aA 3) aC)) (eC (.int 0)))) (aD (aF 4 (aS cn (aA 3) (aE zg (aB (aA 0) (aB (aE cz (aB (aA 3) aC)) aC)))))
 (aF 1 (aE Cm (aB (aA 1) (aB (aA 4) (aB (aS cn (aE pp (aB (aA 4) aC)) (aE zg (aB (aA 0) (aB (aE cz (aB (aE pp (aB (aA 4) aC)) aC)) aC)))) aC)))))) eD))
def zt:cX:=cC 5 2 (aD (cb (hU (aB (aE zg (aB (aA 0) (aB (eC (.int 4)) aC))) aC)) (gN 2) SH)
 (aV (aA 1)))
def qv:cX:=cC 1 1 (aV (aR (aB (aS aM (aS kh (aR (aB (eC (.int 1)) aC)) (aA 0)) (aS kh (aR (aB (eC (.int 0)) aC)) (aS ce (eC (.int 8)) (aA 0)))) aC)))
def tG:cX:=cC 1 1 (aV (iI (aS zF (aE cz (aB (aA 0) aC)) (eC (.int 6))) (aE (iJ true) (aB (aG (aH (aA 0)) 1 [] (gN 0) aI (aS zF (aE gn (aB (aA 0) aC)) (eC (.int 8)))) aC))))
def Cj:cX:=cC 2 2 (aD (dZ (oR (fU (cW (aE tG (aB (aA 0) aC)))) (fU (cW (aE tG (aB (aA 1) aC))))) fO eD)
 (aV (aE pf (aB (aE nB (aB (aA 0) (aB (aA 1) aC))) aC))))
def RB:SS:=(jI 3 (oI (λ_ _=>True) λi j=>.int (i+j)) (eC (.int 1)))
def nC:cX:=cC 4 2 (aD (aF 2 (aE Cj (aB (aA 0) (aB (aA 1) aC))))
 (aD (dZ (fU (cW (aA 2))) (aV (eC .non)) eD)
 (aD (aF 3 (eC (.int 0)))
 (aD (dE (fU (cW (aE (cY jW 8) (aB (aA 2) (aB (aE qv (aB (aA 3) aC)) aC))))) RB)
 (aV (aA 3))))))
end Dd
namespace Dd
open L2 K07 K23 K13
theorem rR{l:List (List Int)}(t:l.length<=1000)(o:∀r∈l,r.length<=1000)(a:DS)(j:Nat)(h:a[j]?=some (some (aK l))):
  aG (aH (aA j)) 1 [] (gN 0) (eB (aS lQ (aE cz (aB (aE pp (aB (aA 0) aC)) aC)) (eC (.int 0)))) (aA 0) a au=.ok (.lst (aJ (l.filter λr=>decide (0<(az r).length)))) au:=by
 have V:=nD (bd:=gN 0) (c:=eB (aS lQ (aE cz (aB (aE pp (aB (aA 0) aC)) aC)) (eC (.int 0)))) (f:=aA 0) (xs:=aJ l) (σ:=[none]) (au:=au)
  (λi acc b s=>s=au/\(∃v,b=[v])/\acc=aJ ((l.take i).filter λr=>decide (0<(az r).length))) ⟨rfl,⟨none,rfl⟩,rfl⟩ (by
   rintro i y acc b s g ⟨rfl,⟨v,rfl⟩,rfl⟩;obtain⟨r,d,rfl⟩:=j3 g;have n:=Fc (au:=s) (o r (ew d));have m:cz [.lst (kg (az r))] s=.ok (.int ((az r).length:Nat)) s:=by show bu.ok (D.int ((kg (az r)).length:Nat)) s=_;rw[bj]
   refine⟨[some (aL r)],decide (0<(az r).length),s,rfl,?_,?_⟩
   ·simp only[aL,kg] at *
    simp[n,m,-KN]
   ·rw[zf d,kN];by_cases c:0<(az r).length
    ·exact .inr ⟨cI c,aL r,s,rfl,rfl,⟨_,rfl⟩,by simp[aJ,c]⟩
    ·exact .inl ⟨cO c,rfl,⟨_,rfl⟩,by simp[aJ,c]⟩)
 obtain⟨q,p,st',e,rfl,_,rfl⟩:=V;rw[zc,dU] at e;have k:aH (aA j) a st'=.ok (aJ l) st':=by simp[h]
 rw[mT,k,zq,if_pos (by rw[zc];exact small _ (by lia))];show((bm _ _ _ _ [none] _).bind _)=_;rw[e]
 rfl
theorem T8(m8:m<=8)(hb:ck au n)(h:lh m 5 6 l)(k:∀a s,lh m 5 30 a->bC au s n->Q (aK a) s):WP (zt [.ref n,aK l] au) Q:=by
 refine gO rfl ?_;simp only[W,V];refine ls hb (by lia) (by lia) λc s1 c1 c2 d1=>?_
 refine⟨c,rfl,iy (by lia) (by lia),?_⟩;refine iW (λi C s=>∃(a:List Row) (A q j:Option D),C=[some (.ref n),some (aK a),A,q,j]/\lh m 5 (6+6*i) a/\bC au s n) ⟨l,_,_,_,rfl,h,d1⟩ ?_ ?_
 ·rintro i x C s hx ⟨a,A,q,j,rfl,G,o⟩;obtain⟨hi,rfl⟩:=uG hx;refine⟨[some (.ref n),some (aK a),some (.int (0+i)),q,j],rfl,?_⟩;have a3:i<4:=by lia
  have gl:=G.len;unfold SH;refine gu (R:=λP J=>P=.nx [some (.ref n),some (aK a),some (.int (0+i)),some (.lst (aJ (a.filter λr=>decide (0<(az r).length)))),j]/\J=s) ?_ ?_
  ·have e:=rR (au:=s) (l:=a) (by lia) (λr f=>by have:=(G.row r f).len;lia) [some (.ref n),some (aK a),some (.int (0+i)),q,j] 1 rfl;show WP (aF 3 _ _ _) _;rw[rb,e];exact⟨rfl,rfl⟩
  rintro P J ⟨rfl,rfl⟩;show WP _ _;generalize hS:(a.filter λr=>decide (0<(az r).length))=X;have v:∀r∈X,r∈a/\0<(az r).length:=λr f=>by
   rw[←hS,dH] at f;exact⟨f.1,gR f.2⟩
  have a2:X.length<=1000:=by
   have:=pP (λr=>decide (0<(az r).length)) a;rw[hS] at this;lia
  simp only[W,V,M,L];refine⟨trivial,?_⟩;split
  ·rename_i H;rw[zc] at H;rw[zc];refine ls o.bag (by lia) (by lia) λt w t0 t1 d2=>?_
   have U:=o.trans d2;refine xI t0 (by rw[zc];exact t1) λd E=>?_
   obtain⟨r,f,rfl⟩:=bS.mp E;obtain⟨I,a1⟩:=v r f;have b:=G.row r I;have rl:=b.len;refine WP.of (Fc (by lia)) (WP.of (Fc (by lia)) ?_);refine WP.of (show cz [.lst (kg (az r))] w=.ok (.int ((az r).length:Nat)) w from by show bu.ok (D.int ((kg (az r)).length:Nat)) w=_;rw[bj]) ?_;have a0:(az r).length<=6:=by
    unfold az;have:=pP (λp=>decide (aX r p)) (List.range (r.length-1));rw[pH] at this;lia
   refine ls U.bag (by lia) (by lia) λu s3 u0 u1 d3=>?_
   have Y:=U.trans d3;refine xI u0 (by rw[bj];exact u1) λd E=>?_
   obtain⟨p,hp,rfl⟩:=bS.mp E;have y:=B7.mp hp;have S:=D4 b y;obtain⟨g,e⟩:=Vp (au:=s3) (ks:=a) (r:=r) (p:=p) (by lia) (by lia) y S.1.1 (by lia) S.2.1 (by lia);refine WP.of e ⟨_,_,_,_,rfl,⟨λz hz=>?_,pj _,?_⟩,Y.trans (.more Y.bag g)⟩
   ·rcases dk.mp (nH hz) with hz|hz
    ·exact G.row z hz
    ·rcases ca.mp hz with rfl|hz
     ·exact b
     ·exact BS b y z hz
   ·have h2:=Cd (a++(r::ax r p));have h3:=Cf r p;rw[cQ,dw] at h2;lia
  ·exact⟨a,_,_,_,rfl,⟨G.row,G.nd,by lia⟩,o⟩
 ·rintro C s ⟨a,A,q,j,rfl,G,o⟩;rw[j5] at G;simp only[W,V];exact k a s ⟨G.row,G.nd,by have:=G.len;lia⟩ o
theorem Mz(d:ck au n)(f:0<=m)(g:m<=900)(k:∀r s,bt r m 5->bC au s n->Q (aL r) s):WP (nI [.ref n,.int m,.int 5] au) Q:=by
 obtain⟨r,c,e,a,b⟩:=RN (m:=m) (L:=5) (lg:=5) rfl (by lia) d f g;exact WP.of e (k r c a b)
theorem mH{N:Int}(a:0<=N)(b:N<4)(q:∀z,z=x\/z=y->Q (.int z) au):WP (cn (.lst [.int x,.int x,.int x,.int y]) (.int N) au) Q:=by
 have:N=0\/N=1\/N=2\/N=3:=by lia
 rcases this with rfl|rfl|rfl|rfl
 ·exact iZ (d:=.int x) rfl rfl (q _ (.inl rfl))
 ·exact iZ (d:=.int x) rfl rfl (q _ (.inl rfl))
 ·exact iZ (d:=.int x) rfl rfl (q _ (.inl rfl))
 ·exact iZ (d:=.int y) rfl rfl (q _ (.inr rfl))
theorem MP{T:SS}(E:T=(aD (aF 3 (aE nK (aB (aA 0) (aB (aA 2) (aB (aA 1) (aB (eC (.int 5)) aC))))))
  (aD (aF 4 (aE zg (aB (aA 0) (aB (eC (.int 3)) aC))))
  (aD (dZ (eB (aS fJ (aA 4) (eC (.int 0)))) (aV (aR (aB (aA 3) (aB (aE nK (aB (aA 0) (aB (aA 2) (aB (aA 1) (aB (eC (.int 5)) aC))))) aC)))) eD)
  (aD (aF 5 (aE zt (aB (aA 0) (aB (aA 3) aC))))
  (aD (dZ (eB (aS fJ (aA 4) (eC (.int 1)))) (aF 5 (aE j4 (aB (aS aM (aE eW (aB (aA 5) aC)) (dO (aB (aE nI (aB (aA 0) (aB (aA 1) (aB (eC (.int 5)) aC)))) aC))) aC))) eD)
  (aD (dZ (eB (aS lQ (aE cz (aB (aA 5) aC)) (eC (.int 6)))) (aF 5 (aA 3)) eD)
  (aV (aR (aB (aA 3) (aB (aA 5) aC)))))))))))
     (t:ck f n)(w:0<=m)(C:m<=8)(A:c=3\/c=6)(k:∀ b a s,lh m 5 6 b->lh m 5 6 a->bC f s n->Q (.tup [aK b,aK a]) s):WP (T [some (.ref n),some (.int m),some (.int c),none,none,none] f) (kR Q):=by
  subst E;have q:∀{f:ab}{Q:D->ab->Prop},ck f n->(∀ l s,lh m 5 6 l->bC f s n->Q (aK l) s)->WP (nK [.ref n,.int c,.int m,.int 5] f) Q:=λ{f Q} t k=>by
    rcases A with rfl|rfl
    · exact Rn (lg:=5) (c:=3) rfl rfl (by lia) (by lia) t w (by lia) λl s h i=>k l s ⟨h.row,h.nd,by have:=h.len; lia⟩ i
    · exact Rn (lg:=5) (c:=6) rfl rfl (by lia) (by lia) t w (by lia) k
  refine gu (R:=λe s=>∃ b,e=.nx [some (.ref n),some (.int m),some (.int c),some (aK b),none,none]/\lh m 5 6 b/\bC f s n) ?_ ?_
  · simp only[W,V]
    exact q t λl s h i=>⟨l,rfl,h,i⟩
  rintro e s ⟨b,rfl,u,y⟩;show WP _ _;refine gu (R:=λe s=>∃ j:Int,e=.nx [some (.ref n),some (.int m),some (.int c),some (aK b),some (.int j),none]/\bC f s n) ?_ ?_
  · simp only[W,V]
    exact ls y.bag (by lia) (by lia) λj s _ _ d=>⟨j,rfl,y.trans d⟩
  rintro e s ⟨j,rfl,v⟩;show WP _ _;by_cases j0:j=0
  · subst j0
    simp only[W,V];exact q v.bag λl s h i=>⟨small _ (by simp),k b l s u h (v.trans i)⟩
  refine gu (R:=λe x=>e=.nx [some (.ref n),some (.int m),some (.int c),some (aK b),some (.int j),none]/\x=s) ?_ ?_
  · simp only[W,V]
    rw[if_neg (by simpa using j0)];exact⟨trivial,trivial⟩
  rintro e x ⟨rfl,rfl⟩;show WP _ _;refine gu (R:=λe s=>∃ a,e=.nx [some (.ref n),some (.int m),some (.int c),some (aK b),some (.int j),some (aK a)]/\lh m 5 30 a/\bC f s n) ?_ ?_
  · simp only[W,V]
    exact T8 C v.bag u λl s h i=>⟨l,rfl,h,v.trans i⟩
  rintro e s ⟨a,rfl,o,p⟩;show WP _ _;refine gu (R:=λe s=>∃ a,e=.nx [some (.ref n),some (.int m),some (.int c),some (aK b),some (.int j),some (aK a)]/\lh m 5 31 a/\bC f s n) ?_ ?_
  · simp only[W,V]
    by_cases j1:j=1
    · rw[if_pos (by simpa using j1)]
      refine Mz p.bag w (by lia) λr s h i=>⟨small _ (by simp),?_⟩
      have G:=o.len;refine WP.of (show aM (D.lst (aJ a)) (D.lst [aL r]) s=.ok (.lst (aJ (a++[r]))) s from ?_) ?_
      · show(if(aJ a).length + [aL r].length<=sizeLine then bu.ok (D.lst (aJ a++[aL r])) s else .stuck)=_
        rw[if_pos (small _ (by rw[zc]; simp; lia))];simp[aJ]
      refine xC (l:=a++[r]) rfl (by simp; lia) λg=>⟨_,rfl,⟨λz hz=>?_,pj _,?_⟩,(p.trans i).trans (.more i.bag g)⟩
      · rcases dk.mp (nH hz) with hz|hz
        · exact o.row z hz
        · rw[et.mp hz]
          exact h
      · have:=Cd (a++[r])
        rw[cQ,ot] at this;lia
    · rw[if_neg (by simpa using j1)]
      exact⟨a,rfl,⟨o.row,o.nd,by have:=o.len; lia⟩,p⟩
  rintro e s ⟨a,rfl,o,p⟩;show WP _ _;refine gu (R:=λe s=>∃ a,e=.nx [some (.ref n),some (.int m),some (.int c),some (aK b),some (.int j),some (aK a)]/\lh m 5 6 a/\bC f s n) ?_ ?_
  · simp only[W,V,M]
    refine⟨trivial,?_⟩;rw[zc];split
    · exact⟨b,rfl,u,p⟩
    · exact⟨a,rfl,⟨o.row,o.nd,by lia⟩,p⟩
  rintro e s ⟨a,rfl,o,p⟩;simp only[W,V];exact⟨small _ (by simp),k b a s u o p⟩
theorem Hh(h:m<9):(o8 m).length=8:=by
 unfold o8;rw[cQ,rH,rH];lia
theorem zH(h:m<9):m=0\/m=1\/m=2\/m=3\/m=4\/m=5\/m=6\/m=7\/m=8:=by lia
theorem Hi(h:m<9):(o8 m).sum<=8:=by
 rcases zH h with rfl|rfl|rfl|rfl|rfl|rfl|rfl|rfl|rfl<;>decide
theorem DR{m:Nat}(h:m<9):qv [.int (m:Int)] au=.ok (aK [o8 m]) au:=by
 rcases zH h with rfl|rfl|rfl|rfl|rfl|rfl|rfl|rfl|rfl<;>rfl
theorem JF(h:m<9):Rows 8 [o8 m]:=λr a=>by
 rw[et.mp a];exact⟨Hh h,l4 m⟩
theorem Pi(h:m<9):KX 8 8 [o8 m]:=⟨JF h,.inr ⟨by lia,by lia,by simp,λp a=>by
 rw[et.mp a];have:=Hi h
 lia⟩⟩
theorem Iq:aO (A++B)=[]↔aO A=aO B:=by
 refine⟨λe=>B9 λy=>?_,λe=>OT.mpr λy a=>?_⟩
 ·have:=qy (A++B) y;rw[e,lG] at this;simp at this;lia
 ·have:=Qt.mp a;have b:=qy A y;have c:=qy B y;rw[e] at b;rw[lG] at this;lia
theorem LY(h:∀r∈l,∀x∈r,0<=x)(b:∀p∈a,Nn p):aO (aj (aO l) a)=aO (aj l a):=Rh λd=>by
 rw[uJ (λr c=>h r (nH c)) b,uJ h b,qL]
structure gd (l:List Row):Prop where
 row:∀r∈l,bt r 8 5
 nd:l.Nodup
 len:l.length<=6
theorem lh.hld(h:lh m 5 6 l)(b:m<=8):gd l:=⟨λr a=>⟨(h.row r a).pos,by have:=(h.row r a).sum;lia,(h.row r a).len⟩,h.nd,h.len⟩
theorem gd.few(h:gd l):fW 8 l:=⟨λr a=>(h.row r a).pos,λr a=>(h.row r a).sum⟩
theorem uP(c:gd b)(d:gd a):fW 8 (aO (b++a))/\cp (aO (b++a)):=by
 have:∀r∈aO (b++a),bt r 8 5:=λr hr=>by
  rcases dk.mp (nH hr) with hr|hr
  ·exact c.row r hr
  ·exact d.row r hr
 exact⟨⟨λr hr=>(this r hr).pos,λr hr=>(this r hr).sum⟩,pj _,λr hr=>⟨(this r hr).pos,by have:=(this r hr).sum;lia,by have:=(this r hr).len;lia⟩⟩
def nq(b a:List Row):List Row:=fH (cf (aO (b++a)))
theorem El(a:gd one)(c:gd other)(b:∀p∈S0,Nn p):aO (aj (nq one other) S0)=[]↔aO (aj one S0)=aO (aj other S0):=by
 have f:=(uP a c).1;unfold nq;rw[qA ⟨f.pos,λr hr=>by have:=f.sum r hr;lia⟩ b,LY (λr hr=>?_) b]
 ·unfold aj;rw[List.flatMap_append];exact Iq
 ·rcases dk.mp hr with hr|hr
  ·exact a.few.nn r hr
  ·exact c.few.nn r hr
def ja(b a:List Row):Option Nat:=(List.range 9).find? λm=>!decide (aO (aj b [o8 m])=aO (aj a [o8 m]))
noncomputable def r6:Option Nat->D
 |none=>.non
 |some m=>.int (m:Int)
theorem jv(m:Nat):∀p∈[o8 m],Nn p:=λp a=>by rw[et.mp a];exact l4 m
theorem Lh(a:gd one)(b:gd other)(e:nq one other=[]):ja one other=none:=by
 unfold ja;rw[tV];intro m _;have:=(El a b (jv m)).mp (by rw[e];rfl);simp[this]
theorem Li(c:m<9)(h:aO (aj one [o8 m])≠aO (aj other [o8 m]))(a:∀i,i<m->aO (aj one [o8 i])=aO (aj other [o8 i])):ja one other=some m:=by
 unfold ja;rw[List.find?_range_eq_some];refine⟨by simpa using h,bR.mpr c,λj b=>?_⟩;simp[a j b]
theorem vN(h:gd l):tG [aK l] au=.ok (.bl true) au:=by
 have a:WP (tG [aK l] au) (λv s=>v=.bl true/\s=au):=by
  refine gO rfl ?_;simp only[W,V,M];have d:=h.len;refine⟨trivial,?_⟩;rw[if_pos (by rw[zc];lia)];refine⟨_,rfl,by rw[zc];exact small _ (by lia),?_⟩;refine AN (λc=>∃v,c=[v]) (λ_=>true) (λr:Row=>.bl (decide (r.sum<=8))) aL ⟨_,rfl⟩ (λr b c ⟨v,e⟩=>?_) ?_
  ·subst e;refine⟨_,rfl,⟨_,rfl⟩,?_,λ_=>?_⟩
   ·simp only[W,V];exact⟨trivial,trivial⟩
   ·simp only[W,V,M];refine⟨_,qw r,?_⟩;simp
  ·refine⟨_,(by exact R4 _ _),?_⟩;simp;exact λr b=>(h.row r b).sum
 obtain⟨v,s,e,rfl,rfl⟩:=a.get;exact e
theorem Jo(a:gd one)(b:gd other)(k:∀g,Q (aK (nq one other)) (au++g)):WP (Cj [aK one,aK other] au) Q:=by
 refine gO rfl ?_;simp only[W,V];refine WP.of (vN a) ⟨true,rfl,?_⟩;rw[if_neg (by decide)];refine WP.of (vN b) ⟨true,rfl,?_⟩;rw[if_neg (by decide)];refine KC (by have:=a.len;have:=b.len;lia) λg=>?_
 refine tw (uP a b).2 λc=>?_
 rw[ff];exact k _
theorem Qi(o:gd one)(h:gd other)(k:∀g,Q (r6 (ja one other)) (au++g)):WP (nC [aK one,aK other] au) Q:=by
 refine gO rfl ?_;refine gu (R:=λd s=>∃g,d=.nx [some (aK one),some (aK other),some (aK (nq one other)),none]/\s=au++g) ?_ ?_
 ·simp only[W,V];exact Jo o h λg=>⟨g,rfl,rfl⟩
 rintro d s ⟨g,rfl,rfl⟩;show WP _ _;have ld:=λm=>El (S0:=[o8 m]) o h (jv m)
 have b:qb 8 (nq one other):=oB (by lia) (uP o h).1;have t8:aO (aj (nq one other) [o8 8])=[]->nq one other=[]:=λe=>by
  have f:=(uP o h).1;refine pT f ?_;rw[←qA ⟨f.pos,λr n=>by have:=f.sum r n;lia⟩ (jv 8)];exact e
 have y:=λe=>Lh o h e
 generalize nq one other=l at ld b t8 y;by_cases c:l=[]
 ·subst c;rw[y rfl] at k;simp only[W,V];exact⟨_,rfl,k g⟩
 have p:(!l.isEmpty)=true:=by cases l with
  |nil=>exact absurd rfl c
  |cons a t=>rfl
 refine gu (R:=λd s=>d=.nx [some (aK one),some (aK other),some (aK l),none]/\s=au++g) ?_ ?_
 ·simp only[W,V];refine⟨_,Bw _ _,?_⟩;rw[p];exact⟨trivial,trivial⟩
 rintro d s ⟨rfl,rfl⟩;show WP _ _;simp only[W,V];refine EC (λj w s=>∃(m:Nat) (g:ab),j=8-m/\m<9/\w=[some (aK one),some (aK other),some (aK l),some (.int (m:Int))]/\s=au++g/\∀i,i<m->aO (aj l [o8 i])=[]) (k:=8) ⟨0,g,rfl,by lia,rfl,rfl,λi q=>by lia⟩ (by lia) ?_;rintro j w s ⟨m,g,rfl,u,rfl,rfl,v⟩;simp only[W,V];refine WP.of (DR u) ?_;refine P9 (Pi u) (by lia) (.inl rfl) b.nd (by have:=b.len;lia) (λr n=>by have:=b.short r n;lia) ⟨b.pos,λr n=>by have:=b.sum r n;lia⟩ ?_ λA=>?_
 ·exact .cons (λx C=>by cases C) .nil
 refine⟨_,Bw _ _,?_⟩;by_cases e:aO (aj l [o8 m])=[]
 ·rw[e];have:m≠8:=λz=>c (t8 (by rw[←z];exact e))
  unfold RB;rw[if_pos (show(!([]:List Row).isEmpty)=false from rfl)];simp only[W,V,M,Dd.N,L];refine⟨_,rfl,8-(m+1),by lia,m+1,g++A,rfl,by lia,rfl,by simp,λi q=>?_⟩;by_cases z:i=m
  ·rw[z];exact e
  ·exact v i (by lia)
 ·have p:(!(aO (aj l [o8 m])).isEmpty)=true:=by
   cases z:aO (aj l [o8 m]) with
   |nil=>exact absurd z e
   |cons a t=>rfl
  rw[p,if_neg (by decide)];rw[Li u (λz=>e ((ld m).mpr z)) λi q=>(ld i).mp (v i q)] at k;rw[ff];exact k _
end Dd
namespace Dd
open L2
def BZ:cX:=cC 6 2 (aD (aF 2 (aS cn (dO (aB (eC (.int 3)) (aB (eC (.int 3)) (aB (eC (.int 3)) (aB (eC (.int 6)) aC))))) (aE zg (aB (aA 0) (aB (eC (.int 4)) aC)))))
 (aD (dZ (eB (aS fJ (aA 2) (eC (.int 6)))) (aF 1 (aE gH (aB (aA 1) (aB (aS cn (dO (aB (eC (.int 5)) (aB (eC (.int 5)) (aB (eC (.int 5)) (aB (eC (.int 7)) aC))))) (aE zg (aB (aA 0) (aB (eC (.int 4)) aC)))) aC)))) eD)
 (aD (aF 3 (aE nK (aB (aA 0) (aB (aA 2) (aB (aA 1) (aB (eC (.int 5)) aC))))))
 (aD (aF 4 (aE zg (aB (aA 0) (aB (eC (.int 3)) aC))))
 (aD (dZ (eB (aS fJ (aA 4) (eC (.int 0)))) (aV (aR (aB (aA 3) (aB (aE nK (aB (aA 0) (aB (aA 2) (aB (aA 1) (aB (eC (.int 5)) aC))))) aC)))) eD)
 (aD (aF 5 (aE zt (aB (aA 0) (aB (aA 3) aC))))
 (aD (dZ (eB (aS fJ (aA 4) (eC (.int 1)))) (aF 5 (aE j4 (aB (aS aM (aE eW (aB (aA 5) aC)) (dO (aB (aE nI (aB (aA 0) (aB (aA 1) (aB (eC (.int 5)) aC)))) aC))) aC))) eD)
 (aD (dZ (eB (aS lQ (aE cz (aB (aA 5) aC)) (eC (.int 6)))) (aF 5 (aA 3)) eD)
 (aV (aR (aB (aA 3) (aB (aA 5) aC))))))))))))
def ul:cX:=cC 3 2 (aD (aF 2 (aE nC (aB (aA 0) (aB (aA 1) aC))))
 (aD (dZ (eB (aS (iA false) (aA 2) (eC .non))) (aV (aR (aB (eC (.str "same")) (aB (aA 0) (aB (aA 1) aC))))) eD)
 (aV (aR (aB (eC (.str "apart")) (aB (aA 0) (aB (aA 1) (aB (aA 2) aC))))))))
def PV:SS:=(dZ (eB (aS p4 (aE sX (aB (aA 7) (aB (aE kz (aB (aA 7) aC)) aC))) (aE pf (aB (aA 7) aC)))) (aV (eC (.bl false))) eD)
def PX:SS:=(dZ (eB (aS fJ (aE (cY jW 8) (aB (aA 3) (aB (aE qv (aB (aA 8) aC)) aC))) (aE (cY jW 8) (aB (aA 4) (aB (aE qv (aB (aA 8) aC)) aC))))) (aV (eC (.bl false))) eD)
def PY:SS:=(aD (aF 2 (aE uZ (aB (aA 0) (aB (aA 1) aC))))
 (aD (i4 (gT 2 (bv (gN 3) (bv (gN 4) eo))) (aE BZ (aB (aA 2) (aB (eC (.int 6)) aC))))
 (aD (aF 5 (aE BO (aB (aA 2) (aB (aS aM (eC (.int 1)) (aE zg (aB (aA 2) (aB (eC (.int 3)) aC)))) (aB (eC (.int 3)) (aB (eC (.int 10)) aC))))))
 (aD (aF 6 (aE ul (aB (aA 3) (aB (aA 4) aC))))
 (aD (dZ (oR (eB (aS p4 (aS fJ (aS cn (aA 6) (eC (.int 0))) (eC (.str "same"))) (aS fJ (aE pf (aB (aA 3) aC)) (aE pf (aB (aA 4) aC))))) (eB (aS fJ (aS fJ (aS cn (aA 6) (eC (.int 0))) (eC (.str "same"))) (aS fJ (aS cn (aA 6) (eC (.int 0))) (eC (.str "apart")))))) (aV (eC (.bl false))) eD)
 (aD (cb (aH (dO (aB (aA 3) (aB (aA 4) aC)))) (gN 7) PV)
 (dZ (eB (aS fJ (aS cn (aA 6) (eC (.int 0))) (eC (.str "same")))) (dZ (oR (eB (aS p4 (aE (cY jW 8) (aB (aA 3) (aB (aA 5) aC))) (aE (cY jW 8) (aB (aA 4) (aB (aA 5) aC))))) (eB (aS (iA true) (aE nC (aB (aA 3) (aB (aA 4) aC))) (eC .non)))) (aV (eC (.bl false))) eD) (cb (aH (dO (aB (aS cn (aA 6) (eC (.int 3))) (aB (aE nC (aB (aA 3) (aB (aA 4) aC))) aC)))) (gN 8) PX))))))))
def qB:cX:=cC 9 1 (aD (cb (hU (aB (aS aM (aE AA (aB (eC (.int 1)) (aB (aE gH (aB (aE cz (aB (aA 0) aC)) (aB (eC (.int 3)) aC))) aC))) (eC (.int 1))) aC)) (gN 1) PY)
 (aV (eC (.bl true))))
end Dd
namespace Dd
open L2 K07 K23 K13
theorem MO(q:ck au n)(k:∀b a s,gd b->gd a->bC au s n->Q (.tup [aK b,aK a]) s):WP (BZ [.ref n,.int 6] au) Q:=by
 refine gO rfl ?_;refine gu (R:=λe s=>∃c:Int,e=.nx [some (.ref n),some (.int 6),some (.int c),none,none,none]/\(c=3\/c=6)/\bC au s n) ?_ ?_
 ·simp only[W,V];refine⟨small _ (by simp),ls q (by lia) (by lia) λj s h i d=>mH h i λz p=>⟨z,rfl,p,d⟩⟩
 rintro e s ⟨c,rfl,t,l⟩;show WP _ _;refine gu (R:=λe o=>∃f:Int,e=.nx [some (.ref n),some (.int f),some (.int c),none,none,none]/\(0<=f/\f<=8)/\bC au o n) ?_ ?_
 ·simp only[W,V];split
  ·refine⟨small _ (by simp),ls l.bag (by lia) (by lia) λj v h i d=>mH h i λz p=>⟨_,rfl,by dsimp only;split<;>lia,l.trans d⟩⟩
  ·exact⟨_,rfl,by lia,l⟩
 rintro e o ⟨f,rfl,g,m⟩;exact MP rfl m.bag g.1 g.2 t λb a s u r d=>k b a s (u.hld g.2) (r.hld g.2) (m.trans d)
theorem Kq(h:fH v=[]) (a:i<84):v.testBit i=false:=by
 unfold fH at h;have:=(zo (((List.range 84).filter λi=>v.testBit i).map λi=>aY.getD i [])).length_eq;rw[h,bj] at this;have:=yB.mp this.symm;have:=yz.mp this i (bR.mpr a)
 simpa using this
theorem MC(c:gd one)(b:gd other):fH (cf one)=fH (cf other)↔ja one other=none:=by
 have h:fW 9 one:=⟨c.few.pos,λr a=>by have:=c.few.sum r a;lia⟩
 have g:fW 9 other:=⟨b.few.pos,λr a=>by have:=b.few.sum r a;lia⟩
 refine⟨λe=>?_,λe=>?_⟩
 ·unfold ja;rw[tV];intro m _;have:aO (aj one [o8 m])=aO (aj other [o8 m]):=by rw[←qA h (jv m),e,qA g (jv m)]
  simp[this]
 ·unfold ja at e;rw[tV] at e;have d:=e 8 (by decide);have d:aO (aj one [o8 8])=aO (aj other [o8 8]):=by simpa using d
  have z:=(El c b (jv 8)).mpr d;have f:=(uP c b).1;unfold nq at z;rw[qA ⟨f.pos,λr a=>by have:=f.sum r a;lia⟩ (jv 8)] at z;have t:=pT f z;refine MJ λi j=>?_
  have:=Kq t j;rw[wh,qL,u8] at this;exact this
theorem GP(h:ja one other=some m):m<9/\aO (aj one [o8 m])≠aO (aj other [o8 m]):=by
 unfold ja at h;exact⟨bR.mp (Df h),by simpa using CH h⟩
theorem kc(c:(PyData.str a).canLay0=true)(f:(PyData.str b).canLay0=true)(e:PyData.eqv (.str a) (.str b)=t):eO false (.str a) (.str b) au=.ok (.bl t) au:=by
 obtain⟨g,_⟩:=Sh.ok (d:=.str a) (p:=.str a) rfl c (gX _);obtain⟨h,_⟩:=Sh.ok (d:=.str b) (p:=.str b) rfl f (gX _);unfold eO dataOf;rw[show now au (.str a)=.str a from rfl,show now au (.str b)=.str b from rfl,show cK (.str a)=some (.str a) from rfl,show cK (.str b)=some (.str b) from rfl];dsimp only;rw[if_pos ⟨g,h⟩,e]
 rfl
def nr(b a:List Row):Option Nat->D
 |none=>.tup [.str "same",aK b,aK a]
 |some m=>.tup [.str "apart",aK b,aK a,.int (m:Int)]
theorem Jb(b:gd one)(c:gd other)(k:∀g,Q (nr one other (ja one other)) (au++g)):WP (ul [aK one,aK other] au) Q:=by
 refine gO rfl ?_;refine gu (R:=λa s=>∃g,a=.nx [some (aK one),some (aK other),some (r6 (ja one other))]/\s=au++g) ?_ ?_
 ·simp only[W,V];exact Qi b c λg=>⟨g,rfl,rfl⟩
 rintro a s ⟨g,rfl,rfl⟩;generalize ja one other=du at k;cases du with
 |none=>
  simp only[W,V,r6];refine WP.of (show iA false D.non D.non (au++g)=.ok (.bl true) (au++g) from rfl) ?_;simp only[W,V,gr];exact⟨small _ (by simp),k g⟩
 |some m=>
  simp only[W,V,r6];refine WP.of (show iA false (D.int (m:Int)) D.non (au++g)=.ok (.bl false) (au++g) from rfl) ?_;simp only[W,V];exact⟨small _ (by simp),k g⟩
theorem Np(u:List Int)(hl:u.length<=63):∃st',qB [.scr (u.map .int)] []=.ok (.bl true) st':=by
 have a4:WP (qB [.scr (u.map .int)] []) (λv _=>v=.bl true):=by
  refine gO rfl ?_;simp only[W,V];have a0:((u.map D.int).length:Int)<=63:=by rw[bj];lia
  have a5:(0:Int)<=((u.map D.int).length:Int):=by lia
  generalize ((u.map D.int).length:Int)=len at a0 a5;refine⟨_,rfl,iy (by split<;>split<;>lia) (by split<;>split<;>lia),?_⟩;refine iW (λi G s=>∃v1 v2 v3 v4 X U t A:Option D,G=[some (.scr (u.map .int)),v1,v2,v3,v4,X,U,t,A]) ⟨_,_,_,_,_,_,_,_,rfl⟩ ?_ ?_
  ·rintro i x G s0 hx ⟨v1,v2,v3,v4,X,U,t,A,rfl⟩;obtain⟨hi,rfl⟩:=uG hx;have a6:i<=100:=by split at hi<;>(try split at hi)<;>lia
   refine⟨_,rfl,?_⟩;unfold PY;refine gu (R:=λo s=>o=.nx [some (.scr (u.map .int)),some (.int i),some (.ref s0.length),v3,v4,X,U,t,A]/\ck s s0.length) ?_ ?_
   ·simp only[W,V];rw[n5];exact Gf hl (by lia) λg S=>⟨rfl,S⟩
   rintro o s ⟨rfl,S⟩;show WP _ _;generalize s0.length=n at S ⊢;refine gu (R:=λo s=>∃c b:List Row,(gd c/\gd b)/\o=.nx [some (.scr (u.map .int)),some (.int i),some (.ref n),some (aK c),some (aK b),X,U,t,A]/\ck s n) ?_ ?_
   ·simp only[W,V];refine MO S λc b s E H d=>?_
    exact⟨c,b,⟨E,H⟩,rfl,d.bag⟩
   rintro o s ⟨c,b,⟨E,H⟩,rfl,S⟩;show WP _ _;refine gu (R:=λo s=>∃(N:Nat) (S0:List Row),(N<=3/\S0.length<=3/\mL N S0/\∀r∈S0,r.sum<=10)/\o=.nx [some (.scr (u.map .int)),some (.int i),some (.ref n),some (aK c),some (aK b),some (aK S0),U,t,A]) ?_ ?_
   ·simp only[W,V];refine ls S (by lia) (by lia) λj s1 j0 j1 d=>?_
    simp only[W,V];exact Ks d.bag (by lia) (by lia) (by lia) (by lia) (by lia) (by lia) λl s2 a1 a2 a3 d2=>⟨(1+j).toNat,l,⟨by lia,by lia,a2,a3⟩,rfl⟩
   rintro o s ⟨N,S0,⟨n3,c1,c2,c3⟩,rfl⟩;show WP _ _;have P:Rows N S0:=λr C=>⟨c2.len r C,c2.pos r C⟩
   have nS:∀p∈S0,Nn p:=λp hp=>(P p hp).2
   have kx:KX N 8 S0:=⟨P,.inl ⟨n3,by lia,by lia,λp hp=>by have:=c3 p hp;lia⟩⟩
   have dn:∀{ks Y:List Row}{N:Nat},gd ks->KX N 8 Y->eQ Y->∀{I:ab}{Q:D->ab->Prop},(∀g,Q (aK (aO (aj ks Y))) (I++g))->WP (cY jW 8 [aK ks,aK Y] I) Q:=λ{ks Y N} h kx rs {I Q} q=>P9 kx (by lia) (.inl rfl) h.nd (by have:=h.len;lia) (λr C=>by have:=(h.row r C).len;lia) ⟨h.few.pos,λr C=>by have:=h.few.sum r C;lia⟩ rs q
   have f:∀{ks:List Row},gd ks->cp ks:=λh=>⟨h.nd,λr C=>⟨(h.row r C).pos,by have:=(h.row r C).sum;lia,by have:=(h.row r C).len;lia⟩⟩
   have si:=MC E H;have df:∀{m:Nat},ja c b=some m->m<9/\aO (aj c [o8 m])≠aO (aj b [o8 m]):=λh=>GP h
   have lw:∀{I:ab}{Q:D->ab->Prop},(∀g,Q (r6 (ja c b)) (I++g))->WP (nC [aK c,aK b] I) Q:=λk=>Qi E H k
   have hw:∀{I:ab}{Q:D->ab->Prop},(∀g,Q (nr c b (ja c b)) (I++g))->WP (ul [aK c,aK b] I) Q:=λk=>Jb E H k
   have ss:∀ sx:ab,fJ (D.str (Str.ofString "same")) (D.str (Str.ofString "same")) sx=.ok (.bl true) sx:=λsx=>kc (by decide +kernel) (by decide +kernel) (by decide +kernel)
   have sa:∀ sx:ab,fJ (D.str (Str.ofString "same")) (D.str (Str.ofString "apart")) sx=.ok (.bl false) sx:=λsx=>kc (by decide +kernel) (by decide +kernel) (by decide +kernel)
   have as:∀ sx:ab,fJ (D.str (Str.ofString "apart")) (D.str (Str.ofString "same")) sx=.ok (.bl false) sx:=λsx=>kc (by decide +kernel) (by decide +kernel) (by decide +kernel)
   have aa:∀ sx:ab,fJ (D.str (Str.ofString "apart")) (D.str (Str.ofString "apart")) sx=.ok (.bl true) sx:=λsx=>kc (by decide +kernel) (by decide +kernel) (by decide +kernel)
   have J:∀(d:D) (ds:List D) {sx:ab}{Q:D->ab->Prop},Q d sx->WP (cn (.tup (d::ds)) (.int 0) sx) Q:=λd ds {sx Q} q=>iZ (d:=d) rfl (Eb (xs:=d::ds) (j:=0) rfl) q
   have e:∀(x y:List Row) (sx:ab),fJ (aK x) (aK y) sx=.ok (.bl (decide (x=y))) sx:=λx y sx=>DP (au:=sx) (neg:=false) x y
   generalize ja c b=du at si df lw hw;refine gu (R:=λo s=>o=.nx [some (.scr (u.map .int)),some (.int i),some (.ref n),some (aK c),some (aK b),some (aK S0),some (nr c b du),t,A]) ?_ ?_
   ·simp only[W,V];exact hw λg=>rfl
   rintro o s rfl;show WP _ _;refine gu (R:=λo s=>o=.nx [some (.scr (u.map .int)),some (.int i),some (.ref n),some (aK c),some (aK b),some (aK S0),some (nr c b du),t,A]) ?_ ?_
   ·cases du with
    |none=>
     simp only[W,V,nr];refine J _ _ ?_;refine WP.of (ss _) ?_;refine tw (f E) λg1=>tw (f H) λg2=>?_
     refine WP.of (e _ _ _) ?_;rw[cI (si.mpr rfl)];refine WP.of (show p4 (.bl true) (.bl true) _=.ok (.bl false) _ from rfl) ?_;simp only[W,V];refine J _ _ ?_;refine WP.of (ss _) ?_;refine J _ _ ?_;refine WP.of (sa _) ?_;exact WP.of (show fJ (.bl true) (.bl false) _=.ok (.bl false) _ from rfl) trivial
    |some m=>
     simp only[W,V,nr];refine J _ _ ?_;refine WP.of (as _) ?_;refine tw (f E) λg1=>tw (f H) λg2=>?_
     refine WP.of (e _ _ _) ?_;rw[cO λz=>by cases si.mp z];refine WP.of (show p4 (.bl false) (.bl false) _=.ok (.bl false) _ from rfl) ?_;simp only[W,V];refine J _ _ ?_;refine WP.of (as _) ?_;refine J _ _ ?_;refine WP.of (aa _) ?_;exact WP.of (show fJ (.bl false) (.bl true) _=.ok (.bl false) _ from rfl) trivial
   rintro o s rfl;show WP _ _;refine gu (R:=λo s=>∃t,o=.nx [some (.scr (u.map .int)),some (.int i),some (.ref n),some (aK c),some (aK b),some (aK S0),some (nr c b du),t,A]) ?_ ?_
   ·simp only[W,V];refine⟨small _ (by simp),_,rfl,?_⟩;refine iW (λ_ G _=>∃t,G=[some (.scr (u.map .int)),some (.int i),some (.ref n),some (aK c),some (aK b),some (aK S0),some (nr c b du),t,A]) ⟨_,rfl⟩ ?_ ?_
    ·rintro j y G s hy ⟨t,rfl⟩;obtain⟨ks,hk,rfl⟩:∃ks,gd ks/\y=aK ks:=by
      have:=ew hy;simp only[ca,CK,or_false] at this;rcases this with rfl|rfl
      ·exact⟨c,E,rfl⟩
      ·exact⟨b,H,rfl⟩
     refine⟨_,rfl,?_⟩;unfold PV;simp only[W,V];refine wF (f hk) λq g w=>?_
     refine RY (f hk) w.wk λg2=>?_
     rw[QL (f hk) w.wk w.fin];refine tw (f hk) λg3=>?_
     refine WP.of (show p4 (aK (fH (cf ks))) (aK (fH (cf ks))) _=.ok (.bl false) _ from by simpa using DP (neg:=true) (fH (cf ks)) (fH (cf ks))) ?_;exact⟨_,rfl⟩
    ·rintro G s ⟨t,rfl⟩;exact⟨_,rfl⟩
   rintro o s ⟨t,rfl⟩;have w9:∀{ks:List Row},gd ks->fW 9 ks:=λh=>⟨h.few.pos,λr C=>by have:=h.few.sum r C;lia⟩
   cases du with
   |none=>
    simp only[W,V,nr];refine J _ _ ?_;refine WP.of (ss _) ?_;show WP (cY jW 8 _ _) _;refine dn E kx c2.rise λg1=>dn H kx c2.rise λg2=>?_
    have eq:aO (aj c S0)=aO (aj b S0):=by rw[←qA (w9 E) nS,si.mpr rfl,qA (w9 H) nS]
    rw[eq];refine WP.of (show p4 (aK (aO (aj b S0))) (aK (aO (aj b S0))) _=.ok (.bl false) _ from by simpa using DP (neg:=true) (aO (aj b S0)) (aO (aj b S0))) ?_;show WP (nC _ _) _;refine lw λg3=>?_
    exact WP.of (show iA true (r6 none) D.non _=.ok (.bl false) _ from rfl) ⟨_,_,_,_,_,_,_,_,rfl⟩
   |some m=>
    obtain⟨m9,ne⟩:=df rfl;simp only[W,V,nr];refine J _ _ ?_;refine WP.of (as _) ?_;simp only[W,V];refine iZ (d:=.int (m:Int)) rfl rfl ?_;refine lw λg1=>⟨small _ (by simp),_,rfl,?_⟩
    refine iW (λ_ G _=>∃ A,G=[some (.scr (u.map .int)),some (.int i),some (.ref n),some (aK c),some (aK b),some (aK S0),some (D.tup [D.str (Str.ofString "apart"),aK c,aK b,.int (m:Int)]),t,A]) ⟨_,rfl⟩ ?_ ?_
    ·rintro j y G s hy ⟨A,rfl⟩;have:y=.int (m:Int):=by
      have:=ew hy
      simpa [r6] using this
     subst this;refine⟨_,rfl,?_⟩;unfold PX;simp only[W,V];have rs:eQ [o8 m]:=.cons (λx hx=>by cases hx) .nil;refine WP.of (DR m9) (dn E (Pi m9) rs λg1=>WP.of (DR m9) (dn H (Pi m9) rs λg2=>?_));refine WP.of (e _ _ _) ?_;rw[cO ne];exact⟨_,rfl⟩
    ·rintro G s ⟨A,rfl⟩;exact⟨_,_,_,_,_,_,_,_,rfl⟩
  ·rintro G s ⟨v1,v2,v3,v4,X,U,t,A,rfl⟩;simp only[W,V]
 obtain⟨a,st',e,rfl⟩:=a4.get;exact⟨st',e⟩
end Dd
namespace K36
theorem holds:∀a:List Int,a.length<=63->∃st',Dd.qB [.scr (a.map .int)] []=.ok (.bl true) st':=λa b=>Dd.Np a b
end K36
namespace K36
open L2 Dd
noncomputable def top(i:Nat):Stmt:=PySem.Challenge.pw_raisedsums_k36_whole_held_is_settled.main.body.getD i (.Pass ⟨0,0,0,0⟩)
theorem Ut{Y:En}(T:ai Y.K "_law_bag" (top 46))(e:Y.mg "len"=none)(a:Y.mg "abs"=none)(g:Y.mg "min"=none)(i:Y.mg "range"=none):Cl Y "_law_bag" 1 ["_law_script","_law_at"] uZ:=dQ ["_law_script","_law_at","_law_cell","_law_mix","_law_k"] T λb f h A c s H E d=>(zb (cL b ze)
 (zb (fr (fc (qe d.units0) qd sv (zl zw lj rfl e ll (bp sv)) (aq _)) (zd (cL b (zl KQ Gb rfl a Gi (bp (eY sv sv (λ_ _=>rfl)))))) fE)
 (zb (cL b (ef (eZ lm (cV λ_ _ _ _=>.int _) ze sv) ze))
 (zb (gx (lA rfl i (bp (zl (u4 rfl) kE rfl g um (bB (zl zw lj rfl e ll (bp sv)) ze)))) (fI b)
 (zd (cL b (eZ qf (cV λ_ _ _ _=>.int _) (ef (ef (eZ lm (cV λ_ _ _ _=>.int _) sv ze) (eZ qf (cV λ_ _ _ _=>.int _) (eY sv sv (λ_ _=>rfl)) ze)) sv) ze))))
 (zb (fr (fc (qe d.units0) qd sv (eZ Hv (cV λ_ _ _ _=>.int _) ze ze) (aq _)) (zd (cL b ze)) fE)
 (zd (zk (o7 (bB sv sv)))))))))
theorem Uu{Y:En}(T:ai Y.K "_law_odd" (top 48))(g:Y.mg "sorted"=none)(e:Y.mg "tuple"=none):Cl Y "_law_odd" 1 ["_law_things"] j4:=dQ ["_law_things","_law_odd_here","_law_thing"] T λc f d A b s H E a=>(zb (cL c uz)
 (zb (gx (ge sv) (fI c)
 (zd (Eg (iY a) sv sv (vT (K0 (iY a) sv sv iq ⟨rfl,rfl,rfl,rfl⟩)) rfl)))
 (zd (zk (mU pq pc rfl e nF (bp (zl (qK rfl a.units) qt rfl g ph (bp (o6 rfl (K5 sv) (λ_ _ _ _ _=>(jZ (i:=0) (show(["_law_thing","_law_odd_here"]:List Str).Nodup from by decide +kernel) rfl (Or.inl rfl))) (λ_ _ _ _ _=>(qm (jr (IF (iY a) sv sv (λ_ _=>rfl))))) (λ_ _ _ _ _=>sv) (N:=["_law_thing","_law_odd_here"]) (k:=1) (is:=[1]) (lW (by rfl)))))))))))
theorem UT{Y:En}(T:ai Y.K "_law_take" (top 47)): Cl Y "_law_take" 1 ["_law_bag_here","_law_many"] zg:=dQ ["_law_bag_here","_law_many","_law_digit","_law_number","_law_room"] T λa f d A b s H E c=>(zb (fr (fc jw (ji λ_ _ _ _=>.bl _) (eY sv ze (λ_ _=>rfl)) ze (aq _)) (zb (cL a (eZ qf (cV λ_ _ _ _=>.int _) (eY sv ze (λ_ _=>rfl)) sv))
 (zb (Q3 (eZ uU (cV λ_ _ _ _=>.int _) (eY sv ze (λ_ _=>rfl)) sv) sv ze)
 (zd (zk sv)))) fE)
 (zb (cL a ze)
 (zb (cL a ze)
 (zb (BR tO (fc (qe c.units0) qd sv sv (aq _)) (zb (Q3 (eZ qf (cV λ_ _ _ _=>.int _) (ef (eZ lm (cV λ_ _ _ _=>.int _) (eY sv ze (λ_ _=>rfl)) ze) ze) ze) sv ze)
 (zb (cL a (ef (eZ lm (cV λ_ _ _ _=>.int _) sv ze) (eZ qf (cV λ_ _ _ _=>.int _) (eZ lm (cV λ_ _ _ _=>.int _) (eZ uU (cV λ_ _ _ _=>.int _) (eY sv ze (λ_ _=>rfl)) ze) ze) ze)))
 (zd (cL a (eZ lm (cV λ_ _ _ _=>.int _) sv ze))))))
 (zd (zk (eZ qf (cV λ_ _ _ _=>.int _) sv sv)))))))
theorem Uv{Y:En}(T:ai Y.K "_law_row" (top 49))(h:Y.mg "range"=none)(e:Y.mg "min"=none)(i:Y.mg "tuple"=none)(d:Cl Y "_law_take" 1 ["_law_bag_here","_law_many"] zg):Cl Y "_law_row" 2 ["_law_bag_here","_law_most","_law_long"] nI:=dQ ["_law_bag_here","_law_most","_law_long","_law_row_here","_law_left","_law_k"] T λa f g A b s H E c=>(zb (cL a (o7 jq))
 (zb (cL a sv)
 (zb (gx (lA rfl h (bp (bx d c (bB sv (ef sv ze))))) (fI a)
 (zd (fr (fc jw (ji λ_ _ _ _=>.bl _) sv ze (aq _)) (zb (iX (pi sv (bp (ef ze (bx d c (bB sv (eY (ny (zh sv (bB (zl (u4 rfl) kE rfl e um (bB sv ze)) (zl (u4 rfl) kE rfl e um (bB sv ze))))) (bx d c (bB sv ze)) (λ_ _=>rfl))))))))
 (zd (cL a (iw sv (eY sv (uo ze) (λ_ _=>rfl)))))) fE)))
 (zd (zk (mU pq pc rfl i nF (bp sv)))))))
theorem US{Y:En}(T:ai Y.K "_law_rows" (top 50))(e:Y.mg "range"=none)(c:Cl Y "_law_odd" 1 ["_law_things"] j4)(g:Cl Y "_law_take" 1 ["_law_bag_here","_law_many"] zg)(h:Cl Y "_law_row" 2 ["_law_bag_here","_law_most","_law_long"] nI):Cl Y "_law_rows" 3 ["_law_bag_here","_law_many","_law_most","_law_long"] nK:=dQ ["_law_bag_here","_law_many","_law_most","_law_long"] T λi f d A a s H E b=>(zd (zk (bx c b (bp (yP ["_law_k","_law_bag_here","_law_most","_law_long"] (lA rfl e (bp (bx g b (bB sv (ef sv ze))))) (λ_ _ _ _ _=>(bx h b (zh sv (bB sv sv)))))))))
theorem UV{Y:En}(T:ai Y.K "_law_ways" (top 51))(d:Y.mg "range"=none):Cl Y "_law_ways" 1 ["_law_m","_law_k"] tp:=dQ ["_law_m","_law_k","_law_found","_law_i"] T λb f c A a s H E e=>(zb (cL b ze)
 (zb (gx (lA rfl d (bp sv)) (fI b)
 (zd (cL b (eZ uU (cV λ_ _ _ _=>.int _) (eZ lm (cV λ_ _ _ _=>.int _) sv (iw sv sv)) (ef sv ze)))))
 (zd (zk sv))))
theorem UR{Y:En}(T:ai Y.K "_law_pair" (top 52))(g:Y.mg "range"=none)(c:Y.mg "tuple"=none)(j:Y.mg "sorted"=none)(h:Cl Y "_law_ways" 1 ["_law_m","_law_k"] tp):Cl Y "_law_pair" 2 ["_law_a","_law_b"] u9:=dQ ["_law_a","_law_b","_law_found","_law_c"] T λd f e A a s H E b=>(zb (cL d (o7 jq))
 (zb (gx (lA rfl g (bp (ef (eZ uU (cV λ_ _ _ _=>.int _) sv ze) ze))) (fI d)
 (zd (fr (fc (jp b.units) iN (eZ qf (cV λ_ _ _ _=>.int _) (bx h b (bB (iw (iw sv sv) ze) (iw sv (eZ lm (cV λ_ _ _ _=>.int _) ze sv)))) ze) ze (aq _)) (zd (iX (pi sv (bp (mU pq pc rfl c nF (bp (o6 rfl (ge (ny (bB (iw (ef sv sv) sv) sv))) (λ_ _ _ _ _=>(jZ (i:=0) (show(["_law_part"]:List Str).Nodup from by decide +kernel) rfl (Or.inl rfl))) (λ_ _ _ _ _=>(qm (fc jw (ji λ_ _ _ _=>.bl _) sv ze (aq _)))) (λ_ _ _ _ _=>sv) (N:=["_law_part"]) (k:=1) (is:=[]) (lW (by rfl))))))))) fE)))
 (zd (zk (mU pq pc rfl c nF (bp (zl (qK rfl b.units) qt rfl j ph (bp sv))))))))
theorem Vq{Y:En}(T:ai Y.K "_law_exchanged" (top 54))(d:Y.mg "list"=none)(c:Cl Y "_law_pair" 2 ["_law_a","_law_b"] u9)(e:Cl Y "_law_odd" 1 ["_law_things"] j4):Cl Y "_law_exchanged" 3 ["_law_rows_here","_law_row_here","_law_place"] Cm:=dQ ["_law_rows_here","_law_row_here","_law_place","_law_more"] T λh f g A a s H E b=>(zb (Eh (i:=3) rfl h rfl (Or.inl rfl) (ge (bx c b (bB (eY sv sv (λ_ _=>rfl)) (eY sv (ef sv ze) (λ_ _=>rfl))))) (λ_ _ _ _ _=>(jZ (i:=0) (show(["_law_two_here","_law_row_here","_law_place"]:List Str).Nodup from by decide +kernel) rfl (Or.inl rfl))) (λ_ _ _ _ _=>BD) (λ_ _ _ _ _=>(ef (ef (js sv qo (qp sv)) sv) (js sv (qp (ef sv ze)) qo))) (N:=["_law_two_here","_law_row_here","_law_place"]) (k:=1) (is:=[1,2]) (lW (by rfl)))
  (zd (zk (bx e b (bp (ef (ef (mU Sj wP rfl d wS (bp sv)) (ny (bp sv))) sv))))))
theorem Vc{Y:En}(T:ai Y.K "_law_places" (top 53))(e:Y.mg "len"=none)(c:Y.mg "range"=none):Cl Y "_law_places" 1 ["_law_row_here"] pp:=dQ ["_law_row_here"] T λg f b A a s H E d=>(zd (zk (o6 rfl (lA rfl c (bp (iw (zl zw lj rfl e ll (bp sv)) ze))) (λ_ _ _ _ _=>(jZ (i:=0) (show(["_law_k","_law_row_here"]:List Str).Nodup from by decide +kernel) rfl (Or.inl rfl))) (λ_ _ _ _ _=>(qm (fc (qe d.units0) qd (eY sv sv (λ_ _=>rfl)) (eZ lm (cV λ_ _ _ _=>.int _) ze (eY sv (ef sv ze) (λ_ _=>rfl))) (aq _)))) (λ_ _ _ _ _=>sv) (N:=["_law_k","_law_row_here"]) (k:=1) (is:=[0]) (lW (by rfl)))))
theorem Vt{Y:En}(T:ai Y.K "_law_same_by_exchanges" (top 55))(j:Y.mg "range"=none)(c:Y.mg "len"=none)(g:Cl Y "_law_take" 1 ["_law_bag_here","_law_many"] zg)(d:Cl Y "_law_places" 1 ["_law_row_here"] pp)(l:Cl Y "_law_exchanged" 3 ["_law_rows_here","_law_row_here","_law_place"] Cm):Cl Y "_law_same_by_exchanges" 4 ["_law_bag_here","_law_rows_here"] zt:=dQ ["_law_bag_here","_law_rows_here","_law_k","_law_some","_law_row_here"] T λb f h A e s H E a=>(zb (gx (lA rfl j (bp (bx g a (bB sv ze)))) (fI b)
  (zb (Eh (i:=3) rfl b rfl (Or.inl rfl) (ge sv) (λ_ _ _ _ _=>(jZ (i:=0) (show(["_law_row_here"]:List Str).Nodup from by decide +kernel) rfl (Or.inl rfl))) (λ_ _ _ _ _=>(qm (fc jw (ji λ_ _ _ _=>.bl _) (zl zw lj rfl c ll (bp (bx d a (bp sv)))) ze (aq _)))) (λ_ _ _ _ _=>sv) (N:=["_law_row_here"]) (k:=1) (is:=[]) (lW (by rfl)))
  (zd (fr (fc jw (ji λ_ _ _ _=>.bl _) (zl zw lj rfl c ll (bp sv)) ze (aq _)) (zb (cL b (eY sv (bx g a (bB sv (zl zw lj rfl c ll (bp sv)))) (λ_ _=>rfl)))
  (zd (cL b (bx l a (zh sv (bB sv (eY (bx d a (bp sv)) (bx g a (bB sv (zl zw lj rfl c ll (bp (bx d a (bp sv)))))) (λ_ _=>rfl)))))))) fE))))
  (zd (zk sv)))
theorem Ux{Y:En}(T:ai Y.K "_law_two" (top 56))(h:Y.mg "min"=none)(g:Y.mg "list"=none)(m:Y.mg "len"=none)(d:Cl Y "_law_take" 1 ["_law_bag_here","_law_many"] zg)(e:Cl Y "_law_rows" 3 ["_law_bag_here","_law_many","_law_most","_law_long"] nK)(l:Cl Y "_law_same_by_exchanges" 4 ["_law_bag_here","_law_rows_here"] zt)(i:Cl Y "_law_odd" 1 ["_law_things"] j4)(k:Cl Y "_law_row" 2 ["_law_bag_here","_law_most","_law_long"] nI):Cl Y "_law_two" 5 ["_law_bag_here","_law_most"] BZ:=dQ ["_law_bag_here","_law_most","_law_many","_law_one","_law_pick","_law_other"] T λb f j A c s H E a=>(zb (cL b (eY (ny (zh ze (zh ze (bB ze ze)))) (bx d a (bB sv ze)) (λ_ _=>rfl)))
 (zb (fr (fc (jp a.units) iN sv ze (aq _)) (zd (cL b (zl (u4 rfl) kE rfl h um (bB sv (eY (ny (zh ze (zh ze (bB ze ze)))) (bx d a (bB sv ze)) (λ_ _=>rfl)))))) fE)
 (zb (cL b (bx e a (zh sv (zh sv (bB sv ze)))))
 (zb (cL b (bx d a (bB sv ze)))
 (zb (fr (fc (jp a.units) iN sv ze (aq _)) (zd (zk (jj (bB sv (bx e a (zh sv (zh sv (bB sv ze)))))))) fE)
 (zb (cL b (bx l a (bB sv sv)))
 (zb (fr (fc (jp a.units) iN sv ze (aq _)) (zd (cL b (bx i a (bp (ef (mU Sj wP rfl g wS (bp sv)) (ny (bp (bx k a (zh sv (bB sv ze)))))))))) fE)
 (zb (fr (fc jw (ji λ_ _ _ _=>.bl _) (zl zw lj rfl m ll (bp sv)) ze (aq _)) (zd (cL b sv)) fE)
 (zd (zk (jj (bB sv sv))))))))))))
theorem Vg{Y:En}(T:ai Y.K "_law_product" (top 57))(g:Y.mg "range"=none)(h:Y.mg "tuple"=none)(c:Cl Y "_law_take" 1 ["_law_bag_here","_law_many"] zg):Cl Y "_law_product" 2 ["_law_bag_here","_law_n","_law_degree"] Ch:=dQ ["_law_bag_here","_law_n","_law_degree","_law_left","_law_exponents","_law_k","_law_at"] T λa f e A d s H E b=>(zb (cL a (bx c b (bB sv (ef sv ze))))
 (zb (fr (fc (jp b.units) iN (bx c b (bB sv ze)) ze (aq _)) (zd (cL a sv)) fE)
 (zb (cL a (o7 jq))
 (zb (gx (lA rfl g (bp (iw sv ze))) (fI a)
 (zb (iX (pi sv (bp (bx c b (bB sv (ef sv ze))))))
 (zd (cL a (iw sv (eY sv (uo ze) (λ_ _=>rfl)))))))
 (zb (iX (pi sv (bp sv)))
 (zb (cL a (bx c b (bB sv sv)))
 (zd (zk (mU pq pc rfl h nF (bp (ef (js sv (qp sv) qo) (js sv qo (qp sv)))))))))))))
theorem Uw{Y:En}(T:ai Y.K "_law_sum" (top 58))(e:Y.mg "range"=none)(c:Cl Y "_law_odd" 1 ["_law_things"] j4)(g:Cl Y "_law_take" 1 ["_law_bag_here","_law_many"] zg)(h:Cl Y "_law_product" 2 ["_law_bag_here","_law_n","_law_degree"] Ch):Cl Y "_law_sum" 3 ["_law_bag_here","_law_n","_law_many","_law_degree"] BO:=dQ ["_law_bag_here","_law_n","_law_many","_law_degree"] T λi f d A a s H E b=>(zd (zk (bx c b (bp (yP ["_law_k","_law_bag_here","_law_n","_law_degree"] (lA rfl e (bp (bx g b (bB sv (ef sv ze))))) (λ_ _ _ _ _=>(bx h b (zh sv (bB sv sv)))))))))
theorem UW{Y:En}(T:ai Y.K "rows_kept" (top 31)): Cl Y "rows_kept" 1 ["rows"] Ca:=dQ ["rows","kept","row"] T λb f d A a s H E c=>(zb (cL b uz)
 (zb (gx (ge sv) (fI b)
 (zd (Eg (iY c) sv sv iq rfl)))
 (zd (zk sv))))
theorem JL{Y:En}(T:ai Y.K "flip" (top 8)): Cl Y "flip" 1 ["kept","thing"] jX:=dQ ["kept","thing"] T λd f c A a s H E b=>(zd (fr (GM (wp (iY b) sv sv)) (zd (iX (IG (iY b) sv sv ⟨rfl,rfl,rfl,rfl⟩))) (zd (Eg (iY b) sv sv iq rfl))))
theorem UB{Y:En}(T:ai Y.K "odd_ways" (top 11)): Cl Y "odd_ways" 1 ["e","k"] B1:=dQ ["e","k"] T λd f c A a s H E b=>(zd (zk (o1 (jp b.units) iN (eZ wm (ji λ_ _ _ _=>.int _) sv sv) sv (aq _))))
theorem Vk{Y:En}(T:ai Y.K "rows_for_two" (top 26))(e:Y.mg "range"=none)(h:Y.mg "sorted"=none)(g:Cl Y "odd_ways" 1 ["e","k"] B1):Cl Y "rows_for_two" 2 ["a","b"] vj:=dQ ["a","b","told","c"] T λc f d A a s H E b=>(zb (cL c (o7 jq))
 (zb (gx (lA rfl e (bp (ef (eZ uU (cV λ_ _ _ _=>.int _) sv ze) ze))) (fI c)
 (zd (fr (jr (bx g b (bB (iw (iw sv sv) ze) (iw sv (eZ lm (cV λ_ _ _ _=>.int _) ze sv))))) (zd (iX (pi sv (bp (vp (fc jw (ji λ_ _ _ _=>.bl _) sv ze (aq _)) (jj (bB (iw (ef sv sv) sv) sv)) (jj (bp (ef sv sv)))))))) fE)))
 (zd (zk (zl (qK rfl b.units) qt rfl h ph (bp sv))))))
theorem Vj{Y:En}(T:ai Y.K "rows_for_row" (top 27))(c:Cl Y "rows_for_two" 2 ["a","b"] vj):Cl Y "rows_for_row" 3 ["row","place"] ra:=dQ ["row","place","ahead","rest"] T λb f d A a s H E e=>(zb (cL b (js sv qo (qp sv)))
 (zb (cL b (js sv (qp (ef sv ze)) qo))
 (zd (zk (yP ["two","rest","ahead"] (ge (bx c e (bB (eY sv sv (λ_ _=>rfl)) (eY sv (ef sv ze) (λ_ _=>rfl))))) (λ_ _ _ _ _=>(ef (ef sv sv) sv)))))))
theorem Uz{Y:En}(T:ai Y.K "is_whole" (top 7))(a:Y.mg "bool"=none)(d:Y.mg "isinstance"=none)(b:Y.mg "int"=none):Cl Y "is_whole" 1 ["thing"] lZ:=dQ ["thing"] T λh f e A c s H E g=>(zd (zk (nX (zl EY ED rfl d Fb (bB sv (sI (DV (v:=.ty "int") rfl b Gj rfl) (λ_ _=>.ty _)))) (qQ (vT (zl EY ED rfl d Fb (bB sv (sI (DV (v:=.ty "bool") rfl a Iu rfl) (λ_ _=>.ty _)))))))))
theorem UX{Y:En}(T:ai Y.K "stands_in" (top 28))(c:Y.mg "all"=none)(e:Y.mg "tuple"=none)(g:Y.mg "isinstance"=none)(h:Cl Y "is_whole" 1 ["thing"] lZ):Cl Y "stands_in" 2 ["kept","row"] ve:=dQ ["kept","row"] T λi f d A a s H E b=>(zd (zk (nX (zl EY ED rfl g Fb (bB sv (sI (DV (v:=.ty "tuple") rfl e nF rfl) (λ_ _=>.ty _)))) (nX (zl (P3 rfl) vI rfl c vL (bp (yP ["part"] (ge sv) (λ_ _ _ _ _=>(bx h b (bp sv)))))) (qQ (Fs (wp (iY b) sv sv)))))))
theorem Vh{Y:En}(T:ai Y.K "falls_slowly" (top 25)): Cl Y "falls_slowly" 1 ["a","b"] Ci:=dQ ["a","b"] T λd f c A a s H E b=>(zd (zk (o1 (qe b.units0) qd sv (eZ lm (cV λ_ _ _ _=>.int _) ze sv) (aq _))))
theorem Uy{Y:En}(T:ai Y.K "is_place" (top 29))(g:Y.mg "len"=none)(e:Cl Y "is_whole" 1 ["thing"] lZ)(d:Cl Y "falls_slowly" 1 ["a","b"] Ci):Cl Y "is_place" 2 ["row","place"] nJ:=dQ ["row","place"] T λh f c A a s H E b=>(zb (fr (JW.pt (uq (nE (jr (bx e b (bp sv)))) (sM (nE (Ng l5 (qe b.units0) (ji λ_ _ _ _=>.bl _) qd ze sv (iw (zl zw lj rfl g ll (bp sv)) ze))) (by first|exact Or.inl rfl|exact Or.inr rfl)))) (zd (zk iq)) fE)
 (zd (zk (bx d b (bB (eY sv sv (λ_ _=>rfl)) (eY sv (ef sv ze) (λ_ _=>rfl)))))))
theorem Ve{Y:En}(T:ai Y.K "exchange_in" (top 30))(h:Cl Y "stands_in" 2 ["kept","row"] ve)(g:Cl Y "is_place" 2 ["row","place"] nJ)(c:Cl Y "flip" 1 ["kept","thing"] jX)(d:Cl Y "rows_for_row" 3 ["row","place"] ra):Cl Y "exchange_in" 4 ["kept","row","place"] Cg:=dQ ["kept","row","place","made"] T λi f e A b s H E a=>(zb (fr (nE (jr (bx h a (bB sv sv)))) (zd BQ) fE)
 (zb (fr (nE (jr (bx g a (bB sv sv)))) (zd BQ) fE)
 (zb (iX (bx c a (bB sv sv)))
 (zd (gx (ge (bx d a (bB sv sv))) (fI i)
 (zd (iX (bx c a (bB sv sv)))))))))
theorem NN{Y:En}(T:ai Y.K "walked" (top 37))(i:Y.mg "sorted"=none)(g:Y.mg "tuple"=none)(h:Cl Y "rows_kept" 1 ["rows"] Ca)(d:Cl Y "exchange_in" 4 ["kept","row","place"] Cg):Cl Y "walked" 5 ["rows","steps"] sX:=dQ ["rows","steps","kept","row","place"] T λc f e A a s H E b=>(zb (cL c (bx h b (bp sv)))
 (zb (gx (ge sv) (uB rfl (mV (fI c) (mV (fI c) uR)))
 (zd (iX (bx d b (zh sv (bB sv sv))))))
 (zd (zk (mU pq pc rfl g nF (bp (zl (qK rfl b.units) qt rfl i ph (bp sv))))))))
theorem NJ{Y:En}(T:ai Y.K "moment" (top 34))(d:Y.mg "enumerate"=none)(b:Y.mg "sum"=none):Cl Y "moment" 1 ["row"] sR:=dQ ["row"] T λg f c A a s H E e=>(zd (zk (zl (BP rfl) nU rfl b nV (bp (o6 rfl (Na rfl d sv) (λ_ _ _ _ _=>(uB rfl (mV (jZ (i:=0) (show(["number","part"]:List Str).Nodup from by decide +kernel) rfl (Or.inl rfl)) (mV (jZ (i:=1) (show(["number","part"]:List Str).Nodup from by decide +kernel) rfl (Or.inl rfl)) uR)))) (λ_ _ _ _ _=>BD) (λ_ _ _ _ _=>(eZ lm (cV λ_ _ _ _=>.int _) sv sv)) (N:=["number","part"]) (k:=2) (is:=[]) (lW (by rfl)))))))
theorem U6{Y:En}(T:ai Y.K "flip_level" (top 35))(e:Cl Y "flip" 1 ["kept","thing"] jX)(d:Cl Y "moment" 1 ["row"] sR):Cl Y "flip_level" 2 ["levels","row"] vh:=dQ ["levels","row"] T λg f c A a s H E b=>(zd (iX (bx e b (bB (K2 sv (bB (bx d b (bp sv)) uz)) sv))))
theorem NK{Y:En}(T:ai Y.K "places" (top 33))(g:Y.mg "len"=none)(c:Y.mg "range"=none)(d:Cl Y "is_place" 2 ["row","place"] nJ):Cl Y "places" 3 ["row"] By:=dQ ["row"] T λh f b A a s H E e=>(zd (zk (o6 rfl (lA rfl c (bp (iw (zl zw lj rfl g ll (bp sv)) ze))) (λ_ _ _ _ _=>(jZ (i:=0) (show(["place","row"]:List Str).Nodup from by decide +kernel) rfl (Or.inl rfl))) (λ_ _ _ _ _=>(qm (jr (bx d e (bB sv sv))))) (λ_ _ _ _ _=>sv) (N:=["place","row"]) (k:=1) (is:=[0]) (lW (by rfl)))))
theorem Ho{Y:En}(T:ai Y.K "way" (top 36))(i:Y.mg "max"=none)(j:Y.mg "sorted"=none)(d:Cl Y "flip_level" 2 ["levels","row"] vh)(h:Cl Y "places" 3 ["row"] By)(e:Cl Y "rows_for_row" 3 ["row","place"] ra):Cl Y "way" 4 ["rows"] kz:=dQ ["rows","levels","row","steps","level","slow","made"] T λa f g A c s H E b=>(zb (cL a K1)
 (zb (gx (ge sv) (fI a)
 (zd (iX (bx d b (bB sv sv)))))
 (zb (cL a (o7 jq))
 (zb (BR tO (Lg sv) (zb (cL a (IH sv (bp (zl (TL rfl) Ir rfl i vM (bp sv)))))
 (zd (gx (ge (zl (qK rfl b.units) qt rfl j ph (bp sv))) (fI a)
 (zb (cL a (bx h b (bp sv)))
 (zd (fr (jr sv) (zb (iX (pi sv (bp (jj (bB sv (eY sv ze (λ_ _=>rfl)))))))
 (zd (gx (ge (bx e b (bB sv (eY sv ze (λ_ _=>rfl))))) (fI a)
 (zd (iX (bx d b (bB sv sv))))))) fE)))))))
 (zd (zk (qD sv)))))))
theorem TZ{Y:En}(T:ai Y.K "settled" (top 38))(d:Cl Y "walked" 5 ["rows","steps"] sX)(e:Cl Y "way" 4 ["rows"] kz):Cl Y "settled" 6 ["rows"] pf:=dQ ["rows"] T λg f c A a s H E b=>(zd (zk (bx d b (bB sv (bx e b (bp sv))))))
theorem UA{Y:En}(T:ai Y.K "odd_ones" (top 9))(h:Y.mg "sorted"=none)(e:Y.mg "tuple"=none)(g:Cl Y "flip" 1 ["kept","thing"] jX):Cl Y "odd_ones" 2 ["things"] tq:=dQ ["things","kept","thing"] T λc f d A a s H E b=>(zb (cL c uz)
 (zb (gx (ge sv) (fI c)
 (zd (iX (bx g b (bB sv sv)))))
 (zd (zk (mU pq pc rfl e nF (bp (zl (qK rfl b.units) qt rfl h ph (bp sv))))))))
theorem U7{Y:En}(T:ai Y.K "rows_added" (top 22))(d:Cl Y "odd_ones" 2 ["things"] tq):Cl Y "rows_added" 3 ["one","other"] nB:=dQ ["one","other"] T λe f b A a s H E c=>(zd (zk (bx d c (bp (ef sv sv)))))
theorem Vd{Y:En}(T:ai Y.K "can_be_held" (top 21))(d:Y.mg "sum"=none)(e:Y.mg "all"=none)(h:Y.mg "len"=none) (a:Y.mg "MOST_RAISED_HELD"=some (.int 8 k_MOST_RAISED_HELD)) (b:Y.mg "MOST_ROWS_HELD"=some (.int 6 k_MOST_ROWS_HELD)):Cl Y "can_be_held" 1 ["rows"] tG:=dQ ["rows"] T λj f g A c s H E i=>(zd (zk (nX (o1 l5 (ji λ_ _ _ _=>.bl _) (zl zw lj rfl h ll (bp sv)) (sI (DX (v:=.int 6) rfl b ⟨_,rfl⟩) (λ_ _=>.int _)) (aq _)) (qQ (zl (P3 rfl) vI rfl e vL (bp (yP ["row"] (ge sv) (λ_ _ _ _ _=>(o1 l5 (ji λ_ _ _ _=>.bl _) (zl (BP rfl) nU rfl d nV (bp sv)) (sI (DX (v:=.int 8) rfl a ⟨_,rfl⟩) (λ_ _=>.int _)) (aq _))))))))))
theorem Vi{Y:En}(T:ai Y.K "left_of_both" (top 42))(c:Cl Y "can_be_held" 1 ["rows"] tG)(e:Cl Y "settled" 6 ["rows"] pf)(d:Cl Y "rows_added" 3 ["one","other"] nB):Cl Y "left_of_both" 7 ["one","other"] Cj:=dQ ["one","other"] T λh f g A b s H E a=>(zb (fr (JW.pt (uq (nE (jr (bx c a (bp sv)))) (sM (nE (jr (bx c a (bp sv)))) (by first|exact Or.inl rfl|exact Or.inr rfl)))) (zd BQ) fE)
 (zd (zk (bx e a (bp (bx d a (bB sv sv)))))))
theorem NM{Y:En}(T:ai Y.K "shares" (top 12)): Cl Y "shares" 1 ["e","least","most"] Bz:=dQ ["e","least","most","told","j"] T λb f d A a s H E c=>(zb (cL b (o7 jq))
 (zb (cL b ze)
 (zb (BR tO (fc l5 (ji λ_ _ _ _=>.bl _) sv sv (aq _)) (zb (fr (fc FS (ji λ_ _ _ _=>.bl _) sv sv (aq _)) (zd (iX (pi sv (bp sv)))) fE)
 (zb (fr (fc (jp c.units) iN sv sv (aq _)) (zd Nf) fE)
 (zd (cL b (eZ wm (ji λ_ _ _ _=>.int _) (iw sv sv) sv))))))
 (zd (zk (qD sv))))))
theorem Vn{Y:En}(T:ai Y.K "letter_raised" (top 13))(d:Cl Y "shares" 1 ["e","least","most"] Bz):Cl Y "letter_raised" 2 ["partly","e","rest"] Cn:=dQ ["partly","e","rest","told","made","left","j"] T λa f c A b s H E e=>(zb (cL a (o7 jq))
 (zb (gx (ge sv) (uB rfl (mV (fI a) (mV (fI a) uR)))
 (zd (gx (ge (bx d e (zh sv (bB (iw sv sv) sv)))) (fI a)
 (zd (iX (pi sv (bp (jj (bB (ef sv (jj (bp (ef sv sv)))) (iw sv sv))))))))))
 (zd (zk (qD sv)))))
theorem Vr{Y:En}(T:ai Y.K "product_raised" (top 14))(c:Y.mg "sum"=none)(d:Cl Y "letter_raised" 2 ["partly","e","rest"] Cn):Cl Y "product_raised" 3 ["product","k"] Co:=dQ ["product","k","partly","rest","e"] T λa f e A b s H E g=>(zb (cL a (ny (bp (jj (bB (jj jq) sv)))))
 (zb (cL a (zl (BP rfl) nU rfl c nV (bp sv)))
 (zb (gx (ge sv) (fI a)
 (zb (wX (i:=3) a rfl (Or.inl rfl) sv GZ zR)
 (zd (cL a (bx d g (zh sv (bB sv sv)))))))
 (zd (zk (o6 rfl (ge sv) (λ_ _ _ _ _=>(uB rfl (mV (jZ (i:=0) (show(["made","left"]:List Str).Nodup from by decide +kernel) rfl (Or.inl rfl)) (mV (jZ (i:=1) (show(["made","left"]:List Str).Nodup from by decide +kernel) rfl (Or.inl rfl)) uR)))) (λ_ _ _ _ _=>BD) (λ_ _ _ _ _=>sv) (N:=["made","left"]) (k:=2) (is:=[]) (lW (by rfl))))))))
theorem NL{Y:En}(T:ai Y.K "raised" (top 15))(d:Y.mg "sum"=none)(k:Y.mg "sorted"=none)(g:Y.mg "tuple"=none)(h:Cl Y "is_whole" 1 ["thing"] lZ)(j:Cl Y "product_raised" 3 ["product","k"] Co)(i:Cl Y "flip" 1 ["kept","thing"] jX):Cl Y "raised" 4 ["some","k"] sS:=dQ ["some","k","kept","product","made"] T λc f e A b s H E a=>(zb (fr (JW.pt (uq (nE (jr (bx h a (bp sv)))) (sM (fc (qe a.units0) qd sv ze (aq _)) (by first|exact Or.inl rfl|exact Or.inr rfl)))) (zd BQ) fE)
 (zb (cL c uz)
 (zb (gx (ge sv) (fI c)
 (zd (fr (fc l5 (ji λ_ _ _ _=>.bl _) sv (zl (BP rfl) nU rfl d nV (bp sv)) (aq _)) (zd (gx (ge (bx j a (bB sv sv))) (fI c)
 (zd (iX (bx i a (bB sv sv)))))) fE)))
 (zd (zk (mU pq pc rfl g nF (bp (zl (qK rfl a.units) qt rfl k ph (bp sv)))))))))
theorem L0{Y:En}(T:ai Y.K "added" (top 17))(d:Cl Y "odd_ones" 2 ["things"] tq):Cl Y "added" 3 ["one","other"] nB:=dQ ["one","other"] T λe f b A a s H E c=>(zd (zk (bx d c (bp (ef sv sv)))))
theorem D0:cm ["rows","some","told","last","made","ahead"] ["rows","some"] (af (top 23)):=⟨rfl,rfl,rfl,by decide +kernel,rfl,by decide +kernel,by decide +kernel⟩
theorem NI{Y:En}(w:5<=j)(a:∀ l t v g,fF l t=.ok v g->l.length=2)(T:ai Y.K "done" (top 23))(u:Y.mg "sorted"=none)(b:Y.mg "set"=none)(r:Cl Y "raised" 4 ["some","k"] sS)(n:Cl Y "added" 3 ["one","other"] nB)(p:Cl Y "done" j ["rows","some"] fF):Cl Y "done" (j + 1) ["rows","some"] (jW fF):=
  have d:=D0.nd
  P2 (k:=j) T Y.X Y.G D0 (λ_ _ _ _ _ _ m q=>oK m q λ_ _=>rfl) λf o A e s H E c=>(zb (AU (i:=2) d rfl (Or.inl rfl) (vp (fc (Hs c.units) FP (jj jq) (iO (pv 0)) rfl) (iO (pv 1)) (jj jq)))
  (zb (wY tO rfl (ge (FA rfl Tw rfl u ph rfl b Gk (zh (o6 rfl (ge (iO (pv 0))) (λ_ _ _ _ _=>(jZ (i:=0) (show(["row"]:List Str).Nodup from by decide +kernel) rfl (Or.inl rfl))) (λ_ _ _ _ _=>(qm (jr (iO (pv 0))))) (λ_ _ _ _ _=>(eY (iO (pv 0)) (uo ze) (λ_ _=>rfl))) (N:=["row"]) (k:=1) (is:=[]) (lW (by rfl))) jq))) (jZ (i:=3) d rfl (Or.inr rfl))
  (zb (AU (i:=4) d rfl (Or.inl rfl) (AT r (λ_ _ _ _ h=>AW h) (c.mono (by lia)) rfl (zh (iO (pv 1)) (zh (iO (pv 3)) jq))))
  (zd (fr (jr (iO (pv 4))) (zb (Eh (i:=5) rfl d rfl (Or.inl rfl) (ge (iO (pv 0))) (λ_ _ _ _ _=>(jZ (i:=0) (show(["row","last"]:List Str).Nodup from by decide +kernel) rfl (Or.inl rfl))) (λ_ _ _ _ _=>(qm (JW.pt (IY (jr (iO (pv 0))) (sM (fc (jp c.units) iN (eY (iO (pv 0)) (uo ze) (λ_ _=>rfl)) (iO (pv 1)) (aq _)) (by first|exact Or.inl rfl|exact Or.inr rfl)))))) (λ_ _ _ _ _=>(js (iO (pv 0)) qo (qp (uo ze)))) (N:=["row","last"]) (k:=1) (is:=[3]) (lW (by rfl)))
  (zd (AU (i:=2) d rfl (Or.inl rfl) (AT n (λ_ _ _ _ h=>AW h) (c.mono (by lia)) rfl (zh (iO (pv 2)) (zh (AT p a c rfl (zh (iO (pv 5)) (zh (iO (pv 4)) jq))) jq)))))) fE))))
  (zd (zk (iO (pv 2))))))
theorem JK{Y:En}(T:ai Y.K "done" (top 23))(k:Y.mg "sorted"=none)(a:Y.mg "set"=none)(i:Cl Y "raised" 4 ["some","k"] sS)(d:Cl Y "added" 3 ["one","other"] nB):Cl Y "done" 13 ["rows","some"] (cY jW 8):=fD.iter (L:=5) (TJ T Y.X Y.G D0 (λ_ _ _ _ _ _ b g=>oK b g λ_ _=>rfl)) (λ_ _ _ _ _ h=>AW h) (λF j e f c=>NI e f T k a i d c) 8
theorem JN{Y:En}(T:ai Y.K "ones" (top 41)) (a:Y.mg "LETTERS"=some (.int 8 k_LETTERS)):Cl Y "ones" 1 ["m"] qv:=dQ ["m"] T λe f c A b s H E d=>(zd (zk (jj (bp (ef (eZ xD xB (jj (bp ze)) sv) (eZ xD xB (jj (bp ze)) (iw (sI (DX (v:=.int 8) rfl a ⟨_,rfl⟩) (λ_ _=>.int _)) sv)))))))
theorem L4{Y:En}(T:ai Y.K "least" (top 43))(h:Cl Y "left_of_both" 7 ["one","other"] Cj)(g:Cl Y "done" 13 ["rows","some"] (cY jW 8))(d:Cl Y "ones" 1 ["m"] qv):Cl Y "least" 14 ["one","other"] nC:=dQ ["one","other","left","m"] T λc f e A a s H E b=>(zb (cL c (bx h b (bB sv sv)))
 (zb (fr (nE (jr sv)) (zd (zk qP)) fE)
 (zb (cL c ze)
 (zb (BR tO (nE (jr (bx g b (bB sv (bx d b (bp sv)))))) (zd (wX (i:=3) c rfl (Or.inl rfl) ze GY zR)))
 (zd (zk sv))))))
theorem JM{Y:En}(T:ai Y.K "held" (top 44))(b:Cl Y "least" 14 ["one","other"] nC):Cl Y "held" 15 ["one","other"] ul:=dQ ["one","other","m"] T λe f c A a s H E d=>(zb (cL e (bx b d (bB sv sv)))
 (zb (fr (fc Ht Hk sv qP (aq _)) (zd (zk (jj (zh sJ (bB sv sv))))) fE)
 (zd (zk (jj (zh sJ (zh sv (bB sv sv))))))))
theorem Hn{Y:En}(F:oY Y.K "law" "law" (top 59) f fd)(p:Y.mg "len"=none)(q:Y.mg "min"=none)(m:Y.mg "max"=none)(r:Y.mg "range"=none)(v:Cl Y "_law_bag" 1 ["_law_script","_law_at"] uZ)(l:Cl Y "_law_two" 5 ["_law_bag_here","_law_most"] BZ)(u:Cl Y "_law_sum" 3 ["_law_bag_here","_law_n","_law_many","_law_degree"] BO)(o:Cl Y "_law_take" 1 ["_law_bag_here","_law_many"] zg)(b:Cl Y "held" 15 ["one","other"] ul)(e:Cl Y "settled" 6 ["rows"] pf)(t:Cl Y "walked" 5 ["rows","steps"] sX)(n:Cl Y "way" 4 ["rows"] kz)(j:Cl Y "least" 14 ["one","other"] nC)(d:Cl Y "done" 13 ["rows","some"] (cY jW 8))(i:Cl Y "ones" 1 ["m"] qv):gM Y.P Y.w Y.K Y.mg Y.base jV 16 f fd ["_law_script"] (i3 Y.K):=
 have h:cm ["_law_script","_law_k","_law_bag_here","_law_one","_law_other","_law_some","_law_found","_law_rows_here","_law_m"] ["_law_script"] (af (top 59)):=⟨rfl,rfl,rfl,by decide +kernel,rfl,by decide +kernel,by decide +kernel⟩
 have c:=h.nd
 Jm (k:=15) F h rfl (λw A g s H E a=>(zb (gx (lA rfl r (bp (ef (zl (M0 rfl) kE rfl m vM (bB ze (zl (u4 rfl) kE rfl q um (bB (zl zw lj rfl p ll (bp sv)) ze)))) ze))) (fI c)
 (zb (cL c (bx v a (bB sv sv)))
 (zb (Lb (bx l a (bB sv ze)) (uB rfl (mV (fI c) (mV (fI c) uR))))
 (zb (cL c (bx u a (zh sv (zh (ef ze (bx o a (bB sv ze))) (bB ze ze)))))
 (zb (cL c (bx b a (bB sv sv)))
 (zb (fr (JW.pt (uq (fc (qX a.units) iN (o1 (jp a.units) iN (eY sv ze (λ_ _=>rfl)) sJ (aq _)) (o1 (jp a.units) iN (bx e a (bp sv)) (bx e a (bp sv)) (aq _)) (aq _)) (sM (fc (jp a.units) iN (o1 (jp a.units) iN (eY sv ze (λ_ _=>rfl)) sJ (aq _)) (o1 (jp a.units) iN (eY sv ze (λ_ _=>rfl)) sJ (aq _)) (aq _)) (by first|exact Or.inl rfl|exact Or.inr rfl)))) (zd (zk iq)) fE)
 (zb (gx (ge (ny (bB sv sv))) (fI c)
 (zd (fr (fc (qX a.units) iN (bx t a (bB sv (bx n a (bp sv)))) (bx e a (bp sv)) (aq _)) (zd (zk iq)) fE)))
 (zd (fr (fc (jp a.units) iN (eY sv ze (λ_ _=>rfl)) sJ (aq _)) (zd (fr (JW.pt (uq (fc (qX a.units) iN (bx d a (bB sv sv)) (bx d a (bB sv sv)) (aq _)) (sM (fc JU JH (bx j a (bB sv sv)) qP (aq _)) (by first|exact Or.inl rfl|exact Or.inr rfl)))) (zd (zk iq)) fE)) (zd (gx (ge (ny (bB (eY sv ze (λ_ _=>rfl)) (bx j a (bB sv sv))))) (fI c)
 (zd (fr (fc (jp a.units) iN (bx d a (bB sv (bx i a (bp sv)))) (bx d a (bB sv (bx i a (bp sv)))) (aq _)) (zd (zk iq)) fE)))))))))))))
 (zd (zk iq)))) K36.holds
theorem all_mk{l:W.OpenLaw}{K:Fg}(X:K.In h)(G:h.Ns mainGlobals mg)(hfa:mg "law"=some (.ref fa))
  (t1:ai K "_law_bag" (top 46))(t2:ai K "_law_odd" (top 48))(t3:ai K "_law_take" (top 47))(t4:ai K "_law_row" (top 49))(t5:ai K "_law_rows" (top 50))(t6:ai K "_law_ways" (top 51))(t7:ai K "_law_pair" (top 52))(t8:ai K "_law_exchanged" (top 54))(t9:ai K "_law_places" (top 53))(t10:ai K "_law_same_by_exchanges" (top 55))(t11:ai K "_law_two" (top 56))(t12:ai K "_law_product" (top 57))(t13:ai K "_law_sum" (top 58))(t14:ai K "rows_kept" (top 31))(t15:ai K "flip" (top 8))(t16:ai K "odd_ways" (top 11))(t17:ai K "rows_for_two" (top 26))(t18:ai K "rows_for_row" (top 27))(t19:ai K "is_whole" (top 7))(t20:ai K "stands_in" (top 28))(t21:ai K "falls_slowly" (top 25))(t22:ai K "is_place" (top 29))(t23:ai K "exchange_in" (top 30))(t24:ai K "walked" (top 37))(t25:ai K "moment" (top 34))(t26:ai K "flip_level" (top 35))(t27:ai K "places" (top 33))(t28:ai K "way" (top 36))(t29:ai K "settled" (top 38))(t30:ai K "odd_ones" (top 9))(t31:ai K "rows_added" (top 22))(t32:ai K "can_be_held" (top 21))(t33:ai K "left_of_both" (top 42))(t34:ai K "shares" (top 12))(t35:ai K "letter_raised" (top 13))(t36:ai K "product_raised" (top 14))(t37:ai K "raised" (top 15))(t38:ai K "added" (top 17))(t39:ai K "done" (top 23))(t40:ai K "ones" (top 41))(t41:ai K "least" (top 43))(t42:ai K "held" (top 44))(t43:ai K "law" (top 59)) (z0:W.nsIn K mainGlobals "len"=some none)(z1:W.nsIn K mainGlobals "abs"=some none)(z2:W.nsIn K mainGlobals "min"=some none)(z3:W.nsIn K mainGlobals "range"=some none)(z4:W.nsIn K mainGlobals "sorted"=some none)(z5:W.nsIn K mainGlobals "tuple"=some none)(z6:W.nsIn K mainGlobals "list"=some none)(z7:W.nsIn K mainGlobals "bool"=some none)(z8:W.nsIn K mainGlobals "isinstance"=some none)(z9:W.nsIn K mainGlobals "int"=some none)(z10:W.nsIn K mainGlobals "all"=some none)(z11:W.nsIn K mainGlobals "enumerate"=some none)(z12:W.nsIn K mainGlobals "sum"=some none)(z13:W.nsIn K mainGlobals "max"=some none)(z14:W.nsIn K mainGlobals "set"=some none)(y0:W.nsIn K mainGlobals "MOST_RAISED_HELD"=some (some (.int 8 u0)))(y1:W.nsIn K mainGlobals "MOST_ROWS_HELD"=some (some (.int 6 u1)))(y2:W.nsIn K mainGlobals "LETTERS"=some (some (.int 8 u2))):
  ∃ fd:FuncData,(∀(s:Shared) (v:Value),BindsTo s fd ⟨[v],[]⟩ [("_law_script",v)])/\∀ base:Heap,K.In base->base.Ns mainGlobals mg->gM l.prog w K mg base jV 16 fa fd ["_law_script"] (i3 K):=by
 have Ac:=jC X G z0;have z_abs:=jC X G z1;have Af:=jC X G z2;have Aa:=jC X G z3;have Ad:=jC X G z4;have Ae:=jC X G z5;have Aq:=jC X G z6;have z_bool:=jC X G z7;have Am:=jC X G z8;have z_int:=jC X G z9;have Ar:=jC X G z10;have Bg:=jC X G z11;have Ai:=jC X G z12;have Av:=jC X G z13;have z_set:=jC X G z14;have m_MOST_RAISED_HELD:=yg X G y0;have m_MOST_ROWS_HELD:=yg X G y1;have m_LETTERS:=yg X G y2;obtain⟨f,fd,a,F⟩:=t43;have e:=hfa.symm.trans (yg X G a);cases e;obtain⟨oc,od,kV,doc,pm,an,cdv,ct,osl,rfl,lk,hcd⟩:=id F.ex;refine⟨W.fnOf "law" "law" (cy (top 59)) (bo (top 59)) (af (top 59)) .none kV doc pm an cdv ct,λs v=>.of_eq rfl,λbase _ _=>?_⟩
 let Y:En:=⟨l.prog,w,K,mg,base,h,X,G⟩
 have Bo:=Ut (Y:=Y) t1 Ac z_abs Af Aa;have Ah:=Uu (Y:=Y) t2 Ad Ae;have Ab:=UT (Y:=Y) t3;have Ap:=Uv (Y:=Y) t4 Aa Af Ae Ab;have A2:=US (Y:=Y) t5 Aa Ah Ab Ap;have A5:=UV (Y:=Y) t6 Aa;have A6:=UR (Y:=Y) t7 Aa Ae Ad A5;have A7:=Vq (Y:=Y) t8 Aq A6 Ah;have Az:=Vc (Y:=Y) t9 Ac Aa;have A8:=Vt (Y:=Y) t10 Aa Ac Ab Az A7;have Bp:=Ux (Y:=Y) t11 Af Aq Ac Ab A2 A8 Ah Ap;have A9:=Vg (Y:=Y) t12 Aa Ae Ab;have Bq:=Uw (Y:=Y) t13 Aa Ah Ab A9;have Be:=UW (Y:=Y) t14;have Ag:=JL (Y:=Y) t15;have Ba:=UB (Y:=Y) t16;have Bb:=Vk (Y:=Y) t17 Aa Ad Ba;have Au:=Vj (Y:=Y) t18 Bb;have Ak:=Uz (Y:=Y) t19 z_bool Am z_int;have Bd:=UX (Y:=Y) t20 Ar Ae Am Ak;have Bc:=Vh (Y:=Y) t21;have As:=Uy (Y:=Y) t22 Ac Ak Bc;have Bf:=Ve (Y:=Y) t23 Bd As Ag Au;have Aw:=NN (Y:=Y) t24 Ad Ae Be Bf
 have Bh:=NJ (Y:=Y) t25 Bg Ai;have A3:=U6 (Y:=Y) t26 Ag Bh;have Bi:=NK (Y:=Y) t27 Ac Aa As;have Ax:=Ho (Y:=Y) t28 Av Ad A3 Bi Au;have Al:=TZ (Y:=Y) t29 Aw Ax;have Ay:=UA (Y:=Y) t30 Ad Ae Ag;have Bj:=U7 (Y:=Y) t31 Ay;have A4:=Vd (Y:=Y) t32 Ai Ar Ac m_MOST_RAISED_HELD m_MOST_ROWS_HELD;have Bn:=Vi (Y:=Y) t33 A4 Al Bj;have Bk:=NM (Y:=Y) t34;have Bl:=Vn (Y:=Y) t35 Bk;have Bm:=Vr (Y:=Y) t36 Ai Bl;have A0:=NL (Y:=Y) t37 Ai Ad Ae Ak Bm Ag;have A1:=L0 (Y:=Y) t38 Ay;have Aj:=JK (Y:=Y) t39 Ad z_set A0 A1;have An:=JN (Y:=Y) t40 m_LETTERS;have Ao:=L4 (Y:=Y) t41 Bn Aj An;have c_held:=JM (Y:=Y) t42 Ao;exact Hn (Y:=Y) F Ac Af Av Aa Bo Bp Bq Ab c_held Al Aw Ax Ao Aj An
end K36
end
open PySem PySem.W PyProof.Rows
set_option maxRecDepth 100000 in
set_option maxHeartbeats 0 in
theorem PySem.Challenge.cw_raisedsums_k36_whole_held_is_settled_holds : PySem.Challenge.rw_raisedsums_k36_whole_held_is_settled.Holds := by
  w_on; o_law; k_head; (case hw => w_witness2)
  k_fill
  refine L2.Ky (l := PySem.Challenge.rw_raisedsums_k36_whole_held_is_settled) (n := 63) (k := 16) (x := "_law_script") (CX := fun _ => L2.jV) (sp := fun w => Dd.i3 _) rfl (by decide) rfl ⟨rfl, by decide, by decide⟩ (fun w h Y => PySem.W.kIn_of Y) ?F (fun _ _ a ns hl _ hS => ⟨a, ns, rfl, hS, hl, fun _ => rfl⟩) (fun _ _ _ _ _ z => z)
  case F =>
    intro w mg fa h KX G hmg
    refine' K36.all_mk KX G hmg ?t1 ?t2 ?t3 ?t4 ?t5 ?t6 ?t7 ?t8 ?t9 ?t10 ?t11 ?t12 ?t13 ?t14 ?t15 ?t16 ?t17 ?t18 ?t19 ?t20 ?t21 ?t22 ?t23 ?t24 ?t25 ?t26 ?t27 ?t28 ?t29 ?t30 ?t31 ?t32 ?t33 ?t34 ?t35 ?t36 ?t37 ?t38 ?t39 ?t40 ?t41 ?t42 ?t43 ?z0 ?z1 ?z2 ?z3 ?z4 ?z5 ?z6 ?z7 ?z8 ?z9 ?z10 ?z11 ?z12 ?z13 ?z14 ?y0 ?y1 ?y2
    all_goals first|k_is|kernel_rfl|(refine' L2.VZ ?a ?l ?c ?k;(case a=>k_is);(case l=>k_is);(case c=>k_is);(case k=>k_is))|skip
#print axioms PySem.Challenge.cw_raisedsums_k36_whole_held_is_settled_holds
