import PyProof.Rows.All
import Wide.All
import OpenK.AllK
import Wide.FinOn
import PyProof.EqAt
import PyProof.EqKinds
import PyProof.TupleCall
import PySem.Challenge.RW_raisedsums_k34_least_letters
set_option Elab.async false
set_option linter.all false
set_option maxRecDepth 100000
noncomputable section
namespace PySem.W.Fast
theorem tw17272765147229287116:True:=⟨⟩
theorem tw11833819546549161694:True:=⟨⟩
theorem tw17476876491862852513:True:=⟨⟩
theorem tw243726273619090433:True:=⟨⟩
theorem tw2681324878497203243:True:=⟨⟩
theorem tw4018708631244308283:True:=⟨⟩
theorem tw14321959922347137629:True:=⟨⟩
theorem tw15073012223110875496:True:=⟨⟩
theorem tw5124080240110786051:True:=⟨⟩
theorem tw17641669078912958045:True:=⟨⟩
theorem tw10032772073708218612:True:=⟨⟩
theorem tw3091895778826469947:True:=⟨⟩
theorem tw7712767307802781556:True:=⟨⟩
theorem tw17336613805370048742:True:=⟨⟩
theorem tw11510548350284336109:True:=⟨⟩
theorem tw9259587971925825935:True:=⟨⟩
theorem tw10801255563085095932:True:=⟨⟩
theorem tw6195571467981729854:True:=⟨⟩
theorem tw16523525705685170263:True:=⟨⟩
theorem tw13420452571092392376:True:=⟨⟩
theorem tw13996311590125177154:True:=⟨⟩
theorem tw6710468072141027231:True:=⟨⟩
theorem tw16153829516902411687:True:=⟨⟩
theorem tw10245163261062875256:True:=⟨⟩
theorem tw8500927305909114487:True:=⟨⟩
theorem tw8024290948667047220:True:=⟨⟩
theorem tw3064452527574406559:True:=⟨⟩
theorem tw10279071643409977457:True:=⟨⟩
theorem tw2841403796659505477:True:=⟨⟩
theorem tw11000670325500024892:True:=⟨⟩
theorem tw485148519144737275:True:=⟨⟩
theorem tw14463314330373371135:True:=⟨⟩
theorem tw9228230528908331084:True:=⟨⟩
theorem tw12056637753225828310:True:=⟨⟩
theorem tw12635865679873076780:True:=⟨⟩
theorem tw16419911549949289871:True:=⟨⟩
theorem tw11823119867279946273:True:=⟨⟩
theorem tw17561666688483985580:True:=⟨⟩
theorem tw14833450623959548307:True:=⟨⟩
theorem tw6441593521690852445:True:=⟨⟩
theorem tw3213967475169162357:True:=⟨⟩
theorem tw81152412189810378:True:=⟨⟩
theorem tw3627394396412495155:True:=⟨⟩
theorem tw11786981623748005405:True:=⟨⟩
theorem tw11278495149905984242:True:=⟨⟩
theorem tw8599955602359117313:True:=⟨⟩
theorem tw1576746697989794313:True:=⟨⟩
theorem tw14647454563549829042:True:=⟨⟩
theorem tw12725534312786409008:True:=⟨⟩
theorem tw2525493181328057854:True:=⟨⟩
theorem tw14770959106156972431:True:=⟨⟩
theorem tw16982204979091265864:True:=⟨⟩
theorem tw17384648233796973573:True:=⟨⟩
theorem tw7169651911250944824:True:=⟨⟩
theorem tw5380271713003024837:True:=⟨⟩
theorem tw8983181177223360657:True:=⟨⟩
theorem tw8703488177998023272:True:=⟨⟩
theorem tw16962818887978729980:True:=⟨⟩
theorem tw14653258270608568813:True:=⟨⟩
theorem tw7993061604315909532:True:=⟨⟩
theorem tw18105186557862305680:True:=⟨⟩
theorem tw3328704595924490854:True:=⟨⟩
theorem tw9314578280916937123:True:=⟨⟩
theorem tw4857231793955135335:True:=⟨⟩
theorem tw11070803205526770971:True:=⟨⟩
theorem tw13751267210175300340:True:=⟨⟩
theorem tw5040220265060659083:True:=⟨⟩
theorem tw2763710051307054889:True:=⟨⟩
theorem tw2844886453354648013:True:=⟨⟩
theorem tw12322744164907636675:True:=⟨⟩
theorem tw6123746800157131716:True:=⟨⟩
theorem tw9214587777505951231:True:=⟨⟩
theorem tw13756990768018899348:True:=⟨⟩
theorem tw16592437829234806669:True:=⟨⟩
theorem tw15593759959615236962:True:=⟨⟩
theorem tw10265174514456561575:True:=⟨⟩
theorem tw15500473886258834500:True:=⟨⟩
theorem tw7244157950115562898:True:=⟨⟩
theorem tw10779215423956219992:True:=⟨⟩
theorem tw4354414714651580191:True:=⟨⟩
theorem tw10188870616723823518:True:=⟨⟩
theorem tw6702780202538558113:True:=⟨⟩
theorem tw6392016784150077750:True:=⟨⟩
theorem tw14381759777990192264:True:=⟨⟩
theorem tw2047816665759761677:True:=⟨⟩
theorem tw5842341704379362115:True:=⟨⟩
theorem tw12007397850963478667:True:=⟨⟩
theorem tw171848641873312123:True:=⟨⟩
theorem tw17661656918249258977:True:=⟨⟩
theorem tw821251203258466350:True:=⟨⟩
theorem tw7500023705083819150:True:=⟨⟩
theorem tw4637906500937177256:True:=⟨⟩
theorem tw1545519399380566561:True:=⟨⟩
theorem tw15972551213191009870:True:=⟨⟩
theorem tw4994733653699216141:True:=⟨⟩
end PySem.W.Fast
open PySem
set_option genSizeOfSpec false
set_option genInjectivity false
abbrev Fg:=PySem.W.Frag
abbrev ae:=@PySem.wpAny_bind
abbrev bS:=@List.getElem?_eq_getElem
abbrev ax:=@Nat.le_trans
abbrev bh:=@List.length_map
abbrev cK:=@List.getD_eq_getElem?_getD
abbrev bT:=@List.mem_cons_of_mem
abbrev ar:=@PySem.wpAny_pure
abbrev cU:=@List.getElem?_eq_some_iff
abbrev bB:=@List.mem_range
abbrev bj:=@Nat.le_refl
abbrev cJ:=@List.length_append
abbrev dC:=@PySem.Heap.get?_push_of_some
abbrev bQ:=@List.mem_map
abbrev da:=@Nat.lt_of_lt_of_le
abbrev bZ:=@List.mem_cons
abbrev cI:=@decide_eq_false
abbrev bg:=@PyProof.Rows.wpS_bind
abbrev dk:=@List.mem_cons_self
abbrev dY:=@List.mem_of_getElem?
abbrev ce:=@List.map_cons
abbrev cC:=@decide_eq_true
abbrev cX:=@List.take_length
abbrev cZ:=@List.all_eq_true
abbrev bp:=@PyProof.Rows.wpS_pure
abbrev dh:=@List.length_cons
abbrev dQ:=@List.size_toArray
abbrev em:=@List.mem_singleton
abbrev dB:=@List.mem_append
abbrev dL:=@List.mem_filter
abbrev ft:=@List.getElem?_set_ne
abbrev eE:=@List.append_assoc
abbrev cW:=@PySem.Heap.lt_size
abbrev gx:=@List.getElem?_append_left
abbrev dg:=@Nat.le_of_lt
abbrev fM:=@Array.length_toList
abbrev fL:=@PySem.Heap.get?_push_size
abbrev gS:=@List.filter_cons_of_pos
abbrev fe:=@Nat.le_add_right
abbrev dO:=@Nat.ne_of_lt
abbrev g9:=@List.filter_cons_of_neg
abbrev fr:=@List.mem_flatMap
abbrev fK:=@List.getElem?_map
abbrev gR:=@Array.getElem?_toList
abbrev fJ:=@Nat.le_of_not_lt
abbrev gQ:=@Nat.add_sub_cancel'
abbrev fZ:=@List.getElem_mem
abbrev eM:=@List.map_map
abbrev g8:=@Nat.add_le_add_left
abbrev fq:=@List.sum_cons
abbrev gP:=@of_decide_eq_true
abbrev gw:=@List.length_take
abbrev hX:=@Nat.le_of_lt_succ
abbrev kZ:=@List.getElem?_append_right
abbrev jE:=@Option.map_eq_some_iff
abbrev jD:=@List.take_of_length_le
abbrev kY:=@List.drop_eq_getElem_cons
abbrev lM:=@Array.getD_eq_getD_getElem?
abbrev g7:=@Option.some.inj
abbrev gZ:=@List.nodup_cons
abbrev iZ:=@Nat.lt_of_le_of_lt
abbrev kX:=@Int.eq_ofNat_of_zero_le
abbrev kc:=@List.take_append_drop
abbrev jo:=@Bool.false_eq_true
abbrev mh:=@Nat.mod_two_eq_zero_or_one
abbrev iw:=@List.sum_append
abbrev lL:=@Nat.add_sub_cancel_left
abbrev mf:=@Array.getElem?_eq_getElem
abbrev gY:=@Nat.xor_assoc
abbrev iV:=@List.length_set
abbrev jC:=@Nat.lt_of_le_of_ne
abbrev iU:=@List.map_append
abbrev jB:=@PySem.W.mg_none_of
abbrev kb:=@List.map_congr_left
abbrev gO:=@Nat.le_of_eq
abbrev kW:=@Nat.le_sub_one_of_lt
abbrev jm:=@Bool.and_eq_true
abbrev jA:=@Nat.le_of_succ_le
abbrev jz:=@PySem.wpAny_newObj_type
abbrev lK:=@List.mem_append_right
abbrev lJ:=@Nat.le_of_add_left_le
abbrev ka:=@List.count_eq_zero
abbrev kU:=@Array.toList_append
abbrev pY:=@List.Nodup.length_le_of_subset
abbrev nk:=@List.filterMap_cons_some
abbrev lI:=@Nat.mul_le_mul_right
abbrev j9:=@Int.toNat_natCast
abbrev j8:=@List.count_append
abbrev kT:=@List.filter_append
abbrev iu:=@PyProof.Rows.wpS_forRange
abbrev jy:=@List.append_nil
abbrev oE:=@Nat.sub_lt_left_of_lt_add
abbrev me:=@List.mem_of_mem_take
abbrev iT:=@Nat.zero_add
abbrev j7:=@Nat.le_antisymm
abbrev j6:=@Nat.min_eq_left
abbrev nj:=@Nat.add_lt_of_lt_sub'
abbrev ir:=@Nat.zero_le
abbrev jl:=@PySem.wpAny_holding
abbrev kS:=@PySem.wpAny_call_entry
abbrev lH:=@List.foldl_append
abbrev lG:=@decide_eq_true_eq
abbrev gj:=@if_false
abbrev kR:=@Bool.eq_iff_iff
abbrev pX:=@List.filterMap_cons_none
abbrev nh:=@List.getElem_of_mem
abbrev ng:=@PySem.Heap.SameBut.update
abbrev nc:=@Nat.add_lt_add_left
abbrev iq:=@PySem.wpAny_mono
abbrev fO:=@Ne.symm
abbrev oD:=@List.getElem?_eq_none
abbrev ut:=@PyProof.Rows.slot_tuple_getitem
abbrev rO:=@List.nodup_iff_pairwise_ne
abbrev lF:=@List.find?_cons
abbrev oC:=@Nat.sub_lt_sub_right
abbrev lE:=@List.foldl_cons
abbrev jx:=@Nat.xor_zero
abbrev pW:=@List.getElem?_set_self
abbrev md:=@Nat.not_lt_of_le
abbrev m9:=@Array.toList_push
abbrev m3:=@List.filter_congr
abbrev pV:=@PySem.Heap.get?_update_self
abbrev pU:=@List.length_filter_le
abbrev pT:=@Nat.le_sub_of_add_le'
abbrev pS:=@Nat.eq_of_beq_eq_true
abbrev gt:=@if_true
abbrev l9:=@PySem.W.kia_one
abbrev oB:=@Bool.false_ne_true
abbrev oA:=@List.getElem?_drop
abbrev rN:=@Option.bind_eq_some_iff
abbrev mZ:=@List.length_drop
abbrev pR:=@List.mem_of_mem_drop
abbrev ur:=@Array.perm_iff_toList_perm
abbrev oz:=@Nat.le_succ_of_le
abbrev oy:=@Nat.lt_of_succ_lt
abbrev ox:=@PySem.wpAny_truthy_bool
abbrev pQ:=@List.replicate_succ
abbrev pP:=@beq_eq_false_iff_ne
abbrev uq:=@List.pairwise_iff_getElem
abbrev rM:=@List.length_replicate
abbrev rL:=@List.length_singleton
abbrev ow:=@List.lookup_cons
abbrev ot:=@Nat.succ_le_succ
abbrev iS:=@PyProof.Rows.wpS_mono
abbrev oq:=@decide_eq_decide
abbrev mY:=@List.nodup_nil
abbrev yU:=@PySem.F.slot_dict_keyiterator_next
abbrev rK:=@Nat.sub_le_sub_right
abbrev rJ:=@List.pairwise_append
abbrev pO:=@Nat.sub_pos_of_lt
abbrev pN:=@List.length_range
abbrev om:=@List.count_cons
abbrev oj:=@PySem.wpAny_ite_false
abbrev l8:=@Int.zero_add
abbrev pM:=@List.filter_cons
abbrev pL:=@Nat.lt_of_not_le
abbrev pK:=@List.nodup_range
abbrev rH:=@PySem.Obj.data_mapFields
abbrev uo:=@List.Perm.append_left
abbrev um:=@List.Pairwise.sublist
abbrev rG:=@Nat.lt_of_lt_of_eq
abbrev rF:=@List.pairwise_cons
abbrev rE:=@List.count_pos_iff
abbrev l6:=@PySem.sizeLine_eq
abbrev ul:=@List.mem_append_left
abbrev pJ:=@List.range_succ
abbrev lD:=@Nat.sub_le
abbrev uk:=@Bool.or_eq_false_iff
abbrev pI:=@Int.natCast_add
abbrev uj:=@List.nodup_iff_count
abbrev oi:=@Nat.lt_irrefl
abbrev DC:=@PySem.wpAny_typeNameOfWhole_keyiter
abbrev yT:=@List.getElem?_cons_succ
abbrev yS:=@List.length_eq_zero_iff
abbrev ui:=@PySem.mem_of_lookup
abbrev uh:=@Nat.sub_le_sub_left
abbrev rD:=@Nat.min_le_right
abbrev rC:=@beq_self_eq_true
abbrev yR:=@Array.getElem?_eq_none
abbrev l5:=@beq_iff_eq
abbrev l4:=@PyProof.Rows.wpS_modify
abbrev ug:=@Nat.sub_add_cancel
abbrev uf:=@decide_eq_true_iff
abbrev yQ:=@PySem.Obj.isFreed_of_fields
abbrev rB:=@Nat.min_le_left
abbrev yP:=@List.perm_append_comm
abbrev rA:=@List.filter_map
abbrev rz:=@PySem.wpAny_passesOwn
abbrev ue:=@List.ext_getElem?
abbrev ud:=@Nat.lt_succ_of_lt
abbrev uc:=@List.flatten_cons
abbrev ry:=@PySem.wpAny_setField
abbrev pH:=@Nat.lt_or_ge
abbrev PH:=@List.take_succ_eq_append_getElem
abbrev pG:=@PySem.F.called_set
abbrev ub:=@List.cons_append
abbrev pF:=@Nat.zero_xor
abbrev pE:=@Nat.xor_self
abbrev pD:=@decide_false
abbrev yO:=@List.filter_sublist
abbrev Dz:=@PySem.F.plainAttrs_dict
abbrev Dy:=@List.countP_cons_of_pos
abbrev Dx:=@Nat.lt_add_of_pos_right
abbrev rx:=@PySem.Paired.length
abbrev rq:=@List.any_cons
abbrev kQ:=@PyProof.Rows.wpS_get
abbrev yN:=@PySem.Calls.spliced_cons
abbrev ua:=@List.length_nil
abbrev oh:=@Nat.sub_lt
abbrev yM:=@List.find?_eq_none
abbrev yL:=@Nat.eq_zero_or_pos
abbrev tZ:=@PySem.PassesOwn.never
abbrev PF:=@List.eq_nil_iff_forall_not_mem
abbrev tY:=@Nat.testBit_xor
abbrev yK:=@PySem.tupleKind_room_in1
abbrev og:=@PySem.wpAny_rule
abbrev Dw:=@List.Perm.append_right
abbrev Dv:=@List.drop_eq_nil_of_le
abbrev Du:=@List.filter_eq_nil_iff
abbrev pC:=@PySem.wpAny_field
abbrev pB:=@decide_true
abbrev yJ:=@List.nodup_append
abbrev yI:=@List.flatMap_cons
abbrev yH:=@PySem.wpAny_dictEntries
abbrev ro:=@Nat.lt_trans
abbrev Dt:=@PySem.F.slot_dict_pop
abbrev rm:=@Nat.sub_self
abbrev PD:=@Array.extract_eq_empty_of_le
abbrev rk:=@Nat.succ_mul
abbrev Ds:=@Nat.ble_eq_true_of_le
abbrev Dr:=@Nat.le_of_ble_eq_true
abbrev rj:=@PySem.codeAny_mono
abbrev yG:=@List.ext_getElem
abbrev yF:=@List.getElem_map
abbrev yE:=@Nat.min_eq_right
abbrev Dq:=@Array.toList_reverse
abbrev Dp:=@List.reverse_reverse
abbrev yD:=@Nat.lt_succ_self
abbrev yC:=@PySem.F.slot_tuple_mul
abbrev yB:=@Option.getD_some
abbrev Do:=@List.Pairwise.filter
abbrev yA:=@Nat.zero_testBit
abbrev yz:=@PySem.wpAny_askSetting
abbrev T1:=@Array.getElem?_setIfInBounds_self_of_lt
abbrev tX:=@Nat.mul_assoc
abbrev Dm:=@List.filterMap_cons
abbrev Dl:=@List.getElem?_range
abbrev Dk:=@List.length_reverse
abbrev Dj:=@Nat.testBit_two_pow
abbrev Di:=@List.flatMap_append
abbrev PB:=@List.mem_of_find?_eq_some
abbrev yy:=@Int.emod_nonneg
abbrev yx:=@PySem.codeAny_builtin
abbrev yw:=@PySem.wpAny_ite_split
abbrev Pz:=@PySem.F.args_tuple_add_2
abbrev Dh:=@List.filterMap_map
abbrev tW:=@Nat.add_zero
abbrev Py:=@PySem.AutoSeq1.wpAny_loadPart'
abbrev Dg:=@List.filter_filter
abbrev tV:=@Nat.pow_succ
abbrev Df:=@PySem.wpAny_pyIter_tuple
abbrev De:=@PySem.wpAny_Call_Name_kw
abbrev Dc:=@PyProof.Rows.slot_tuple_getitem
abbrev ri:=@Nat.ble_eq
abbrev rh:=@PySem.call_meets
abbrev Px:=@PySem.F.entry_tuple_add
abbrev Pw:=@List.countP_cons_of_neg
abbrev Pv:=@List.pairwise_singleton
abbrev Pu:=@List.getElem?_cons_zero
abbrev Ps:=@List.eraseIdx_cons_succ
abbrev Db:=@PySem.Calls.spliced_nil
abbrev Da:=@List.take_sublist
abbrev C9:=@PySem.Obj.cls_mapFields
abbrev C8:=@Nat.zero_lt_of_lt
abbrev C7:=@List.reverse_cons
abbrev C6:=@List.pairwise_map
abbrev C5:=@PySem.wpAny_pyIter_list
abbrev C4:=@PySem.wpAny_setState_of
abbrev Pr:=@PySem.F.slot_tuple_add
abbrev Pq:=@PySem.Calls.callWith_builtin
abbrev Pp:=@Nat.le_mul_of_pos_left
abbrev tU:=@Nat.le_succ
abbrev tT:=@Int.add_mul
abbrev yv:=@PySem.W.mg_of
abbrev yu:=@PySem.wpAny_attempt
abbrev C3:=@List.getElem_inj
abbrev C2:=@List.mem_reverse
abbrev C1:=@List.any_eq_true
abbrev pA:=@PyProof.Rows.wpS_lift
abbrev Po:=@PySem.F.slot_tuple_lt
abbrev Pn:=@PySem.F.slot_dict_get
abbrev T0:=@Array.getElem?_setIfInBounds_ne
abbrev yt:=@Nat.ne_of_gt
abbrev Pm:=@Array.mem_toList_iff
abbrev Pl:=@PySem.Calls.evalArgs_plain
abbrev Pk:=@Array.toList_extract
abbrev yr:=@Int.le_trans
abbrev Pj:=@PySem.Around.under_plainId
abbrev C0:=@Bool.decide_and
abbrev Pi:=@Bool.and_eq_true_iff
abbrev CZ:=@PySem.wpAny_execs_nil
abbrev yq:=@PySem.wpAny_typeOf
abbrev yp:=@PySem.call_meetsIn
abbrev Ph:=@PySem.codeAny_call_builtin
abbrev Pg:=@List.filter_eq_self
abbrev Pf:=@Int.toNat_of_nonneg
abbrev Pe:=@PySem.wpAny_setEntries_of
abbrev CY:=@List.drop_drop
abbrev CW:=@List.take_zero
abbrev CV:=@PySem.Heap.size_push
abbrev TZ:=@PySem.F.slot_dict_setdefault
abbrev CU:=@PySem.wpAny_fieldsOf
abbrev yo:=@List.map_id
abbrev TY:=@PyProof.Rows.callWith_type1
abbrev Pd:=@PySem.Heap.IsSliceOf.new
abbrev Pc:=@Array.append_empty
abbrev Pb:=@Nat.pos_of_ne_zero
abbrev Pa:=@PySem.F.args_tuple_mul_2
abbrev O9:=@Int.lt_of_le_of_lt
abbrev O8:=@of_decide_eq_false
abbrev TX:=@Array.getElem?_eq_some_iff
abbrev CT:=@Nat.add_assoc
abbrev TW:=@List.perm_ext_iff_of_nodup
abbrev CS:=@Bool.and_true
abbrev TV:=@Nat.lt_of_mul_lt_mul_right
abbrev CQ:=@PySem.wpAny_standAt
abbrev CP:=@PySem.evalPart_none
abbrev O7:=@Nat.lt_succ_of_le
abbrev O6:=@List.mapM_toArray
abbrev O5:=@List.drop_sublist
abbrev O4:=@List.getElem_drop
abbrev O3:=@List.getElem_take
abbrev O2:=@PySem.F.entry_tuple_mul
abbrev O1:=@List.Pairwise.imp
abbrev O0:=@List.Pairwise.map
abbrev OZ:=@PySem.wpAny_sequenceKey
abbrev OY:=@PySem.slot_list_getitem
abbrev OX:=@PySem.wpAny_pyIter_slot
abbrev yn:=@Nat.mod_lt
abbrev TU:=@Nat.lt_of_mul_lt_mul_left
abbrev CO:=@Int.ediv_one
abbrev CN:=@List.map_nil
abbrev OW:=@Nat.max_eq_right
abbrev CM:=@Nat.add_comm
abbrev OV:=@List.perm_middle
abbrev CL:=@Nat.sub_zero
abbrev OU:=@List.not_mem_nil
abbrev OT:=@List.drop_length
abbrev CK:=@List.sum_nil
abbrev CJ:=@Nat.xor_comm
abbrev CH:=@Nat.mul_comm
abbrev OS:=@List.Nodup.count
abbrev OR:=@map_eq_pure_bind
abbrev OQ:=@List.of_mem_zip
abbrev OP:=@Nat.le_add_left
abbrev OO:=@Nat.not_lt_zero
abbrev ON:=@List.nil_append
abbrev OM:=@Bool.or_eq_true
abbrev OL:=@List.find?_some
abbrev OJ:=@Nat.and_div_two
abbrev CG:=@Nat.two_pos
abbrev CF:=@Int.mul_add
abbrev CD:=@Int.le_refl
abbrev OI:=@List.drop_zero
abbrev OH:=@List.Perm.refl
abbrev OG:=@Int.mul_nonneg
set_option maxHeartbeats 0
namespace L2
open Spec PyProof.Rows
noncomputable abbrev cy:=Sum Int Str
def gF:cy->Value->Bool
 |.inl k,v=>Value.isInt k v
 |.inr x,v=>Value.isStrOf x v
def P9(w:World):cy->Int
 |.inl k=>hashInt k
 |.inr x=>hashStr w x
theorem mX:∀{k:cy}{v:Value},gF k v=true->(∃i t,k=Sum.inl i/\v=Value.int i t)\/(∃x t,k=Sum.inr x/\v=Value.str x t)
 |.inl i,v,h=>by
  obtain⟨t,e⟩:=Value.isInt_shape (k:=i) (v:=v) h;exact .inl ⟨i,t,rfl,e⟩
 |.inr x,v,h=>by
  obtain⟨t,e⟩:=Value.isStrOf_shape (x:=x) (v:=v) h;exact .inr ⟨x,t,rfl,e⟩
theorem NK(i:Int)(t:Tok):gF (.inl i) (.int i t)=true:=by simp[gF,Value.isInt]
theorem NL(x:Str)(t:Tok):gF (.inr x) (.str x t)=true:=by simp[gF,Value.isStrOf]
theorem Hm(a b:Int):decide ((Sum.inl a:cy)=Sum.inl b)=(a==b):=by
 by_cases e:a=b
 ·subst e;simp
 ·have h:¬ (Sum.inl a:cy)=Sum.inl b:=λq=>e (Sum.inl.inj q)
  rw[cI h];exact(pP.mpr e).symm
theorem Hq(a b:Str):decide ((Sum.inr a:cy)=Sum.inr b)=decide (a=b):=by
 by_cases e:a=b
 ·subst e;simp
 ·have h:¬ (Sum.inr a:cy)=Sum.inr b:=λq=>e (Sum.inr.inj q)
  rw[cI h,cI e]
theorem Hn(a:Int)(b:Str):decide ((Sum.inl a:cy)=Sum.inr b)=false:=cI (λq=>nomatch q)
theorem Ho(a:Str)(b:Int):decide ((Sum.inr a:cy)=Sum.inl b)=false:=cI (λq=>nomatch q)
def aX(d:Program) (w:World):PySem.KeyKind d w cy where
 is:=gF
 hash:=P9 w
 inj:=λv a b l g=>by
  rcases mX l with⟨i,t,rfl,rfl⟩|⟨x,t,rfl,rfl⟩
  ·rcases mX g with⟨j,u,rfl,e⟩|⟨y,u,rfl,e⟩
   ·injection e with c _;rw[c]
   ·exact nomatch e
  ·rcases mX g with⟨j,u,rfl,e⟩|⟨y,u,rfl,e⟩
   ·exact nomatch e
   ·injection e with c _;rw[c]
 byValue:=λk v h=>by
  rcases mX h with⟨i,t,rfl,rfl⟩|⟨x,t,rfl,rfl⟩<;>rfl
 pyHash:=λf h=>by
  rcases mX f with⟨i,t,rfl,rfl⟩|⟨x,t,rfl,rfl⟩
  ·exact wpAny_pyHash_int h
  ·exact wpAny_pyHash_str h
 eqBool:=λm f h=>by
  rcases mX m with⟨i,t,rfl,rfl⟩|⟨x,t,rfl,rfl⟩
  ·rcases mX f with⟨j,u,rfl,rfl⟩|⟨y,u,rfl,rfl⟩
   ·rw[Hm] at h;exact wpAny_eqBool_int h
   ·rw[Hn] at h;exact SeqAt.EqAt.int_str i t y u _ _ _ _ h
  ·rcases mX f with⟨j,u,rfl,rfl⟩|⟨y,u,rfl,rfl⟩
   ·rw[Ho] at h;exact SeqAt.EqAt.str_int x t j u _ _ _ _ h
   ·rw[Hq] at h;exact wpAny_eqBool_str h
 «strs»:=λk x t v h=>by
  rcases mX h with⟨i,u,rfl,e⟩|⟨y,u,rfl,e⟩
  ·exact nomatch e
  ·injection e with c _
   subst c;cases v<;>rfl
theorem U4(a:Program)(w:World)(i:Int)(t:Tok):(aX a w).is (.inl i) (.int i t)=true:=NK i t
theorem U5(a:Program)(w:World)(x:Str)(t:Tok):(aX a w).is (.inr x) (.str x t)=true:=NL x t
set_option genInjectivity true in
inductive V where
 |non|bl (b:Bool)|int (i:Int)|str (x:Str)|byt (b:Array UInt8)|flt (b:UInt64)|ref (a:Addr)|ty (n:String)
 deriving DecidableEq
noncomputable def RelV:V->Value->Prop
 |.non,u=>u=Value.none
 |.bl b,u=>u=Value.bool b
 |.int i,u=>∃t,u=Value.int i t
 |.str x,u=>∃t,u=Value.str x t
 |.byt b,u=>∃t,u=Value.bytes b t
 |.flt b,u=>∃t,u=Value.float b t
 |.ref a,u=>u=Value.ref a
 |.ty n,u=>u=Value.type n
abbrev am:List V->List Value->Prop:=Paired RelV
theorem am.length(r:am xs us):xs.length=us.length:=rx r
theorem am.get:∀{a:List V}{b:List Value}{i:Nat}{x:V},am a b->a[i]?=some x->∃u,b[i]?=some u/\RelV x u
 |_,_,_,_,.nil,e=>by simp at e
 |_,_,0,_,.cons r _,e=>by simp at e;subst e;exact⟨_,rfl,r⟩
 |_,_,i+1,x,.cons _ t,e=>by
  obtain⟨u,c,d⟩:=am.get (i:=i) (x:=x) t (by simpa using e);exact⟨u,by simpa using c,d⟩
theorem am.set(r:RelV x u):∀{a:List V}{b:List Value}(i:Nat),am a b->am (a.set i x) (b.set i u)
 |_,_,_,.nil=>.nil
 |_,_,0,.cons _ t=>.cons r t
 |_,_,i+1,.cons q t=>.cons q (am.set r i t)
theorem am.append:∀{a c:List V}{b d:List Value},am a b->am c d->am (a++c) (b++d)
 |_,_,_,_,.nil,s=>s
 |_,_,_,_,.cons r t,s=>.cons r (am.append t s)
theorem am.take:∀{a:List V}{b:List Value}(n:Nat),am a b->am (a.take n) (b.take n)
 |_,_,0,_=>.nil
 |_,_,_+1,.nil=>.nil
 |_,_,n+1,.cons r t=>.cons r (am.take n t)
theorem am.drop:∀{a:List V}{b:List Value}(n:Nat),am a b->am (a.drop n) (b.drop n)
 |_,_,0,r=>r
 |_,_,_+1,.nil=>.nil
 |_,_,n+1,.cons _ t=>am.drop n t
def fm:Option V->Option Value->Prop
 |some v,some u=>RelV v u
 |none,none=>True
 |_,_=>False
def KV{a:Type}:List (a×V)->List (a×Value)->Prop:=Paired λ(p:a×V) (q:a×Value)=>p.1=q.1/\RelV p.2 q.2
def kV:cy->V
 |.inl i=>.int i
 |.inr x=>.str x
set_option genInjectivity true in
inductive HO where
 /-- a list -/
 |lst (xs:List V)
 /-- a tuple (never changes) -/
 |tup (xs:List V)
 /-- a dict whose keys are ints and texts;one whose keys are tuples of ints and texts (the empty one is both) -/
 |dK (kvs:List (cy×V))|dT (kvs:List (List cy×V))
 /-- a set of ints: its members,its size -/
 |set (S:Int->Bool) (n:Nat)
 /-- an instance of the class at C,its dict at dx,its attributes -/
 |ins (C dx:Addr) (fs:List (Str×V))
 /-- the dict of the instance at x -/
 |own (x:Addr)
 /-- the dict of an exception -/
 |xd (fs:List (Str×V))
 /-- a bound method,f of x -/
 |met (f x:Addr)
 /-- a range object lo,lo+1,.. below hi -/
 |rng (lo hi:Int)
 /-- a thing that is known to the object (the script;a dict while a loop walks it): read,never written while it is so -/
 |frz (o:Obj) (u:HO)
 /-- a code object's table -/
 |tbl (ps:Array Value)
 /-- any other thing,by what is true of its one object (a def of one's own: SetO a S n:=HO.ext λh=>..) -/
 |ext (φ:Heap->Prop)
noncomputable abbrev Hp:=Addr->Option HO
def aZ(H:Hp) (a:Addr) (o:HO):Hp:=λb=>if b=a then some o else H b
theorem zx:aZ H a o a=some o:=by unfold aZ;rw[if_pos rfl]
theorem zy(h:b≠a):aZ H a o b=H b:=by unfold aZ;rw[if_neg h]
theorem vK{H:Hp}{a b:Addr}{o u:HO}(h:H a=some o)(c:H b=some u)(d:o≠u):a≠b:=by
 intro e;subst e;rw[h] at c;exact d (g7 c)
theorem zn{H:Hp}{a b:Addr}{o:HO}(h:H a=some o)(c:H b=none):a≠b:=by
 intro e;subst e;rw[h] at c;cases c
section
variable (P:Program)(w:World)
def ba(H:Hp) (h:Heap) (a:Addr):HO->Prop
 |.lst c=>c.length<=sizeLine/\∃(b:List Value) (n:Nat),am c b/\h.get? a=some { cls:=.type "list",data:=.seq b.toArray n }
 |.tup c=>c.length<=sizeLine/\∃b:List Value,am c b/\IsTup h a b.toArray
 |.dK kvs=>kvs.length<=sizeLine/\(a==sysModules)=false/\∃j,KV kvs j/\h.DictOf (aX P w) a j
 |.dT kvs=>kvs.length<=sizeLine/\(a==sysModules)=false/\∃c:List (List cy×Addr×Value),
  Paired (λ(p:List cy×V) (q:List cy×Addr×Value)=>p.1=q.1/\H q.2.1=some (.tup (p.1.map kV))/\RelV p.2 q.2.2) kvs c /\
  ∃o g k,h.get? a=some o/\o.ExactDict/\o.data=.dict g k/\g.toList=c.map (entryOfKey (tupleKind (aX P w)))/\(c.map (·.1)).Nodup
 |.set S n=>h.SetOf (intKind P w) a S n
 |.ins C dx fs=>H dx=some (.own a)/\fs.length<=1000/\dx≠a/\h.get? a=some (W.instObj C dx) /\
  ∃d,h.Ns1 dx d/\(∀f,fm (fs.lookup f) (d f))/\PySem.Within d (fs.map (·.1))
 |.own _=>∃o,h.get? a=some o
 |.xd fs=>∃d,h.Ns1 a d/\∀f,fm (fs.lookup f) (d f)
 |.rng lo hi=>∃ t u v,h.get? a=some { cls:=.type "range",data:=.fields #[.int lo t,.int hi u,.int 1 v] }
 |.frz o u=>h.get? a=some o/\ba H h a u
 |.tbl ps=>h.get? a=some {cls:=.none,data:=.fields ps}
 |.met f x=>h.get? a=some (W.methodObj (.ref f) (.ref x))
 |.ext φ=>φ h/\(∃o,h.get? a=some o)/\∀i e:Heap,φ i->(∀o,i.get? a=some o->e.get? a=some o)->φ e
def fu(H:Hp) (h:Heap):Prop:=∀a o,H a=some o->ba P w H h a o
end
theorem ba.lt(x:ba P w H h a o):a<h.objs.size:=by
 cases o with
 |lst xs=>obtain⟨_,_,_,_,e⟩:=x;exact cW e
 |tup xs=>obtain⟨_,_,_,p⟩:=x;exact p.lt
 |dK kvs=>obtain⟨_,_,_,_,o,_,_,e,_⟩:=x;exact cW e
 |dT kvs=>obtain⟨_,_,_,_,o,_,_,e,_⟩:=x;exact cW e
 |set S n=>obtain⟨o,_,_,_,e,_⟩:=x;exact cW e
 |ins C dx fs=>obtain⟨_,_,_,e,_⟩:=x;exact cW e
 |own y=>obtain⟨_,e⟩:=x;exact cW e
 |xd fs=>obtain⟨_,⟨_,_,_,e,_⟩,_⟩:=x;exact cW e
 |rng lo hi=>obtain⟨_,_,_,e⟩:=x;exact cW e
 |frz ob u=>obtain⟨e,_⟩:=x;exact cW e
 |tbl ps=>exact cW (show h.get? a=some _ from x)
 |met f y=>exact cW (show h.get? a=some _ from x)
 |ext φ=>obtain⟨_,⟨_,e⟩,_⟩:=x;exact cW e
section
variable {a:Addr}
theorem Paired.mapP{g e:Type}{F G:g->e->Prop}:∀{c:List g}{d:List e},Paired F c d->(∀a b,F a b->G a b)->Paired G c d
 |_,_,.nil,_=>.nil
 |_,_,.cons r t,f=>.cons (f _ _ r) (Paired.mapP t f)
end
theorem ba.stay{h:Heap}{s:Heap}(x:ba P w H h a o)(k:∀b u,(b=a\/H b=some (.own a))->h.get? b=some u->s.get? b=some u)
  (J:∀b,H b=some (.own a)->H' b=some (.own a))(I:∀b m,H b=some (.tup m)->H' b=some (.tup m)):ba P w H' s a o:=by
 induction o with
 |lst m=>obtain⟨z,l,n,r,e⟩:=x;exact⟨z,l,n,r,k _ _ (.inl rfl) e⟩
 |tup m=>obtain⟨z,l,r,g,e,c⟩:=x;exact⟨z,l,r,g,k _ _ (.inl rfl) e,c⟩
 |dK kvs=>obtain⟨z,y,X,r,g,j,i,e,c⟩:=x;exact⟨z,y,X,r,g,j,i,k _ _ (.inl rfl) e,c⟩
 |dT kvs=>
  obtain⟨z,y,m,r,g,j,i,e,c⟩:=x;exact⟨z,y,m,Paired.mapP r λp q z=>⟨z.1,I _ _ z.2.1,z.2.2⟩,g,j,i,k _ _ (.inl rfl) e,c⟩
 |set S n=>obtain⟨g,j,i,t,e,c⟩:=x;exact⟨g,j,i,t,k _ _ (.inl rfl) e,c⟩
 |ins C dx fs=>
  obtain⟨d,z,U,e,E,⟨A,j,i,Q,c⟩,r⟩:=x;exact⟨J _ d,z,U,k _ _ (.inl rfl) e,E,⟨A,j,i,k _ _ (.inr d) Q,c⟩,r⟩
 |own y=>obtain⟨g,e⟩:=x;exact⟨g,k _ _ (.inl rfl) e⟩
 |xd fs=>obtain⟨E,⟨A,j,i,e,c⟩,r⟩:=x;exact⟨E,⟨A,j,i,k _ _ (.inl rfl) e,c⟩,r⟩
 |rng lo hi=>obtain⟨t,u,v,e⟩:=x;exact⟨t,u,v,k _ _ (.inl rfl) e⟩
 |frz g u ih=>obtain⟨e,q⟩:=x;exact⟨k _ _ (.inl rfl) e,ih q⟩
 |tbl ps=>
  have e:h.get? a=some {cls:=.none,data:=.fields ps}:=x;show s.get? a=some {cls:=.none,data:=.fields ps};exact k a _ (.inl rfl) e
 |met f y=>
  have e:h.get? a=some (W.methodObj (.ref f) (.ref y)):=x;show s.get? a=some (W.methodObj (.ref f) (.ref y));exact k a _ (.inl rfl) e
 |ext φ=>obtain⟨p,⟨o,e⟩,G⟩:=x;exact⟨G _ _ p λo q=>k _ _ (.inl rfl) q,⟨o,k _ _ (.inl rfl) e⟩,G⟩
theorem fu.lt(x:fu P w H h)(e:H a=some o):a<h.objs.size:=(x a o e).lt
theorem fu.fresh(x:fu P w H h)(e:h.objs.size<=a):H a=none:=by
 cases q:H a with
 |none=>rfl
 |some u=>exact absurd (da (x.lt q) e) (oi _)
theorem fu.kept{h':Heap}(x:fu P w H h)(k:∀b u,h.get? b=some u->h'.get? b=some u):fu P w H h':=λa o e=>
 (x a o e).stay (λb u _ q=>k b u q) (λ_ q=>q) λ_ _ q=>q
section
variable {P:Program}{w:World}{H:Hp}{h:Heap}{h':Heap}{a:Addr}{o:HO}
theorem fu.laid(x:fu P w H h)(k:∀b u,h.get? b=some u->h'.get? b=some u)(g:h.objs.size<=a)(d:ba P w (aZ H a o) h' a o):fu P w (aZ H a o) h':=λb u e=>by
 have f:=x.fresh g;by_cases hb:b=a
 ·subst hb;rw[zx] at e;cases e;exact d
 ·rw[zy hb] at e;exact(x b u e).stay (λc v _ q=>k c v q) (λc q=>by rw[zy (zn q f)];exact q) λc i q=>by rw[zy (zn q f)];exact q
end
def Rd(H:Hp) (a:Addr) (u:HO):Prop:=H a=some u\/∃o,H a=some (.frz o u)
theorem Rd.ok(r:Rd H a u)(x:fu P w H h):ba P w H h a u:=by
 rcases r with r|⟨o,r⟩
 ·exact x a u r
 ·obtain⟨_,q⟩:=x a _ r;exact q
noncomputable def AZ:Option HO->Prop
 |some (.lst _)=>True
 |some (.dK _)=>True
 |some (.dT _)=>True
 |some (.set _ _)=>True
 |some (.ins _ _ _)=>True
 |some (.ext _)=>True
 |_=>False
theorem fu.write{h':Heap}(o:fu P w H h)(g:AZ (H x))(m:e=x\/H e=some (.own x))(k:∀b u,b≠e->h.get? b=some u->h'.get? b=some u)(j:∃u,h'.get? e=some u)
  (i:ba P w (aZ H x o') h' x o'):fu P w (aZ H x o') h':=λb u q=>by
 have a:∀c y,H c=some (.own y)->c≠x:=λc y r z=>by subst z;rw[r] at g;exact g
 have d:∀c f,H c=some (.tup f)->c≠x:=λc f r z=>by subst z;rw[r] at g;exact g
 by_cases hb:b=x
 ·subst hb;rw[zx] at q;cases q;exact i
 ·rw[zy hb] at q;by_cases hbe:b=e
  ·have l:H b=some (.own x):=by
    rcases m with z|z
    ·exact absurd (hbe.trans z) hb
    ·rw[hbe];exact z
   rw[q] at l;cases l
   obtain⟨v,n⟩:=j;exact⟨v,by rw[hbe];exact n⟩
  ·refine(o b u q).stay (λc v hc r=>k c v ?_ r) (λc r=>by rw[zy (a c b r)];exact r) λc f r=>by rw[zy (d c f r)];exact r
   rcases hc with rfl|hc
   ·exact hbe
   ·rintro rfl;rcases m with z|z
    ·exact a c b hc z
    ·rw[hc] at z;cases z;exact hb rfl
structure Un (fs ex:List Addr) (H H':Hp) (h h':Heap):Prop where
 keep:∀b o,h.get? b=some o->H b=none->b∉fs->b∉ex->h'.get? b=some o
 slot:∀b o,h.get? b=some o->H b=none->b∈fs->b∉ex->∃sl,h'.get? b=some {o with slots:=sl}
 free:∀b o,h.get? b=some o->H b=none->b∉ex->H' b=none
 there:∀b o,h.get? b=some o->b∉ex->∃o',h'.get? b=some o'
 tups:∀b xs,H b=some (.tup xs)->H' b=some (.tup xs)
 frzs:∀b o u,H b=some (.frz o u)->H' b=some (.frz o u)
 tbls:∀b ps,H b=some (.tbl ps)->∃more,H' b=some (.tbl (ps++more))
theorem Un.any(u:Un fs ex H H1 h h1) (q:h.get? b=some ob)(n:H b=none)(a:b∉ex):∃c,h1.get? b=some {ob with slots:=c}:=by
 by_cases hb:b∈fs
 ·exact u.slot b ob q n hb a
 ·exact⟨ob.slots,u.keep b ob q n hb a⟩
theorem Un.kept{h:Heap}{h':Heap}(k:∀b u,h.get? b=some u->h'.get? b=some u):Un fs ex H H h h':=
 ⟨λb a q _ _ _=>k b a q,λb a q _ _ _=>⟨a.slots,k b a q⟩,λ_ _ _ n _=>n,λb a q _=>⟨a,k b a q⟩,λ_ _ q=>q,λ_ _ _ q=>q,λ_ c q=>⟨#[],by rw[q];simp⟩⟩
theorem Un.refl:Un fs ex H H h h:=Un.kept λ_ _ q=>q
section
variable {fs:List Addr}{ex:List Addr}{H:Hp}{h:Heap}{h':Heap}{a:Addr}{o:HO}
theorem Un.laid(k:∀b u,h.get? b=some u->h'.get? b=some u)(e:h.objs.size<=a)(c:H a=none):Un fs ex H (aZ H a o) h h' where
 keep:=λb u q _ _ _=>k b u q
 slot:=λb u q _ _ _=>⟨u.slots,k b u q⟩
 free:=λb u q n _=>by rw[zy (dO (da (cW q) e))];exact n
 there:=λb u q _=>⟨u,k b u q⟩
 tups:=λb d q=>by rw[zy (zn q c)];exact q
 frzs:=λb u d q=>by rw[zy (zn q c)];exact q
 tbls:=λb f q=>⟨#[],by rw[zy (zn q c),q];simp⟩
end
theorem Un.write{h:Heap}{h':Heap}(a:AZ (H x))(l:e=x\/H e=some (.own x))(k:∀b u,b≠e->h.get? b=some u->h'.get? b=some u)(c:∃u,h'.get? e=some u):Un fs ex H (aZ H x o) h h':=by
 have g:∀b,H b=none->b≠x:=λb n z=>by subst z;rw[n] at a;exact a
 have f:∀b,H b=none->b≠e:=λb n z=>by
  subst z;rcases l with r|r
  ·exact g b n r
  ·rw[n] at r;cases r
 have d:∀b u,H b=some u->¬ AZ (some u)->b≠x:=λb u q j z=>by subst z;rw[q] at a;exact j a
 refine⟨λb u q n _ _=>k b u (f b n) q,λb u q n _ _=>⟨u.slots,k b u (f b n) q⟩,λb u q n _=>by rw[zy (g b n)];exact n,λb u q _=>?_,
  λb i q=>by rw[zy (d b _ q λz=>z)];exact q,λb u i q=>by rw[zy (d b _ q λz=>z)];exact q,λb m q=>⟨#[],by rw[zy (d b _ q λz=>z),q];simp⟩⟩
 by_cases hbe:b=e
 ·subst hbe;exact c
 ·exact⟨u,k b u hbe q⟩
def DD(h:Heap) (H:Hp):List Addr:=(List.range h.objs.size).filter λa=>(H a).isSome
def iE(h:Heap) (H:Hp):Heap:=W.hideAll h (DD h H)
theorem NG(h:Heap)(H:Hp):(iE h H).objs.size=h.objs.size:=W.hideAll_size _ _
theorem LL{h:Heap}(e:h.get? b=some o)(n:H b=none):(iE h H).get? b=some o:=
 W.hideAll_get _ e λa=>by
  have q:(H b).isSome=true:=(dL.mp a).2;rw[n] at q;simp at q
theorem JZ(e:(iE h H).get? b=some o):h.get? b=some o/\H b=none:=by
 have a:h.get? b=some o:=W.of_hideAll (DD h H) e;refine⟨a,?_⟩;cases q:H b with
 |none=>rfl
 |some x=>
  have c:b∈DD h H:=dL.mpr ⟨bB.mpr (cW a),by simp[q]⟩;have z:(iE h H).get? b=none:=W.hideAll_none (DD h H) c;rw[z] at e;cases e
structure Mod (K:Fg) (mg:Str->Option Value) (base:Heap):Prop where
 kin:K.In base
 glob:base.Ns mainGlobals mg
 blt:∃ mb,base.Ns builtinsNs mb/\∀ x:Str,x≠"__name__"->mb x=bootBuiltins x
 nolimit:base.NoLimit
structure Cx where
 prog:Program
 w:World
 K:Fg
 mg:Str->Option Value
 base:Heap
 A:Around
 N:List Str
 s₀:Shared
 H₀:Hp
 env:Env
 outer:List Env
 stack:List Env
 ex:List Addr
 fn:Str->Bool
 calm:Bool
 pn:List (Addr×Obj)
 xe:Value->Shared->Prop
noncomputable def kq(l:List Env):List Addr:=l.filterMap (·.frame)
abbrev Cx.fs(X:Cx):List Addr:=kq X.outer
noncomputable def uy(a:Scope) (x:Str):Prop:=a.names.lookup x=some .local\/a.names.lookup x=some .cell\/a.names.lookup x=some .free
noncomputable def Loc(a:Scope) (x:Str):Prop:=a.names.lookup x=some .local\/a.names.lookup x=some .cell
noncomputable def Look(a:Env) (h:Heap) (m:Str->Option Value) (x:Str) (u:Value):Prop:=
 (a.kindOf x=some .local/\m x=some u)\/((a.kindOf x=some .cell\/a.kindOf x=some .free)/\∃c,a.cells.lookup x=some c/\h.IsCell c (some u))
structure Cx.Ok (X:Cx):Prop where
 mod:Mod X.K X.mg X.base
 kind:X.env.scope.kind=.function
 glob:X.env.globals=mainGlobals
 blt:X.env.builtins=builtinsNs
 above:X.s₀.heap.objs.size<=X.env.locals
 inj:∀x y c,X.env.cells.lookup x=some c->X.env.cells.lookup y=some c->x=y
 has:∀x,(X.env.kindOf x=some .cell\/X.env.kindOf x=some .free)->∃c,X.env.cells.lookup x=some c
 cab:∀x c,X.fn x=true->X.env.cells.lookup x=some c->X.s₀.heap.objs.size<=c
 hd:X.calm=true->X.A.handled=none
 frames:X.A.frames=some X.stack
 stk:X.stack=X.outer\/(X.stack=X.env::X.outer/\X.env.frame=some X.env.locals)
 exf:∀b∈X.ex,b≠X.env.locals/\∀x c,X.env.cells.lookup x=some c->c≠b
 bs:∀b o,X.base.get? b=some o->X.s₀.heap.get? b=some o/\X.H₀ b=none
 bsz:X.base.objs.size<=X.s₀.heap.objs.size
 noex:∀b o,X.base.get? b=some o->b∉X.ex
 exfs:∀b∈X.ex,b∉X.fs
 funs:X.s₀.heap.FunFrames X.base X.outer
 frf:∀b∈X.fs,X.H₀ b=none
def sI(A:Around) (H:Hp):Prop:=∀v,A.handled=some v->∃a o,v=.ref a/\H a=some (.frz o (.ext λ_=>True))/\∃b,o.data=.fields b/\b[2]?=some .none
theorem sI.map(h:sI A H)(f:∀b o u,H b=some (.frz o u)->H' b=some (.frz o u)):sI A H':=λv e=>let ⟨a,o,h1,h2,h3⟩:=h v e;⟨a,o,h1,f _ _ _ h2,h3⟩
theorem sI.none{A:Around}(h:A.handled=.none):sI A H:=λv e=>by rw[h] at e;cases e
structure Inv (X:Cx) (aU:List (Addr×Obj)) (σ:List (Option V)) (H:Hp) (s:Shared):Prop where
 ok:X.Ok
 os:s.os=X.s₀.os
 bare:AllBare s.gens
 base:Un X.fs X.ex X.H₀ H X.s₀.heap s.heap
 loc:∃m,s.heap.Ns X.env.locals m/\∀(i:Nat) (x:Str) (v:V),X.N[i]?=some x->σ[i]?=some (some v)->uy X.env.scope x->∃u,RelV v u/\Look X.env s.heap m x u
 cell:∀x c,X.env.cells.lookup x=some c->∃v,s.heap.IsCell c v
 free:H X.env.locals=none
 freeC:∀x c,X.env.cells.lookup x=some c->H c=none
 pin:∀p∈X.pn++aU,s.heap.get? p.1=some p.2/\H p.1=none/\p.1≠X.env.locals/\p.1∉X.fs/\∀v,p.2.data≠.cell v
 hok:fu X.prog X.w H s.heap
 len:σ.length=X.N.length
 hnd:sI X.A H
theorem Cx.Ok.nofr{X:Cx}(a:X.Ok) (e:X.base.get? b=some o):b∉X.fs:=λc=>by
 have:=(a.funs.mem c).1;rw[e] at this;cases this
theorem Inv.bs(I:Inv X aU σ H s):∀b o,X.base.get? b=some o->s.heap.get? b=some o/\H b=none:=λb o e=>
 ⟨I.base.keep b o (I.ok.bs b o e).1 (I.ok.bs b o e).2 (I.ok.nofr e) (I.ok.noex b o e),I.base.free b o (I.ok.bs b o e).1 (I.ok.bs b o e).2 (I.ok.noex b o e)⟩
theorem Inv.bk(I:Inv X aU σ H s):∀b o,X.base.get? b=some o->s.heap.get? b=some o:=λb o e=>(I.bs b o e).1
theorem Inv.mod(I:Inv X aU σ H s):Mod X.K X.mg X.base:=I.ok.mod
theorem Inv.kIn(I:Inv X aU σ H s):X.K.In s.heap:=I.ok.mod.kin.keeps I.bk
theorem Inv.lt(I:Inv X aU σ H s):X.env.locals<s.heap.objs.size:=let ⟨_,hn,_⟩:=I.loc;hn.lt
theorem Inv.sz(I:Inv X aU σ H s):X.s₀.heap.objs.size<=s.heap.objs.size:=ax I.ok.above (dg I.lt)
theorem Inv.nofs(I:Inv X aU σ H s) (h:s.heap.objs.size<=a):a∉X.fs:=λb=>by
 obtain⟨_,o,c,_⟩:=I.ok.funs.mem b;exact absurd (da (cW c) (ax I.sz h)) (oi _)
theorem Inv.cne(I:Inv X aU σ H s):∀x c,X.env.cells.lookup x=some c->c≠X.env.locals:=λx c e z=>by
 obtain⟨v,o,f,d⟩:=I.cell x c e;obtain⟨m,⟨g,i,h,b,a,_⟩,_⟩:=I.loc;rw[z,b] at f;cases f;rw[a] at d;cases d
theorem Inv.funs(I:Inv X aU σ H s):s.heap.FunFrames X.base X.outer:=by
 have d:∀(l:List Env),(∀b∈kq l,b∈X.fs)->X.s₀.heap.FunFrames X.base l->s.heap.FunFrames X.base l:=by
  intro l
  induction l with
  |nil=>intro _ _;trivial
  |cons env r ih=>
   intro g j;obtain⟨n,⟨L,o,f,h,m,k⟩,i⟩:=j;have c:L∈X.fs:=g L (by unfold kq;rw[Dm,f];exact dk);obtain⟨p,e⟩:=I.base.slot L o m (I.ok.frf L c) c λz=>I.ok.exfs L z c
   exact⟨n,⟨L,_,f,h,e,k⟩,ih (λb a=>g b (by unfold kq;rw[Dm,f];exact bT _ a)) i⟩
 exact d X.outer (λ_ a=>a) I.ok.funs
theorem Inv.stack(I:Inv X aU σ H s):s.heap.FunFrames X.base X.stack:=by
 rcases I.ok.stk with e|⟨e,a⟩
 ·rw[e];exact I.funs
 ·rw[e];obtain⟨m,b,_⟩:=I.loc;refine .cons (by rw[I.ok.kind];decide) a b ?_ I.funs;exact Heap.get?_none_of_le (ax I.ok.bsz I.ok.above)
theorem Inv.stkSub(I:Inv X aU σ H s):∀b∈kq X.stack,b∈X.env.locals::X.fs:=λb a=>by
 rcases I.ok.stk with e|⟨e,c⟩
 ·rw[e] at a;exact bT _ a
 ·rw[e] at a;unfold kq at a;rw[Dm,c] at a;exact a
theorem Inv.stkFree(I:Inv X aU σ H s):∀b∈kq X.stack,H b=none:=λb hb=>by
 rcases bZ.mp (I.stkSub b hb) with e|hb
 ·rw[e];exact I.free
 ·obtain⟨_,o,a,_⟩:=I.ok.funs.mem hb;exact I.base.free b o a (I.ok.frf b hb) λz=>I.ok.exfs b z hb
section
variable {X:Cx}{aU:List (Addr×Obj)}{σ:List (Option V)}{H:Hp}{H':Hp}{s:Shared}{h':Heap}
theorem Inv.step{g':Array GenState}{t':Nat}{d':Drawn}{ch:List Addr}(I:Inv X aU σ H s)
  (g:∀b∈ch,(b∈X.ex\/X.s₀.heap.objs.size<=b)/\b≠X.env.locals/\(∀x c,X.env.cells.lookup x=some c->c≠b)/\∀p∈X.pn++aU,p.1≠b)
  (j:∀b o,b≠X.env.locals->b∉X.fs->b∉ch->s.heap.get? b=some o->H b=none->h'.get? b=some o)
  (C:∀b o,b≠X.env.locals->b∈X.fs->b∉ch->s.heap.get? b=some o->H b=none->∃sl,h'.get? b=some {o with slots:=sl})(f:∀b o,b∉ch->s.heap.get? b=some o->H b=none->H' b=none)
  (J:∀b o,b∉ch->s.heap.get? b=some o->∃Y,h'.get? b=some Y)
  (a0:∀b E,H b=some (.tup E)->H' b=some (.tup E))(A:∀b o u,H b=some (.frz o u)->H' b=some (.frz o u))(U:∀b ps,H b=some (.tbl ps)->∃S,H' b=some (.tbl (ps++S)))
  (ns:∀m,s.heap.Ns X.env.locals m->h'.Ns X.env.locals m)(a2:fu X.prog X.w H' h')(hg:AllBare g'):
  Inv X aU σ H' {s with heap:=h',gens:=g',drawn:=d',toks:=t'}:=by
 have Q:∀b o,X.s₀.heap.get? b=some o->b≠X.env.locals:=λb o e=>dO (da (cW e) I.ok.above)
 have w:∀b o,X.s₀.heap.get? b=some o->b∉X.ex->b∉ch:=λb o e a G=>by
  rcases(g b G).1 with z|z
  ·exact a z
  ·exact absurd (da (cW e) z) (oi _)
 have t:∀x c,X.env.cells.lookup x=some c->∀v,s.heap.IsCell c v->h'.IsCell c v:=λx c e v a1=>by
  obtain⟨o,P,hd⟩:=a1;have h:c∉ch:=λz=>(g c z).2.2.1 x c e rfl
  by_cases hc:c∈X.fs
  ·obtain⟨sl,q⟩:=C c o (I.cne x c e) hc h P (I.freeC x c e);exact⟨_,q,hd⟩
  ·exact⟨o,j c o (I.cne x c e) hc h P (I.freeC x c e),hd⟩
 refine⟨I.ok,I.os,hg,⟨λb o e n G a=>?_,λb o e n G a=>?_,λb o e n a=>?_,λb o e a=>?_,λb E e=>a0 b E (I.base.tups b E e),λb o E e=>A b o E (I.base.frzs b o E e),λb ps e=>?_⟩,?_,λx c e=>?_,?_,λx c e=>?_,λp hp=>?_,a2,I.len,I.hnd.map A⟩
 ·exact j b o (Q b o e) G (w b o e a) (I.base.keep b o e n G a) (I.base.free b o e n a)
 ·obtain⟨sl,y⟩:=I.base.slot b o e n G a;obtain⟨a3,e2⟩:=C b _ (Q b o e) G (w b o e a) y (I.base.free b o e n a);exact⟨a3,e2⟩
 ·obtain⟨Y,y⟩:=I.base.there b o e a;exact f b Y (w b o e a) y (I.base.free b o e n a)
 ·obtain⟨Y,y⟩:=I.base.there b o e a;exact J b Y (w b o e a) y
 ·obtain⟨m1,y⟩:=I.base.tbls b ps e;obtain⟨m2,e2⟩:=U b _ y;exact⟨m1++m2,by rw[e2,Array.append_assoc]⟩
 ·obtain⟨m,hn,hl⟩:=I.loc;refine⟨m,ns m hn,λi x v y e2 e3=>?_⟩;obtain⟨u,r,l⟩:=hl i x v y e2 e3;refine⟨u,r,?_⟩;rcases l with l|⟨k,c,e,z⟩
  ·exact .inl l
  ·exact .inr ⟨k,c,e,t x c e _ z⟩
 ·obtain⟨v,z⟩:=I.cell x c e;exact⟨v,t x c e v z⟩
 ·obtain⟨m,⟨o,_,_,P,_⟩,_⟩:=I.loc;exact f _ o (λz=>(g _ z).2.1 rfl) P I.free
 ·obtain⟨v,o,P,hd⟩:=I.cell x c e;exact f c o (λz=>(g c z).2.2.1 x c e rfl) P (I.freeC x c e)
 ·obtain⟨e,n,ne,nf,d⟩:=I.pin p hp;have h:p.1∉ch:=λz=>(g p.1 z).2.2.2 p hp rfl
  exact⟨j p.1 p.2 ne nf h e n,f p.1 p.2 h e n,ne,nf,d⟩
theorem Inv.un{t':Nat}(I:Inv X aU σ H s)(u:Un X.fs [] H H' s.heap h')(g:fu X.prog X.w H' h'):Inv X aU σ H' {s with heap:=h',toks:=t'}:=by
 obtain⟨m,⟨o,q,p,h,r⟩,_⟩:=id I.loc;obtain⟨t,i⟩:=u.any h I.free (by simp)
 exact I.step (g':=s.gens) (d':=s.drawn) (ch:=[]) (λ_ z=>nomatch z) (λb o _ d _ e n=>u.keep b o e n d (by simp)) (λb o _ d _ e n=>u.slot b o e n d (by simp)) (λb o _ e n=>u.free b o e n (by simp)) (λb o _ e=>u.there b o e (by simp)) u.tups u.frzs u.tbls (λv j=>by
  obtain⟨l,f,c,a,k⟩:=j;rw[h] at a;cases a
  exact⟨_,f,c,i,k⟩) g I.bare
theorem Inv.call{g':Array GenState}{t':Nat}{d':Drawn}{ch:List Addr}(I:Inv X aU σ H s)(u:Un (kq X.stack) ch H H' s.heap h')(i:fu X.prog X.w H' h')(q:AllBare g')
  (d:∀b∈ch,(b∈X.ex\/X.s₀.heap.objs.size<=b)/\b≠X.env.locals/\(∀x c,X.env.cells.lookup x=some c->c≠b)/\∀p∈X.pn++aU,p.1≠b):
  Inv X aU σ H' {s with heap:=h',gens:=g',drawn:=d',toks:=t'}:=by
 obtain⟨m,⟨o,A,y,k,r⟩,_⟩:=id I.loc;obtain⟨C,h⟩:=u.any k I.free λz=>(d _ z).2.1 rfl
 exact I.step (ch:=ch) d (λb o h l a e n=>u.keep b o e n (λz=>(bZ.mp (I.stkSub b z)).elim h l) a) (λb o _ _ a e n=>u.any e n a) (λb o a e n=>u.free b o e n a) (λb o a e=>u.there b o e a) u.tups u.frzs u.tbls (λE v=>by
  obtain⟨w,j,g,f,t⟩:=v;rw[k] at f;cases f
  exact⟨_,j,g,h,t⟩) i q
end
section
variable {X:Cx}{aU:List (Addr×Obj)}{σ:List (Option V)}{H:Hp}{s:Shared}{h':Heap}
theorem Inv.turned{t':Nat}{it:Addr}(I:Inv X aU σ H s)(k:∀b o,b≠it->s.heap.get? b=some o->h'.get? b=some o)(j:H it=none)(f:it≠X.env.locals)
  (y:it∈X.ex\/X.s₀.heap.objs.size<=it)(i:∀x c,X.env.cells.lookup x=some c->c≠it)(g:∀p∈X.pn++aU,p.1≠it):Inv X aU σ H {s with heap:=h',toks:=t'}:=by
 have d:∀b u,H b=some u->b≠it:=λb u e z=>by rw[z,j] at e;cases e
 refine I.step (g':=s.gens) (d':=s.drawn) (ch:=[it]) (λb h=>?_) (λb o _ _ a e _=>k b o (λz=>a (by simp[z])) e) (λb o _ _ a e _=>⟨o.slots,k b o (λz=>a (by simp[z])) e⟩) (λ_ _ _ _ n=>n)
  (λb o a e=>⟨o,k b o (λz=>a (by simp[z])) e⟩) (λ_ _ e=>e) (λ_ _ _ e=>e) (λb C e=>⟨#[],by rw[e];simp⟩) (λm A=>?_) (λb u e=>?_) I.bare
 ·have e:b=it:=by simpa using h
  subst e;exact⟨y,f,i,g⟩
 ·obtain⟨o,t,l,w,r⟩:=A;exact⟨o,t,l,k _ o (fO f) w,r⟩
 ·refine(I.hok b u e).stay (λc v a q=>k c v ?_ q) (λ_ q=>q) λ_ _ q=>q
  rcases a with z|z
  ·rw[z];exact d b u e
  ·exact d c _ z
end
theorem Inv.tok(I:Inv X aU σ H s)(t:Nat):Inv X aU σ H {s with toks:=t}:=I.un (h':=s.heap) (t':=t) Un.refl I.hok
theorem Inv.kept{h':Heap}(I:Inv X aU σ H s)(k:∀b u,s.heap.get? b=some u->h'.get? b=some u):Inv X aU σ H {s with heap:=h',toks:=t'}:=I.un (Un.kept k) (I.hok.kept k)
theorem Inv.laid{c:Heap}(I:Inv X aU σ H s)(k:∀b u,s.heap.get? b=some u->c.get? b=some u)(d:s.heap.objs.size<=a)(e:ba X.prog X.w (aZ H a o) c a o):
 Inv X aU σ (aZ H a o) {s with heap:=c,toks:=t'}:=I.un (Un.laid k d (I.hok.fresh d)) (I.hok.laid k d e)
theorem Inv.write{c:Heap}(I:Inv X aU σ H s)(f:AZ (H x))(g:e=x\/H e=some (.own x))(k:∀b u,b≠e->s.heap.get? b=some u->c.get? b=some u)(a:∃u,c.get? e=some u)
 (d:ba X.prog X.w (aZ H x o) c x o):Inv X aU σ (aZ H x o) {s with heap:=c,toks:=t'}:=I.un (Un.write f g k a) (I.hok.write f g k a d)
theorem Inv.pins_of(I:Inv X aU σ H s)(h:∀p∈a,s.heap.get? p.1=some p.2/\H p.1=none/\p.1≠X.env.locals/\p.1∉X.fs/\∀v,p.2.data≠.cell v):Inv X a σ H s:=
 ⟨I.ok,I.os,I.bare,I.base,I.loc,I.cell,I.free,I.freeC,λp b=>(dB.mp b).elim (λz=>I.pin p (ul _ z)) (h p),I.hok,I.len,I.hnd⟩
theorem Q9{N:List Str}(c:N.Nodup){i j:Nat}{x:Str}(a:N[i]?=some x)(b:N[j]?=some x):i=j:=by
 obtain⟨g,d⟩:=cU.mp a;obtain⟨f,e⟩:=cU.mp b;exact(C3 c).mp (d.trans e.symm)
theorem Sj{s:Shared}{M:Model}{i:Nat}{x:Str}(I:Inv X aU σ H s)(hN:X.N.Nodup)(U:X.N[i]?=some x)(t:Loc X.env.scope x)(r:RelV v u)
  (h:∀s',Inv X aU (σ.set i (some v)) H s'->(∃a,Heap.SameBut a s.heap s'.heap/\(a=X.env.locals\/X.env.cells.lookup x=some a))->Q () s')(hf:X.fn x=true\/X.env.scope.names.lookup x=some .local:=by first|exact .inl rfl|exact .inr rfl|assumption):wpAny M A (storeName X.env x u) Q E s:=by
 obtain⟨m,hn,hl⟩:=id I.loc;have a0:(X.env.scope.kind==.class||(X.env.scope.kind==.module&&X.env.locals != X.env.globals))=false:=by rw[I.ok.kind];rfl
 have G:i < σ.length:=by rw[I.len];exact(cU.mp U).1
 have J:=I.cne;have g:∀{a:Addr}{h':Heap},(∃o,s.heap.get? a=some o/\H a=none)->Heap.SameBut a s.heap h'->fu X.prog X.w H h':=λ{a h'} ha f b ob e=>by
  obtain⟨_,_,w⟩:=ha;refine(I.hok b ob e).stay (λc w' hc q=>(f.2 c ?_).trans q) (λ_ q=>q) λ_ _ q=>q
  rintro rfl;rcases hc with rfl|hc
  ·rw[w] at e;cases e
  ·rw[w] at hc;cases hc
 rcases t with hk|hk
 ·refine wpAny_storeName_local hk hn (λh' a3 f=>?_) a0;obtain⟨oL,_,_,a4,_⟩:=id hn;refine h _ ⟨I.ok,I.os,I.bare,⟨λb o e n P t=>?_,λb o e n P t=>?_,I.base.free,λb o e t=>?_,I.base.tups,I.base.frzs,I.base.tbls⟩,⟨_,a3,λj y v' l C e3=>?_⟩,λy c e=>?_,I.free,I.freeC,λp hp=>?_,g ⟨oL,a4,I.free⟩ f,by simpa using I.len,I.hnd⟩ ⟨_,f,.inl rfl⟩
  ·exact(f.2 b (dO (da (cW e) I.ok.above))).trans (I.base.keep b o e n P t)
  ·obtain⟨sl,l⟩:=I.base.slot b o e n P t;exact⟨sl,(f.2 b (dO (da (cW e) I.ok.above))).trans l⟩
  ·obtain⟨o',l⟩:=I.base.there b o e t;exact⟨o',(f.2 b (dO (da (cW e) I.ok.above))).trans l⟩
  ·by_cases hj:j=i
   ·subst hj;rw[U] at l;cases l
    rw[pW G] at C;cases C;exact⟨u,r,.inl ⟨hk,by simp⟩⟩
   ·rw[ft (fO hj)] at C;obtain⟨u',r',q⟩:=hl j y v' l C e3;refine⟨u',r',?_⟩;rcases q with⟨k,e⟩|⟨k,c,e,z⟩
    ·refine .inl ⟨k,?_⟩;have:y≠x:=λe=>hj (Q9 hN l (e ▸ U))
     simp[this,e]
    ·exact .inr ⟨k,c,e,z.sameBut f (J y c e)⟩
  ·obtain⟨w',z⟩:=I.cell y c e;exact⟨w',z.sameBut f (J y c e)⟩
  ·obtain⟨e,n,ne,nf,d⟩:=I.pin p hp;exact⟨(f.2 p.1 ne).trans e,n,ne,nf,d⟩
 ·have S:X.fn x=true:=by
   rcases hf with z|z
   ·exact z
   ·rw[z] at hk;cases hk
  obtain⟨c,hc⟩:=I.ok.has x (.inl hk);obtain⟨w',z⟩:=I.cell x c hc;refine wpAny_storeName_cell I.ok.kind hk hc z (λh' Y f=>?_);obtain⟨oc,a1,a2⟩:=id z;refine h {s with heap:=h'} ⟨I.ok,I.os,I.bare,⟨λb o e n P t=>?_,λb o e n P t=>?_,I.base.free,λb o e t=>?_,I.base.tups,I.base.frzs,I.base.tbls⟩,⟨m,hn.sameBut f (fO (J x c hc)),λj y v' l C e3=>?_⟩,λy c' e=>?_,I.free,I.freeC,λp hp=>?_,g ⟨oc,a1,I.freeC x c hc⟩ f,by simpa using I.len,I.hnd⟩ ⟨c,f,.inr hc⟩
  ·exact(f.2 b (dO (da (cW e) (I.ok.cab x c S hc)))).trans (I.base.keep b o e n P t)
  ·obtain⟨sl,l⟩:=I.base.slot b o e n P t;exact⟨sl,(f.2 b (dO (da (cW e) (I.ok.cab x c S hc)))).trans l⟩
  ·obtain⟨o',l⟩:=I.base.there b o e t;exact⟨o',(f.2 b (dO (da (cW e) (I.ok.cab x c S hc)))).trans l⟩
  ·by_cases hj:j=i
   ·subst hj;rw[U] at l;cases l
    rw[pW G] at C;cases C;exact⟨u,r,.inr ⟨.inl hk,c,hc,Y⟩⟩
   ·rw[ft (fO hj)] at C;obtain⟨u',r',q⟩:=hl j y v' l C e3;refine⟨u',r',?_⟩;rcases q with q|⟨k,c',e,z'⟩
    ·exact .inl q
    ·refine .inr ⟨k,c',e,z'.sameBut f ?_⟩;rintro rfl;exact hj (Q9 hN l (I.ok.inj _ _ _ e hc ▸ U))
  ·by_cases hcc:c'=c
   ·subst hcc;exact⟨_,Y⟩
   ·obtain⟨w2,z2⟩:=I.cell y c' e;exact⟨w2,z2.sameBut f hcc⟩
  ·obtain⟨e,n,ne,nf,d⟩:=I.pin p hp;refine⟨(f.2 p.1 ?_).trans e,n,ne,nf,d⟩;intro q;rw[q,a1] at e;have q':oc=p.2:=g7 e;exact d w' (by rw[←q'];exact a2)
theorem EN{M:Model}(I:Inv X aU σ H s)(b:X.N.Nodup)(c:X.N[i]?=some x)(d:Loc X.env.scope x)(r:RelV v u)
  (h:∀a,Inv X aU (σ.set i (some v)) H a->Q () a)(e:X.fn x=true\/X.env.scope.names.lookup x=some .local:=by first|exact .inl rfl|exact .inr rfl|assumption):wpAny M A (storeName X.env x u) Q E s:=
 Sj I b c d r (λa f _=>h a f) e
theorem Inv.call'{s':Shared}{ch:List Addr}(I:Inv X i σ H s)(l:s'.os=s.os)(u:Un (kq X.stack) ch H H' s.heap s'.heap)(d:fu X.prog X.w H' s'.heap)(k:AllBare s'.gens)
  (a:∀b∈ch,(b∈X.ex\/X.s₀.heap.objs.size<=b)/\b≠X.env.locals/\(∀x c,X.env.cells.lookup x=some c->c≠b)/\∀p∈X.pn++i,p.1≠b):Inv X i σ H' s':=by
 obtain⟨m,f,g,h,j⟩:=s';have e:j=s.os:=l;subst e;exact I.call (g':=f) (t':=h) (d':=g) u d k a
abbrev XK:=Value->Option Addr->Hp->Prop
noncomputable abbrev St:=List (Option V)
abbrev VK:=V->Hp->Prop
abbrev TE:=St->Hp->VK->Prop
abbrev TT:=St->Hp->(Bool->Hp->Prop)->Prop
abbrev TA:=St->Hp->(List V->Hp->Prop)->Prop
structure lm where
 nx:St->Hp->Prop
 rt:VK
 bk:St->Hp->Prop:=λ_ _=>False
 ct:St->Hp->Prop:=λ_ _=>False
abbrev TS:=lm->St->Hp->Prop
def EP(X:Cx) (d:List (Addr×Obj)) (b:St) (Q:VK) (u:Value) (c:Shared):Prop:=∃v a,Inv X d b a c/\RelV v u/\Q v a
def TP(X:Cx) (e:List (Addr×Obj)) (c:St) (Q:Bool->Hp->Prop) (b:Bool) (d:Shared):Prop:=∃a,Inv X e c a d/\Q b a
def AP(X:Cx) (f:List (Addr×Obj)) (d:St) (Q:List V->Hp->Prop) (c:List Value) (e:Shared):Prop:=∃b a,Inv X f d a e/\am b c/\Q b a
def SP(X:Cx) (c:List (Addr×Obj)) (D:lm) (f:Flow) (d:Shared):Prop:=
 match f with
 |.next=>∃a b,Inv X c a b d/\D.nx a b
 |.brk=>∃a b,Inv X c a b d/\D.bk a b
 |.cont=>∃a b,Inv X c a b d/\D.ct a b
 |.ret u=>∃v a b,Inv X c a b d/\RelV v u/\D.rt v b
def PE(X:Cx) (e:Expr) (t:TE):Prop:=
 ∀(b:List (Addr×Obj)) (s:Shared) (a:St) (H:Hp) (Q:VK),Inv X b a H s->t a H Q->wpAny (model X.prog X.w) X.A (eval e X.env) (EP X b a Q) X.xe s
def PT(X:Cx) (e:Expr) (t:TT):Prop:=
 ∀(b:List (Addr×Obj)) (s:Shared) (a:St) (H:Hp) (Q:Bool->Hp->Prop),Inv X b a H s->t a H Q->wpAny (model X.prog X.w) X.A (isTrue e X.env (eval e X.env)) (TP X b a Q) X.xe s
def PW(X:Cx) (e:Expr) (t:TT):Prop:=
 ∀(a:Sem Value) (c:List (Addr×Obj)) (s:Shared) (b:St) (H:Hp) (Q:Bool->Hp->Prop),Inv X c b H s->t b H Q->wpAny (model X.prog X.w) X.A (isTrue e X.env a) (TP X c b Q) X.xe s
theorem PW.pt(h:PW X e t):PT X e t:=h _
def PA(X:Cx) (d:List Expr) (t:TA):Prop:=
 ∀(b:Pos) (c:List (Addr×Obj)) (s:Shared) (a:St) (H:Hp) (Q:List V->Hp->Prop),Inv X c a H s->t a H Q->wpAny (model X.prog X.w) X.A (spliced (backTo b (starEach d X.env))) (AP X c a Q) X.xe s
def PS(X:Cx) (c:Stmt) (t:TS):Prop:=
 ∀(b:List (Addr×Obj)) (s:Shared) (a:St) (H:Hp) (D:lm),Inv X b a H s->t D a H->wpAny (model X.prog X.w) X.A (exec c X.env) (SP X b D) X.xe s
def jg(X:Cx) (c:List Stmt) (t:TS):Prop:=
 ∀(b:List (Addr×Obj)) (s:Shared) (a:St) (H:Hp) (D:lm),Inv X b a H s->t D a H->wpAny (model X.prog X.w) X.A (execs c X.env) (SP X b D) X.xe s
theorem bu{c:Type}{t:Sem c}{Q b:c->Shared->Prop}{M:Model}(h:wpAny M A t Q E s)(d:∀a s,Q a s->b a s):wpAny M A t b E s:=iq h d λ_ _ x=>x
def oH(i:Nat):TE:=λa H Q=>∃v,a[i]?=some (some v)/\Q v H
def tC(v:V):TE:=λ_ H Q=>Q v H
theorem HZ{X:Cx}(k:X.N[i]?=some x)(o:uy X.env.scope x)(f:(x==("__debug__" : Str))=false:=by decide)(d:(x==("__classdict__" : Str))=false:=by decide):PE X (.Name x pos) (oH i):=by
 intro t s j H Q I h;obtain⟨v,e,h⟩:=h;obtain⟨m,n,p⟩:=I.loc;obtain⟨u,r,l⟩:=p i x v k e o;have b:EP X t j Q u s:=⟨v,H,I,r,h⟩
 rcases l with⟨hk,q⟩|⟨hk,c,g,a⟩
 ·exact wpAny_Name (wpAny_loadName_local I.ok.kind hk n q b) f
 ·rcases hk with hk|hk
  ·exact wpAny_Name (wpAny_loadName_cell I.ok.kind hk g a b) f
  ·exact wpAny_Name (wpAny_loadName_free I.ok.kind hk g a b d) f
theorem HU{i j pos}:PE X (.Constant (.int i) j pos) (tC (.int i)):=λ_ _ _ H _ I h=>wpAny_Constant_int ⟨.int i,H,I.tok _,⟨_,rfl⟩,h⟩
theorem Gh{b j pos}:PE X (.Constant (.bool b) j pos) (tC (.bl b)):=λ_ _ _ H _ I h=>Constant_bool ⟨.bl b,H,I,rfl,h⟩
theorem HV{j pos}:PE X (.Constant .none j pos) (tC .non):=λ_ _ _ H _ I h=>Constant_none ⟨.non,H,I,rfl,h⟩
noncomputable def Gl(X:Cx) (x:Str):Prop:=X.env.kindOf x=some .globalImplicit
theorem xD(I:Inv X aU σ H s)(a:Gl X x)(c:X.mg x=some u)(h:Q u s)
  (b:(x==("__debug__" : Str))=false:=by decide):wpAny (model X.prog X.w) X.A (eval (.Name x pos) X.env) Q E s:=
 Calls.Name_function_global I.ok.kind a (Calls.loadGlobal_global (by rw[I.ok.glob];exact I.mod.glob.keeps I.bk) c h) b
theorem uE(I:Inv X aU σ H s)(d:Gl X x)(g:X.mg x=none)(c:bootBuiltins x=some u)(h:Q u s)
  (b:x≠"__name__":=by decide)(e:(x==("__debug__" : Str))=false:=by decide):wpAny (model X.prog X.w) X.A (eval (.Name x pos) X.env) Q E s:=by
 obtain⟨i,f,a⟩:=I.mod.blt;exact Calls.Name_function_global I.ok.kind d (Calls.loadGlobal_builtin (by rw[I.ok.glob];exact I.mod.glob.keeps I.bk) g (by rw[I.ok.blt];exact f.keeps I.bk) ((a x b).trans c) h) e
theorem Ei(a:Gl X x)(c:X.mg x=some u)(r:RelV v u)(b:(x==("__debug__" : Str))=false:=by decide):PE X (.Name x pos) (tC v):=
 λ_ _ _ H _ I h=>xD I a c ⟨v,H,I,r,h⟩ b
theorem uO(c:Gl X x)(e:X.mg x=none)(b:bootBuiltins x=some u)(r:RelV v u)(a:x≠"__name__":=by decide)(d:(x==("__debug__" : Str))=false:=by decide):PE X (.Name x pos) (tC v):=
 λ_ _ _ H _ I h=>uE I c e b ⟨v,H,I,r,h⟩ a d
def PC(X:Cx) (g:CmpOp) (a b:Expr) (t:TE):Prop:=
 ∀(f:List (Addr×Obj)) (s:Shared) (e:St) (H:Hp) (Q:VK),Inv X f e H s->t e H Q ->
  wpAny (model X.prog X.w) X.A (eval a X.env) (λv d=>wpAny (model X.prog X.w) X.A (eval b X.env) (λu c=>wpAny (model X.prog X.w) X.A (compareOp g v u) (EP X f e Q) X.xe c) X.xe d) X.xe s
def tB(t:TE):TT:=λa H Q=>t a H λx H1=>∃c,x=.bl c/\Q c H1
theorem HS(h:PC X op a b t)(e:behindInMarks op b=false:=by first|exact nobehind _ (by decide) (by decide)|rfl):PE X (.Compare a [op] [b] pos) t:=λf s c H Q I d=>wpAny_Compare1 (h f s c H Q I d) e
section
variable {X:Cx}{a:Expr}{b:Expr}{pos:Pos}
theorem Ii{e:CmpOp}{t:TE}(h:PC X e a b t)(g:behindInMarks e b=false:=by first|exact nobehind _ (by decide) (by decide)|rfl):PT X (.Compare a [e] [b] pos) (tB t):=by
 intro o s m H Q I k;refine wpAny_isTrue_Compare1 (bu (h o s m H _ I k) λv w g=>bu g λu r j=>bu j λc p f=>?_) g;obtain⟨x,H1,i,n,l⟩:=f;obtain⟨d,rfl,q⟩:=l;cases n;exact ox ⟨H1,i,q⟩
end
def P0(t u:TT):TT:=λa H Q=>t a H λc H1=>if c=true then u a H1 Q else Q false H1
def WM(t u:TT):TT:=λa H Q=>t a H λc H1=>if c=true then Q true H1 else u a H1 Q
def PN(t:TT):TT:=λa H Q=>t a H λc H1=>Q (!c) H1
section
variable {X:Cx}{a:Expr}{pos:Pos}{tA:TT}
theorem oQ(b:PT X a tA):PW X (.BoolOp .And [a] pos) tA:=by
 intro i f s d H Q I h;refine isTrue_and (bu (b f s d H Q I h) λc g e=>?_);cases c with
 |true=>exact isTrue_and_nil e
 |false=>exact e
theorem r0(b:PT X a tA):PW X (.BoolOp .Or [a] pos) tA:=by
 intro i f s d H Q I h;refine isTrue_or (bu (b f s d H Q I h) λc g e=>?_);cases c with
 |false=>exact isTrue_or_nil e
 |true=>exact e
end
section
variable {X:Cx}{a:Expr}{b:Expr}{pos:Pos}{tA:TT}{tB':TT}{rest:List Expr}
theorem r6(k:PT X a tA)(j:PW X (.BoolOp .And (b::rest) pos) tB'):PW X (.BoolOp .And (a::b::rest) pos) (P0 tA tB'):=by
 intro l f s i H Q I h;refine isTrue_and (bu (k f s i H _ I h) λc m d=>?_);obtain⟨H1,e,g⟩:=d;cases c with
 |true=>exact j l f m i H1 Q e g
 |false=>exact⟨H1,e,g⟩
theorem zS(k:PT X a tA)(j:PW X (.BoolOp .Or (b::rest) pos) tB'):PW X (.BoolOp .Or (a::b::rest) pos) (WM tA tB'):=by
 intro l f s i H Q I h;refine isTrue_or (bu (k f s i H _ I h) λc m d=>?_);obtain⟨H1,e,g⟩:=d;cases c with
 |true=>exact⟨H1,e,g⟩
 |false=>exact j l f m i H1 Q e g
end
theorem Ij(d:PT X a tA):PT X (.UnaryOp .Not a pos) (PN tA):=by
 intro e s b H Q I h;exact isTrue_not (d e s b H (λc H1=>Q (!c) H1) I h)
def zB(b tb:TE):TE:=λa H Q=>b a H λx H1=>∃c,x=.bl c/\if c=true then tb a H1 Q else Q (.bl false) H1
def yY(b:TE):TE:=λa H Q=>b a H λx H1=>∃c,x=.bl c/\Q (.bl (!c)) H1
theorem HX{op} (h:PE X a t):PE X (.BoolOp op [a] pos) t:=λd s b H Q I c=>BoolOp_one (h d s b H Q I c)
section
variable {X:Cx}{a:Expr}{b:Expr}{ta:TE}{tb:TE}{pos:Pos}{rest:List Expr}
theorem HR(k:PE X a ta)(j:PE X (.BoolOp .And (b::rest) pos) tb):PE X (.BoolOp .And (a::b::rest) pos) (zB ta tb):=by
 intro i s g H Q I h;refine BoolOp_and (bu (k i s g H _ I h) λv l e=>?_);obtain⟨x,H1,f,m,d⟩:=e;obtain⟨c,rfl,d⟩:=d;cases m;refine ox ?_;cases c with
 |true=>exact j i l g H1 Q f d
 |false=>exact⟨.bl false,H1,f,rfl,d⟩
end
section
variable {X:Cx}{a:Expr}{ta:TE}{pos:Pos}
theorem HW(f:PE X a ta):PE X (.UnaryOp .Not a pos) (yY ta):=by
 intro g s i H Q I h;refine UnaryOp_ (bu (f g s i H _ I h) λv k b=>?_);obtain⟨x,H1,e,j,d⟩:=b;obtain⟨c,rfl,d⟩:=d;cases j;exact not_of (ox ⟨.bl (!c),H1,e,rfl,d⟩)
end
def WN(t:TT) (b tb:TE):TE:=λa H Q=>t a H λc H1=>if c=true then b a H1 Q else tb a H1 Q
section
variable {X:Cx}{a:Expr}{b:Expr}{ta:TE}{tb:TE}{pos:Pos}{tA:TT}
theorem MC{c:Expr}(n:PT X c tA)(m:PE X a ta)(l:PE X b tb):PE X (.IfExp c a b pos) (WN tA ta tb):=by
 intro e s g H Q I h;refine wpAny_IfExp (bu (n e s g H _ I h) λd k f=>?_);obtain⟨H1,i,j⟩:=f;cases d with
 |true=>exact m e k g H1 Q i j
 |false=>exact l e k g H1 Q i j
end
def cV(K:Fg) (H:Hp) (a:Addr) (c:List V):Prop:=
 Rd H a (.lst c) \/
  ∃(o:Obj) (b:Array Value) (n:Nat),K.lookup a=some o/\o.cls=.type "list"/\o.dict=none/\o.data=.seq b n/\b.size<=sizeLine/\am c b.toList
def cx(K:Fg) (H:Hp) (a:Addr) (c:List V):Prop:=
 Rd H a (.tup c) \/
  ∃(o:Obj) (b:Array Value) (n:Nat),K.lookup a=some o/\o.cls=.type "tuple"/\o.data=.seq b n/\b.size<=sizeLine/\am c b.toList
noncomputable def Qt:Value->Option V
 |.none=>some .non
 |.bool b=>some (.bl b)
 |.int i _=>some (.int i)
 |.str x _=>some (.str x)
 |.bytes b _=>some (.byt b)
 |.float b _=>some (.flt b)
 |.ref a=>some (.ref a)
 |.type n=>some (.ty n)
 |_=>none
theorem RelV.abs(r:RelV x u):Qt u=some x:=by
 cases x with
 |non=>cases r;rfl
 |bl _=>cases r;rfl
 |int _=>obtain⟨t,rfl⟩:=r;rfl
 |str _=>obtain⟨t,rfl⟩:=r;rfl
 |byt _=>obtain⟨t,rfl⟩:=r;rfl
 |flt _=>obtain⟨t,rfl⟩:=r;rfl
 |ref _=>cases r;rfl
 |ty _=>cases r;rfl
theorem RelV.inj(r:RelV x u)(q:RelV y u):x=y:=g7 (r.abs.symm.trans q.abs)
theorem am.inj:∀{a c:List V}{b:List Value},am a b->am c b->a=c
 |_,_,_,.nil,.nil=>rfl
 |_,_,_,.cons r t,.cons r' t'=>by rw[r.inj r',am.inj t t']
section
variable {H:Hp}{a:Addr}{xs:List V}
theorem cV.of{K:Fg}(h:H a=some (.lst xs)):cV K H a xs:=.inl (.inl h)
theorem cx.of{K:Fg}(h:H a=some (.tup xs)):cx K H a xs:=.inl (.inl h)
end
theorem Inv.list(I:Inv X aU σ H s)(h:cV X.K H a xs):∃b:List Value,am xs b/\PlainL s.heap a b.toArray/\xs.length<=sizeLine:=by
 rcases h with h|⟨o,b,n,c,d,g,f,i,r⟩
 ·obtain⟨z,b,n,r,e⟩:=h.ok I.hok;exact⟨b,r,⟨_,n,e,rfl,rfl,rfl⟩,z⟩
 ·refine⟨b.toList,r,⟨o,n,I.kIn a o c,d,g,by simpa using f⟩,?_⟩;have e:=r.length;simp only[fM] at e;lia
theorem Inv.tuple(I:Inv X aU σ H s)(h:cx X.K H a xs):∃b:List Value,am xs b/\IsTup s.heap a b.toArray/\xs.length<=sizeLine:=by
 rcases h with h|⟨o,b,n,c,d,f,g,r⟩
 ·obtain⟨z,b,r,p⟩:=h.ok I.hok;exact⟨b,r,p,z⟩
 ·refine⟨b.toList,r,⟨o,I.kIn a o c,d,n,by simpa using f⟩,?_⟩;have e:=r.length;simp only[fM] at e;lia
theorem Inv.list_inj(I:Inv X aU σ H s)(h:cV X.K H a xs)(g:cV X.K H a ys):xs=ys:=by
 obtain⟨b,r,⟨o,n,e,_,_,d⟩,_⟩:=I.list h;obtain⟨its',j,⟨k,l,c,_,_,f⟩,_⟩:=I.list g;rw[e] at c;cases c
 rw[d] at f;injection f with i _
 have:b=its':=by simpa using congrArg Array.toList i
 subst this;exact r.inj j
theorem Inv.tuple_inj(I:Inv X aU σ H s)(h:cx X.K H a xs)(g:cx X.K H a ys):xs=ys:=by
 obtain⟨b,r,⟨o,e,_,n,d⟩,_⟩:=I.tuple h;obtain⟨its',j,⟨k,c,_,l,f⟩,_⟩:=I.tuple g;rw[e] at c;cases c
 rw[d] at f;injection f with i _
 have:b=its':=by simpa using congrArg Array.toList i
 subst this;exact r.inj j
noncomputable abbrev Cx.wish(X:Cx) (E:Value->Shared->Prop):Cx:={X with xe:=E}
abbrev Cx.nox(X:Cx):Cx:=X.wish λ_ _=>False
theorem Cx.Ok.wish{X:Cx}(a:X.Ok)(E:Value->Shared->Prop):(X.wish E).Ok:=
 ⟨a.mod,a.kind,a.glob,a.blt,a.above,a.inj,a.has,a.cab,a.hd,a.frames,a.stk,a.exf,a.bs,a.bsz,a.noex,a.exfs,a.funs,a.frf⟩
theorem Cx.Ok.unwish{X:Cx}(a:(X.wish E).Ok):X.Ok:=
 ⟨a.mod,a.kind,a.glob,a.blt,a.above,a.inj,a.has,a.cab,a.hd,a.frames,a.stk,a.exf,a.bs,a.bsz,a.noex,a.exfs,a.funs,a.frf⟩
theorem Inv.wish(I:Inv X aU σ H s)(E:Value->Shared->Prop):Inv (X.wish E) aU σ H s:=⟨I.ok.wish E,I.os,I.bare,I.base,I.loc,I.cell,I.free,I.freeC,I.pin,I.hok,I.len,I.hnd⟩
theorem Inv.unwish{X:Cx}(I:Inv (X.wish E) aU σ H s):Inv X aU σ H s:=⟨I.ok.unwish,I.os,I.bare,I.base,I.loc,I.cell,I.free,I.freeC,I.pin,I.hok,I.len,I.hnd⟩
theorem SP.unwish{X:Cx}{D:lm}(h:SP (X.wish E) aU D f s'):SP X aU D f s':=by
 cases f with
 |next=>obtain⟨a,b,I,q⟩:=h;exact⟨a,b,I.unwish,q⟩
 |brk=>obtain⟨a,b,I,q⟩:=h;exact⟨a,b,I.unwish,q⟩
 |cont=>obtain⟨a,b,I,q⟩:=h;exact⟨a,b,I.unwish,q⟩
 |ret u=>obtain⟨v,a,b,I,r,q⟩:=h;exact⟨v,a,b,I.unwish,r,q⟩
section
variable {X:Cx}{aU:List (Addr×Obj)}{σ:St}{H:Hp}{s:Shared}
theorem jg.nox{a:List Stmt}{t:TS}(h:jg X.nox a t):jg X a t:=λaU s σ H D I b=>
 iq (h aU s σ H D (I.wish _) b) (λ_ _ q=>q.unwish) λ_ _ z=>False.elim z
end
def yZ:TS:=λD a H=>D.nx a H
def PL(t u:TS):TS:=λD a H=>t {D with nx:=u D} a H
theorem Ks:jg X [] yZ:=λ_ _ a H _ I h=>CZ ⟨a,H,I,h⟩
section
variable {X:Cx}{au:Stmt}{rest:List Stmt}{t:TS}{u:TS}
theorem MM(g:PS X au t)(c:jg X rest u):jg X (au::rest) (PL t u):=by
 intro b s e H D I h;refine wpAny_execs_cons (bu (g b s e H {D with nx:=u D} I h) λf j q=>?_);cases f with
 |next=>
  obtain⟨a,d,i,q⟩:=q;exact c b j a d D i q
 |ret v=>exact q
 |brk=>exact q
 |cont=>exact q
end
section
variable {X:Cx}{au:Stmt}{t:TS}
theorem Kt(b:PS X au t):jg X [au] t:=by
 intro c s a H D I h;refine wpAny_execs_cons (bu (b c s a H D I h) λf d q=>?_);cases f with
 |next=>exact CZ q
 |ret v=>exact q
 |brk=>exact q
 |cont=>exact q
end
def rW:TS:=λD a H=>D.bk a H
theorem MJ:PS X (.Break pos) rW:=λ_ _ a H _ I h=>wpAny_Break ⟨a,H,I,h⟩
theorem Inv.quiet(I:Inv X aU σ H s):interactive X.env=false:=by simp[interactive,I.ok.kind]
def y6(b:TE):TS:=λD a H=>b a H λ_ H1=>D.nx a H1
section
variable {X:Cx}{e:Expr}{te:TE}{pos:Pos}
theorem Kq(d:PE X e te)(f:swapsWith e none pos.line X.env=pure false:=by rfl):PS X (.Expr e pos) (y6 te):=by
 intro c s a H D I h;exact wpAny_Expr_any (bu (d c s a H _ I h) λv j ⟨x,H1,b,i,g⟩=>⟨a,H1,b,g⟩) I.quiet f
end
def PM(b:TE):TS:=λD a H=>b a H D.rt
section
variable {X:Cx}{e:Expr}{te:TE}{pos:Pos}
theorem Ig(d:PE X e te):PS X (.Return (some e) pos) (PM te):=by
 intro c s a H D I h;exact wpAny_Return_some (bu (d c s a H _ I h) λv i ⟨x,H1,b,g,f⟩=>⟨x,a,H1,b,g,f⟩)
end
def PR(c:TT) (t u:TS):TS:=λD a H=>c a H λb H1=>if b=true then t D a H1 else u D a H1
section
variable {X:Cx}{t:TS}{u:TS}{pos:Pos}
theorem Gn{c:Expr}{a b:List Stmt}{k:TT}(o:PT X c k)(n:jg X a t)(m:jg X b u):PS X (.If c a b pos) (PR k t u):=by
 intro g s e H D I h;refine wpAny_If (bu (o g s e H _ I h) λd j f=>?_);obtain⟨H1,i,l⟩:=f;cases d with
 |true=>exact n g j e H1 D i l
 |false=>exact m g j e H1 D i l
end
abbrev TG:=V->St->Hp->(St->Hp->Prop)->Prop
abbrev sC:=List V->St->Hp->(St->Hp->Prop)->Prop
def PG(X:Cx) (a:Expr) (t:TG):Prop:=
 ∀(e:List (Addr×Obj)) (s:Shared) (d:St) (H:Hp) (v:V) (u:Value) (Q:St->Hp->Prop),Inv X e d H s->RelV v u->t v d H Q ->
  wpAny (model X.prog X.w) X.A (assign a X.env u) (λ_ f=>∃b c,Inv X e b c f/\Q b c) X.xe s
def sD(X:Cx) (g:List Expr) (t:sC):Prop:=
 ∀(f:List (Addr×Obj)) (s:Shared) (d:St) (H:Hp) (e:List V) (b:List Value) (Q:St->Hp->Prop),Inv X f d H s->am e b->t e d H Q ->
  wpAny (model X.prog X.w) X.A (assignInOrder ((assignEach g X.env).map (·.2)) b) (λ_ h=>∃a c,Inv X f a c h/\Q a c) X.xe s
abbrev sB:=V->V->V->Hp->(Hp->Prop)->Prop
def AW(X:Cx) (t:sB):Prop:=
 ∀(e:List (Addr×Obj)) (s:Shared) (d:St) (H:Hp) (o i v:V) (b c u:Value) (Q:Hp->Prop),Inv X e d H s->RelV o b->RelV i c->RelV v u->t o i v H Q ->
  wpAny (model X.prog X.w) X.A (setItem b c u) (λ_ f=>∃a,Inv X e d a f/\Q a) X.xe s
abbrev AU:=V->V->Hp->VK->Prop
def AX(X:Cx) (c:Operator) (t:AU):Prop:=
 ∀(b:List (Addr×Obj)) (s:Shared) (a:St) (H:Hp) (x y:V) (v u:Value) (Q:VK),Inv X b a H s->RelV x v->RelV y u->t x y H Q ->
  wpAny (model X.prog X.w) X.A (inplaceOp c v u) (EP X b a Q) X.xe s
def jb(i:Nat):TG:=λv a H Q=>Q (a.set i (some v)) H
theorem Kg{X:Cx}(a:X.N.Nodup)(b:X.N[i]?=some x)(c:Loc X.env.scope x)(d:X.fn x=true\/X.env.scope.names.lookup x=some .local:=by first|exact .inl rfl|exact .inr rfl|assumption):PG X (.Name x pos) (jb i):=by
 intro j s f H v u Q I r h;exact wpAny_assign_Name (EN I a b c r (λg e=>⟨_,H,e,h⟩) d)
def Qh:sC:=λb a H Q=>b=[]/\Q a H
def AM(t:TG) (u:sC):sC:=λd b H Q=>∃v r,d=v::r/\t v b H λa c=>u r a c Q
theorem Kh:sD X [] Qh:=by
 intro d s a H c b Q I r h;obtain⟨e,h⟩:=h;subst e;cases r;exact assignInOrder_nil ⟨a,H,I,h⟩
section
variable {X:Cx}
theorem ME{e:Expr}{a:List Expr}{t:TG}{u:sC}(n:PG X e t)(g:sD X a u)
  (j:(assignEach (e::a) X.env).map (·.2)=assign e X.env::(assignEach a X.env).map (·.2):=by rfl):sD X (e::a) (AM t u):=by
 intro d s m H q o Q I r h;obtain⟨v,p,k,h⟩:=h;subst k;cases r with
 |cons r rr=>
  rw[j];refine assignInOrder_cons (bu (n d s m H _ _ _ I r h) λ_ i c=>?_);obtain⟨b,H1,f,l⟩:=c;exact g d i b H1 _ _ Q f rr l
end
def Qf(K:Fg) (n:Nat) (t:sC):TG:=λv c H Q=>∃a b,v=.ref a/\cx K H a b/\b.length=n/\t b c H Q
theorem Ia{X:Cx}(q:X.calm=true)(h:sD X es t)
  (l:(assignEach es X.env).length=n:=by rfl)(d:(assignEach es X.env).findIdx? (·.1)=none:=by rfl):PG X (.Tuple es k pos) (Qf X.K n t):=by
 intro i s f H v u Q I r c;obtain⟨a,p,w,C,y,c⟩:=c;subst w;cases r;obtain⟨z,g,A,E⟩:=I.tuple C;refine assign_Tuple_tuple (I.ok.hd q) A (by simp[l,←y,g.length]) d λm x=>?_
 have j:Inv X i f H {s with heap:=m}:=I.kept (t':=s.toks) λb o e=>x b o (dO (cW e)) e
 exact h i _ f H p _ Q j (by simpa using g) c
def Qg(c b:TE) (t:sB):TG:=λv a H Q=>c a H λo H1=>b a H1 λi H2=>t o i v H2 λH3=>Q a H3
section
variable {X:Cx}{pos:Pos}
theorem H0{o i:Expr}{g f:TE}{t:sB}(n:PE X o g)(l:PE X i f)(m:AW X t)
  (j:∀v,assign (.Subscript o i pos) X.env v=(do
   let b ←holding [v] (eval o X.env)
   let c ←holding [v,b] (eval i X.env)
   standAt pos
   holding [v,b,c] (setItem b c v)
   release [v,b,c] []):=by intro _;rfl):PG X (.Subscript o i pos) (Qg g f t):=by
 intro e s d H v u Q I r h;rw[j];refine ae (jl (bu (n e s d H _ I h) λb C a=>?_));obtain⟨x,H1,q,p,J⟩:=a;refine ae (jl (bu (l e C d H1 _ q J) λc G a=>?_));obtain⟨y,H2,E,w,A⟩:=a;refine ae (CQ (ae (jl (bu (m e G d H2 x y v b c u _ E p w r A) λ_ P a=>?_))));obtain⟨H3,k,z⟩:=a;exact wpAny_release ⟨d,H3,k,z⟩
end
def oK(b:TE) (g:TG):TS:=λD a H=>b a H λx H1=>g x a H1 D.nx
section
variable {X:Cx}{pos:Pos}
theorem wL{a e:Expr}{c:TE}{g:TG}(l:PE X e c)(n:PG X a g)(k:swapsWithSole [a] e pos.line X.env=pure false:=by rfl)(m:swappedStores [a] e X.env=pure none:=by rfl)
  (p:(assignEach [a] X.env).map (·.2)=[assign a X.env]:=by rfl):PS X (.Assign [a] e pos) (oK c g):=by
 intro f s d H D I h;refine wpAny_Assign_stores (bu (l f s d H _ I h) λv j b=>?_) k m;obtain⟨x,H1,i,r,o⟩:=b;rw[p];exact bu (n f j d H1 x v _ i r o) λ_ t q=>q
theorem Ih{i:Nat}{x:Str}{e:Expr}{c:TE}{a:Pos}(f:X.N.Nodup)(j:X.N[i]?=some x)(l:Loc X.env.scope x)(m:PE X e c)(k:swapsWith e (some (.Name x a)) pos.line X.env=pure false:=by rfl)(p:X.fn x=true\/X.env.scope.names.lookup x=some .local:=by first|exact .inl rfl|exact .inr rfl|assumption):
  PS X (.Assign [.Name x a] e pos) (oK c (jb i)):=by
 intro r s o H D I h;refine wpAny_Assign_Name (bu (m r s o H _ I h) λv u b=>?_) k;obtain⟨y,H1,g,q,n⟩:=b;exact EN g f j l q (λt d=>⟨_,H1,d,n⟩) p
end
def PZ(i:Nat) (c:TE) (b:AU):TS:=λD a H=>∃x,a[i]?=some (some x)/\c a H λy H1=>b x y H1 λz H2=>D.nx (a.set i (some z)) H2
section
variable {X:Cx}{pos:Pos}
theorem Ic{i:Nat}{x:Str}{e:Expr}{C:TE}{p:Operator}{q:AU}{g:Pos}(Y:X.N.Nodup)(t:X.N[i]?=some x)(j:Loc X.env.scope x)(he:PE X e C)(Q:AX X p q)(S:X.fn x=true\/X.env.scope.names.lookup x=some .local:=by first|exact .inl rfl|exact .inr rfl|assumption):
  PS X (.AugAssign (.Name x g) p e pos) (PZ i C q):=by
 intro n s E H D I h;obtain⟨v,e1,h⟩:=h;obtain⟨m,G,P⟩:=I.loc;have o:uy X.env.scope x:=by rcases j with k|k;exact .inl k;exact .inr (.inl k)
 obtain⟨u,r,l⟩:=P i x v t e1 o;refine wpAny_AugAssign_Name ?_;have A:wpAny (model X.prog X.w) X.A (eval e X.env) (λw d=>wpAny (model X.prog X.w) X.A (inplaceOp p u w) (λr f=>wpAny (model X.prog X.w) X.A (storeName X.env x r) (λ_=>SP X n D .next) X.xe f) X.xe d) X.xe s:=by
  refine bu (he n s E H _ I h) λw s1 a=>?_
  obtain⟨y,H1,I1,U,q1⟩:=a;refine bu (Q n s1 E H1 v y u w _ I1 r U q1) λz s2 a=>?_
  obtain⟨zv,H2,I2,r2,q2⟩:=a;exact EN I2 Y t j r2 (λs3 J=>⟨_,H2,J,q2⟩) S
 rcases l with⟨hk,hm⟩|⟨hk,c,hc,b⟩
 ·exact wpAny_loadName_local I.ok.kind hk G hm A
 ·rcases hk with hk|hk
  ·exact wpAny_loadName_cell I.ok.kind hk hc b A
  ·rcases j with k|k
   ·have:X.env.scope.names.lookup x=some .free:=hk;rw[k] at this;cases this
   ·have:X.env.scope.names.lookup x=some .free:=hk;rw[k] at this;cases this
end
def Qa(f:Int->Int->Int):AU:=λx y H Q=>∃i j,x=.int i/\y=.int j/\Q (.int (f i j)) H
theorem Hg:AX X .Add (Qa λi j=>i+j):=by
 intro g s e H x y v u Q I d a h;obtain⟨i,j,b,c,q⟩:=h;subst b;subst c
 obtain⟨t,rfl⟩:=d;obtain⟨f,rfl⟩:=a;exact iadd_int ⟨.int _,H,I.tok _,⟨_,rfl⟩,q⟩
theorem Hh:AX X .Sub (Qa λi j=>i-j):=by
 intro g s e H x y v u Q I d a h;obtain⟨i,j,b,c,q⟩:=h;subst b;subst c
 obtain⟨t,rfl⟩:=d;obtain⟨f,rfl⟩:=a;exact isub_int ⟨.int _,H,I.tok _,⟨_,rfl⟩,q⟩
def rQ(c:TT) (tb:TS):TS:=λD a H=>∃W:Nat->St->Hp->Prop,(∃m,W m a H)/\∀m a H,W m a H ->
 c a H λb H1=>if b=true then ∃N:St->Hp->Prop,(∀d e,N d e->∃f,f<m/\W f d e)/\tb {D with nx:=N,ct:=N,bk:=D.nx} a H1 else D.nx a H1
section
variable {X:Cx}{pos:Pos}
theorem MK{c:Expr}{e:List Stmt}{x:TT}{tb:TS}(z:PassesOwn (model X.prog X.w) X.A X.env X.xe)(P:PT X c x)(G:jg X e tb):PS X (.While c e [] pos) (rQ x tb):=by
 intro o s S H D I h;obtain⟨W,⟨A,E⟩,g⟩:=h;refine wpAny_While (codeAny_whileLoop (λn U=>∃i w,Inv X o i w U/\W n i w) ?_ A ⟨S,H,I,E⟩);rintro n Q ⟨d,H1,J,C⟩;refine rz z (bu (P o Q d H1 _ J (g n d H1 C)) λb Y q=>?_);obtain⟨H2,y,k⟩:=q;cases b with
 |true=>
  obtain⟨N,u,k⟩:=k;rw[if_pos rfl];refine rz z (bu (G o Y d H2 _ y k) λf s3 j=>?_);cases f with
  |next=>
   obtain⟨a,H3,l,p⟩:=j;obtain⟨r,t,m⟩:=u a H3 p;exact⟨r,t,a,H3,l,m⟩
  |cont=>
   obtain⟨a,H3,l,p⟩:=j;obtain⟨r,t,m⟩:=u a H3 p;exact⟨r,t,a,H3,l,m⟩
  |brk=>exact j
  |ret v=>exact j
 |false=>
  rw[if_neg oB];exact CZ ⟨d,H2,y,k⟩
end
structure It where
 go:Nat->Hp->Prop
 yld:Nat->Hp->V->Hp->Prop
 stop:Nat->Hp->Prop
def gJ(X:Cx) (a:List (Addr×Obj)) (H:Hp) (b:Addr):Prop:=
 H b=none/\b≠X.env.locals/\b∉X.fs/\(b∈X.ex\/X.s₀.heap.objs.size<=b)/\(∀x c,X.env.cells.lookup x=some c->c≠b)/\∀p∈X.pn++a,p.1≠b
theorem Inv.fpOk(I:Inv X aU σ H s)(a:s.heap.objs.size<=b)(f:H' b=none):gJ X aU H' b:=by
 refine⟨f,yt (da I.lt a),I.nofs a,.inr (ax I.sz a),λx c e z=>?_,λp d z=>?_⟩
 ·obtain⟨v,q⟩:=I.cell x c e;exact absurd (da q.lt (by rw[z];exact a)) (oi _)
 ·exact absurd (da (cW (I.pin p d).1) (by rw[z];exact a)) (oi _)
structure jT (P:Program) (w:World) (K:Fg) (tg:Expr) (J:It) (fp:List Addr) (it:Addr) (tn:Nat->Heap->Prop):Prop where
 mem:it∈fp
 obj:∀i h,tn i h->∀b∈fp,∃o,h.get? b=some o/\∀v,o.data≠.cell v
 keep:∀i h h',tn i h->(∀b∈fp,∀o,h.get? b=some o->h'.get? b=some o)->tn i h'
 item:∀(X:Cx),X.prog=P->X.w=w->X.K=K->X.calm=true->∀(i:Nat) (aU:List (Addr×Obj)) (s:Shared) (σ:St) (H:Hp) (E:Value->Shared->Prop),Inv X aU σ H s->(∀b∈fp,gJ X aU H b)->tn i s.heap->J.go i H ->
  wpAny (model P w) X.A (pyNext (.ref it)) (λr s1=>∃u,r=some u /\
   wpAny (model P w) X.A (letOwnedTupleGo tg (.ref it) u) (λ_ s2=>∃x H',Inv X aU σ H' s2/\RelV x u/\J.yld i H x H'/\tn (i+1) s2.heap/\∀b∈fp,H' b=none) E s1) E s
 done:∀(X:Cx),X.prog=P->X.w=w->X.K=K->X.calm=true->∀(i:Nat) (aU:List (Addr×Obj)) (s:Shared) (σ:St) (H:Hp) (E:Value->Shared->Prop),Inv X aU σ H s->(∀b∈fp,gJ X aU H b)->tn i s.heap->J.stop i H ->
  wpAny (model P w) X.A (pyNext (.ref it)) (λr s1=>r=none/\Inv X aU σ H s1) E s
 self:∀(A:Around) (i:Nat) (s:Shared) (Q:Value->Shared->Prop) (E:Value->Shared->Prop),tn i s.heap->Q (.ref it) s->wpAny (model P w) A (pyIter (.ref it)) Q E s
abbrev TI:=St->Hp->(It->Hp->Prop)->Prop
def Uc(X:Cx) (g:List (Addr×Obj)) (i:St) (j:Expr) (R:It->Hp->Prop) (c:Value) (e:Shared):Prop:=
 ∃(d:Addr) (f:List Addr) (h:Nat->Heap->Prop) (J:It) (a:Hp),c=.ref d/\Inv X g i a e/\jT X.prog X.w X.K j J f d h/\h 0 e.heap/\(∀b∈f,gJ X g a b)/\R J a
def PI(X:Cx) (e a:Expr) (d:TI):Prop:=
 ∀(c:List (Addr×Obj)) (s:Shared) (b:St) (H:Hp) (R:It->Hp->Prop),Inv X c b H s->d b H R ->
  wpAny (model X.prog X.w) X.A (eval a X.env) (λv f=>wpAny (model X.prog X.w) X.A (pyIter v) (Uc X c b e R) X.xe f) X.xe s
theorem nL{M:Model}{s:Shared}(d:s.heap.get? it=some o)(e:o.cls=.type n)(c:o.data=.fields vs)
    (b:["enumerate","zip","dict_itemiterator","dict_reverseitemiterator","odict_iterator","itertools.zip_longest","itertools.pairwise"].contains n=false)(a:Q () s):wpAny M A (letOwnedTupleGo tg (.ref it) u) Q E s:=by
  unfold letOwnedTupleGo;cases tg <;> first
    |exact ar a
    | (cases u <;> first
        |exact ar a
        | (refine ae (wpAny_load d ?_)
           rw[e,c];show wpAny M A (if(["enumerate","zip","dict_itemiterator","dict_reverseitemiterator","odict_iterator","itertools.zip_longest","itertools.pairwise"].contains n&&vs[0]?==some (rawInt _))=true then _ else _) Q E s
           rw[if_neg (by intro h; rw[b,Bool.false_and] at h; cases h)]
           exact ar a))
def Qz(K:Fg) (a:Addr):It:=
 ⟨λi H=>∃b x,cV K H a b/\b[i]?=some x,λi H x c=>c=H/\∀b,cV K H a b->b[i]?=some x,λi H=>∃b,cV K H a b/\b.length<=i⟩
def Qy(K:Fg) (a:Addr):It:=
 ⟨λi H=>∃b x,cx K H a b/\b[i]?=some x,λi H x c=>c=H/\∀b,cx K H a b->b[i]?=some x,λi H=>∃b,cx K H a b/\b.length<=i⟩
noncomputable def DR(lo:Int) (n:Nat):It:=⟨λi _=>i<n,λi H x a=>a=H/\x=.int (lo+i),λi _=>n<=i⟩
theorem Ox{P:Program}{w:World}{K:Fg}{tg:Expr}(a it:Addr):jT P w K tg (Qz K a) [it] it (λi h=>h.IsListIter it a i) where
 mem:=by simp
 obj:=λi h f b g=>by
  have e:b=it:=by simpa using g
  subst e;obtain⟨o,e,c,d⟩:=f;exact⟨o,e,λv z=>by rw[d] at z;cases z⟩
 keep:=λi h l f k=>f.at λo e=>k it (by simp) o e
 item:=by
  intro X q A J hc i aU s σ H E I m f G;subst q A J;obtain⟨xs,x,n,r⟩:=G;obtain⟨Q,C,p,hz⟩:=I.list n;obtain⟨u,hu,ru⟩:=C.get r;obtain⟨t,S,f2,Y,U,y⟩:=m it (by simp);refine wpAny_pyNext_list_item f p.isList (x:=u) (by simpa using hu) λl j sb=>?_
  have I1:Inv X aU σ H {s with heap:=l}:=I.turned (t':=s.toks) (λb o g e=>(sb.2 b g).trans e) t S Y U y;obtain⟨o,e,c,d⟩:=id j;exact⟨u,rfl,nL (s:={s with heap:=l}) e c d (by decide) ⟨x,H,I1,ru,⟨rfl,λys hy=>by rw[I.list_inj hy n];exact r⟩,j,λb g=>(m b g).1⟩⟩
 done:=by
  intro X q A J hc i aU s σ H E I m f G;subst q A J;obtain⟨xs,n,r⟩:=G;obtain⟨Q,C,p,hz⟩:=I.list n;obtain⟨t,S,f2,Y,U,y⟩:=m it (by simp);have hl:=C.length;exact wpAny_pyNext_list_end (I.ok.hd hc) f p.isList (by simp;lia) λl eb=>⟨rfl,I.turned (t':=s.toks) (λb o g e=>eb b o g e) t S Y U y⟩
 self:=λ_ _ _ _ _ f h=>wpAny_pyIter_listiter f h
theorem UX{P:Program}{w:World}{K:Fg}{tg:Expr}(a it:Addr):jT P w K tg (Qy K a) [it] it (λi h=>h.IsTupleIter it a i) where
 mem:=by simp
 obj:=λi h f b g=>by
  have e:b=it:=by simpa using g
  subst e;obtain⟨o,e,c,d⟩:=f;exact⟨o,e,λv z=>by rw[d] at z;cases z⟩
 keep:=λi h m f k=>f.at λo e=>k it (by simp) o e
 item:=by
  intro X r C Q hc i aU s σ H E I n f J;subst r C Q;obtain⟨xs,x,q,t⟩:=J;obtain⟨j,G,p,hz⟩:=I.tuple q;obtain⟨u,hu,ru⟩:=G.get t;obtain⟨y,S,f2,Y,U,A⟩:=n it (by simp);refine wpAny_pyNext_tuple_item f (show s.heap.IsTuple a j.toArray from p) (x:=u) (by simpa using hu) λm l sb=>?_
  have I1:Inv X aU σ H {s with heap:=m}:=I.turned (t':=s.toks) (λb o g e=>(sb.2 b g).trans e) y S Y U A;obtain⟨o,e,c,d⟩:=id l;exact⟨u,rfl,nL (s:={s with heap:=m}) e c d (by decide) ⟨x,H,I1,ru,⟨rfl,λys hy=>by rw[I.tuple_inj hy q];exact t⟩,l,λb g=>(n b g).1⟩⟩
 done:=by
  intro X r C Q hc i aU s σ H E I n f J;subst r C Q;obtain⟨xs,q,t⟩:=J;obtain⟨j,G,p,hz⟩:=I.tuple q;obtain⟨y,S,f2,Y,U,A⟩:=n it (by simp);have hl:=G.length;exact wpAny_pyNext_tuple_end (I.ok.hd hc) f (show s.heap.IsTuple a j.toArray from p) (by simp;lia) λm eb=>⟨rfl,I.turned (t':=s.toks) (λb o g e=>eb b o g e) y S Y U A⟩
 self:=λ_ _ _ _ _ f h=>wpAny_pyIter_tupleiter f h
theorem UW{P:Program}{w:World}{K:Fg}{Q:Expr}(it:Addr)(lo:Int)(n:Nat):jT P w K Q (DR lo n) [it] it (λi h=>IsRangeIter h it (lo+(i:Nat)*1) ((n:Int)-(i:Nat)) 1) where
 mem:=by simp
 obj:=λi h a b c=>by
  have e:b=it:=by simpa using c
  subst e
  exact⟨_,a,λv z=>by
   have Y:Data.fields _=Data.cell v:=z
   cases Y⟩
 keep:=λi h f a k=>k it (by simp) _ a
 item:=by
  intro X j p u q i C s J H E I g a r;subst j p u;obtain⟨l,x,f2,A,y,m⟩:=g it (by simp);have W:=Walks.range (prog:=X.prog) (w:=X.w) (I.ok.hd q) it lo 1 n;refine W.item i s _ _ r a λv f G U d kk=>?_
  obtain⟨t,rfl⟩:=U;have S:Inv X C J H {s with heap:=f,toks:=G}:=I.turned (λb o c e=>kk b o (by simpa using c) e) l x A y m;refine⟨_,rfl,nL (s:={ s with heap:=f,toks:=G }) (n:="range_iterator") d rfl rfl (by decide) ⟨.int (lo + i),H,S,⟨t,?_⟩,⟨rfl,rfl⟩,d,λb c=>(g b c).1⟩⟩
  rw[Int.mul_one]
 done:=by
  intro X j p u q i C s J H E I g a r;subst j p u;obtain⟨l,x,f2,A,y,m⟩:=g it (by simp);exact wpAny_pyNext_range_end (I.ok.hd q) a (by have:n<=i:=r;lia) λf eb=>⟨rfl,I.turned (t':=s.toks) (λb o c e=>eb b o c e) l x A y m⟩
 self:=λ_ _ _ _ _ a h=>wpAny_pyIter_rangeiter a h
def AK(K:Fg) (d:TE):TI:=λb H R=>d b H λx H1=>∃a,x=.ref a/\(∃c,cV K H1 a c)/\R (Qz K a) H1
def Qb(K:Fg) (d:TE):TI:=λb H R=>d b H λx H1=>∃a,x=.ref a/\(∃c,cx K H1 a c)/\R (Qy K a) H1
section
variable {X:Cx}{tg:Expr}
theorem Kj{l:Expr}{g:TE}(m:PE X l g):PI X tg l (AK X.K g):=by
 intro u s j H R I h;refine bu (m u s j H _ I h) λv d f=>?_
 obtain⟨x,H1,c,t,r⟩:=f;obtain⟨a,e,⟨w,n⟩,q⟩:=r;subst e;cases t;obtain⟨k,y,p,z⟩:=c.list n;refine C5 p.isList ?_;refine⟨d.heap.objs.size,[d.heap.objs.size],_,_,H1,rfl,c.kept (t':=d.toks) λb o e=>dC _ e,Ox a _,⟨_,fL _ rfl,rfl,rfl⟩,λb i=>?_,q⟩;have e:b=d.heap.objs.size:=by simpa using i
 subst e;exact c.fpOk (bj _) (c.hok.fresh (bj _))
theorem Ib{l:Expr}{i:TE}(m:PE X l i):PI X tg l (Qb X.K i):=by
 intro u s k H R I h;refine bu (m u s k H _ I h) λv c f=>?_
 obtain⟨x,H1,d,t,r⟩:=f;obtain⟨a,e,⟨w,n⟩,q⟩:=r;subst e;cases t;obtain⟨g,y,p,z⟩:=d.tuple n;refine Df (show c.heap.IsTuple a g.toArray from p) ?_;refine⟨c.heap.objs.size,[c.heap.objs.size],_,_,H1,rfl,d.kept (t':=c.toks) λb o e=>dC _ e,UX a _,⟨_,fL _ rfl,rfl,rfl⟩,λb j=>?_,q⟩;have e:b=c.heap.objs.size:=by simpa using j
 subst e;exact d.fpOk (bj _) (d.hok.fresh (bj _))
end
theorem MP{s:Shared}{lo a:Int}{d:Nat}(I:Inv X aU σ H s)(j:-(2^62)<=lo)(g:lo<2^62)(l:-(2^62)<=a)(k:a<2^62)
  (q:R (DR lo (a-lo).toNat) H):wpAny (model X.prog X.w) X.A (pyIter (.ref s.heap.objs.size)) (Uc X aU σ tg R) E { s with heap:=s.heap.push { cls:=.type "range",data:=.fields #[.int lo t,.int a u,.int 1 v] },toks:=d }:=by
 refine wpAny_pyIter_range (IsRange.new ..) (small_one j g l k) ?_;have c:Inv X aU σ H { s with heap:=s.heap.push { cls:=.type "range",data:=.fields #[.int lo t,.int a u,.int 1 v] },toks:=d }:=I.kept λb o e=>dC _ e
 refine⟨(s.heap.push { cls:=.type "range",data:=.fields #[.int lo t,.int a u,.int 1 v] }).objs.size,[(s.heap.push { cls:=.type "range",data:=.fields #[.int lo t,.int a u,.int 1 v] }).objs.size],_,_,H,rfl,
  c.kept (t':=d) λb o e=>dC _ e,UW _ lo (a-lo).toNat,?_,λb f=>?_,q⟩
 ·have h:lo+((0:Nat):Int)*1=lo:=by simp
  have i:(((a-lo).toNat:Nat):Int)-((0:Nat):Int)=Builtin.Range.rangeSize lo a 1:=by rw[rangeSize_one];split<;>lia
  show IsRangeIter _ _ (lo+((0:Nat):Int)*1) ((((a-lo).toNat:Nat):Int)-((0:Nat):Int)) 1;rw[h,i];exact fL _ rfl
 ·have e:b=(s.heap.push { cls:=.type "range",data:=.fields #[.int lo t,.int a u,.int 1 v] }).objs.size:=by simpa using f
  subst e;exact c.fpOk (bj _) (c.hok.fresh (bj _))
def AJ(b:TA):TI:=λa H R=>b a H λc H1=>∃j:Int,c=[.int j]/\-(2^62)<=j/\j<2^62/\R (DR 0 j.toNat) H1
section
variable {X:Cx}{tg:Expr}
theorem Oa{a:Expr}{f:TA}{p b:Pos}(l:Gl X "range")(n:X.mg "range"=none)(i:PA X [a] f)(k:starEach [a] X.env=[(false,eval a X.env)]:=by rfl):PI X tg (.Call (.Name "range" p) [a] [] b) (AJ f):=by
 intro v s m H R I h;refine Call_ (uE I l n boot_range (TY (bu (i b v s m H _ I h) λw x c=>?_) k rfl));obtain⟨y,H1,g,u,d⟩:=c;obtain⟨j,e,d,o,q⟩:=d;subst e;cases u with
 |cons r rr=>
  cases rr;obtain⟨t,rfl⟩:=r;exact call_range_1 (MP g (by lia) (by lia) d o (by simpa using q))
end
def PU(f:TI) (g:TG) (tb:TS):TS:=λD a H=>f a H λJ H1=>∃W:Nat->Nat->St->Hp->Prop,(∃m,W 0 m a H1)/\∀i m a H,W i m a H ->
 (J.stop i H/\D.nx a H)\/(J.go i H/\∃N:St->Hp->Prop,(∀c b,N c b->∃e,e<m/\W (i+1) e c b)/\∀x b,J.yld i H x b->g x a b λd H2=>tb {D with nx:=N,ct:=N,bk:=D.nx} d H2)
noncomputable def gA(a:List Addr) (h:Heap):List (Addr×Obj):=a.filterMap λb=>(h.get? b).map λo=>(b,o)
theorem Cm{h:Heap}(a:b∈fp)(e:h.get? b=some o):(b,o)∈gA fp h:=List.mem_filterMap.mpr ⟨b,a,by rw[e];rfl⟩
theorem N2(c:p∈gA fp h):p.1∈fp/\h.get? p.1=some p.2:=by
 obtain⟨b,a,e⟩:=List.mem_filterMap.mp c;cases q:h.get? b with
 |none=>rw[q] at e;cases e
 |some o=>
  rw[q] at e;have d:(b,o)=p:=g7 e;subst d;exact⟨a,q⟩
theorem Inv.pinned(I:Inv X aU σ H s)(j:∀b∈c,gJ X aU H b)(h:∀b∈c,∃o,s.heap.get? b=some o/\∀v,o.data≠.cell v):Inv X (aU++gA c s.heap) σ H s:=
 I.pins_of λp i=>(dB.mp i).elim (λz=>I.pin p (lK _ z)) λz=>by
  obtain⟨a,e⟩:=N2 z;obtain⟨l,k,g,_⟩:=j p.1 a;obtain⟨o,f,d⟩:=h p.1 a;rw[e] at f;cases f
  exact⟨e,l,k,g,d⟩
theorem Inv.unpinned(I:Inv X (aU++pl) σ H s):Inv X aU σ H s:=I.pins_of λp a=>I.pin p (lK _ (ul _ a))
section
variable {X:Cx}{tg:Expr}
theorem Ie{p:Expr}{z:List Stmt}{wi:TI}{g:TG}{tb:TS}{a4:Pos}(U:PassesOwn (model X.prog X.w) X.A X.env X.xe)(hc:X.calm=true)(hi:PI X tg p wi)(hg:PG X tg g)(t:jg X z tb)
  (hs:∀x,foldedSetIterable p X.env x=pure x:=by intro _;rfl):PS X (.For tg p z [] a4) (PU wi g tb):=by
 intro C s σ H D I h;refine wpAny_For (bu (hi C s σ H _ I h) λv s1 h1=>bu h1 λa5 s2 h2=>?_) hs;obtain⟨it,G,tn,J,H2,e,I2,T,a0,f2,W,⟨m0,w0⟩,E⟩:=h2;subst e;have w:∀{H':Hp},(∀b∈G,H' b=none)->∀b∈G,gJ X C H' b:=λhn b t=>⟨hn b t,(f2 b t).2⟩
 refine codeAny_forLoop_any (λn s'=>∃i j H',Inv X C j H' s'/\tn i s'.heap/\(∀b∈G,H' b=none)/\W i n j H') ?_ m0 ⟨0,σ,H2,I2,a0,λb t=>(f2 b t).1,w0⟩;rintro n s3 ⟨i,l,H3,I3,Y,Q,w3⟩;rcases E i n l H3 w3 with⟨S,qn⟩|⟨go,N,hN,step⟩
 ·refine rz U (bu (T.done X rfl rfl rfl hc i C s3 l H3 X.xe I3 (w Q) Y S) λr s4 c=>?_);obtain⟨hr,I4⟩:=c;subst hr;exact CZ ⟨l,H3,I4,qn⟩
 ·refine rz U (bu (T.item X rfl rfl rfl hc i C s3 l H3 X.xe I3 (w Q) Y go) λr s4 c=>?_);obtain⟨u,hr,h4⟩:=c;subst hr;refine rz U (bu h4 λ_ s5 c=>?_);obtain⟨x,H5,I5,r5,y5,A,a1⟩:=c;have a2:=I5.pinned (w a1) (T.obj _ _ A);refine rz U (bu (hg _ s5 l H5 x u _ a2 r5 (step x H5 y5)) λ_ s6 c=>?_);obtain⟨a3,H6,I6,q6⟩:=c;refine rz U (bu (t _ s6 a3 H6 _ I6 q6) λf s7 y=>?_);have again:∀{a:St}{k:Hp},Inv X (C++gA G s5.heap) a k s7->N a k->∃m,m<n/\∃i j H',Inv X C j H' s7/\tn i s7.heap/\(∀b∈G,H' b=none)/\W i m j H':=λ{a k} q P=>by
   obtain⟨m',hm,w7⟩:=hN a k P;refine⟨m',hm,i+1,a,k,q.unpinned,T.keep _ _ _ A λb t o e=>(q.pin (b,o) (lK _ (lK _ (Cm t e)))).1,λb t=>?_,w7⟩;obtain⟨o,e,d⟩:=T.obj _ _ A b t;exact(q.pin (b,o) (lK _ (lK _ (Cm t e)))).2.1
  cases f with
  |next=>obtain⟨a,k,q,P⟩:=y;exact again q P
  |cont=>obtain⟨a,k,q,P⟩:=y;exact again q P
  |brk=>obtain⟨a,k,q,y⟩:=y;exact⟨a,k,q.unpinned,y⟩
  |ret v=>obtain⟨x7,a,k,q,r7,y⟩:=y;exact⟨x7,a,k,q.unpinned,r7,y⟩
end
abbrev R2:=V->V->Hp->VK->Prop
def dq(X:Cx) (f:Value->Value->Sem Value) (r:R2):Prop:=
 ∀(b:List (Addr×Obj)) (s:Shared) (a:St) (H:Hp) (x y:V) (v u:Value) (Q:VK),Inv X b a H s->RelV x v->RelV y u->r x y H Q ->
  wpAny (model X.prog X.w) X.A (f v u) (EP X b a Q) X.xe s
def Qu(X:Cx) (f:Value->Sem Value) (r:V->Hp->VK->Prop):Prop:=
 ∀(b:List (Addr×Obj)) (s:Shared) (a:St) (H:Hp) (x:V) (v:Value) (Q:VK),Inv X b a H s->RelV x v->r x H Q ->
  wpAny (model X.prog X.w) X.A (f v) (EP X b a Q) X.xe s
def bE(X:Cx) (f:Value) (r:List V->Hp->VK->Prop):Prop:=
 ∀(d:List (Addr×Obj)) (s:Shared) (a:St) (H:Hp) (b:List V) (c:List Value) (Q:VK),Inv X d a H s->am b c->r b H Q ->
  wpAny (model X.prog X.w) X.A (call f c) (EP X d a Q) X.xe s
def Qv(X:Cx) (r:V->Hp->(Bool->Hp->Prop)->Prop):Prop:=
 ∀(b:List (Addr×Obj)) (s:Shared) (a:St) (H:Hp) (x:V) (v:Value) (Q:Bool->Hp->Prop),Inv X b a H s->RelV x v->r x H Q ->
  wpAny (model X.prog X.w) X.A (truthy v) (TP X b a Q) X.xe s
def yX(r:R2) (b tb:TE):TE:=λa H Q=>b a H λx H1=>tb a H1 λy H2=>r x y H2 Q
def WK(r:V->Hp->VK->Prop) (b:TE):TE:=λa H Q=>b a H λx H1=>r x H1 Q
def rI(C:Int->Int->Prop) (g:Int->Int->V):R2:=λx y H Q=>∃i j,x=.int i/\y=.int j/\C i j/\Q (g i j) H
def lN(g:Int->Int->V):R2:=λx y H Q=>∃i j,x=.int i/\y=.int j/\Q (g i j) H
def rU(g:Int->V):V->Hp->VK->Prop:=λx H Q=>∃i,x=.int i/\Q (g i) H
section
variable {X:Cx}{a:Expr}{b:Expr}{ta:TE}{tb:TE}
theorem sr(n:PE X a ta)(k:PE X b tb){j:List (Addr×Obj)}{s:Shared}{d:St}{H:Hp}{R:V->V->Hp->Prop}(I:Inv X j d H s)
  (h:ta d H λx H1=>tb d H1 λy H2=>R x y H2){Q:Value->Shared->Prop}{f:Value->Value->Sem Value}
  (t:∀v u i x y H2,Inv X j d H2 i->RelV x v->RelV y u->R x y H2->wpAny (model X.prog X.w) X.A (f v u) Q X.xe i):
  wpAny (model X.prog X.w) X.A (eval a X.env) (λv g=>wpAny (model X.prog X.w) X.A (eval b X.env) (λu e=>wpAny (model X.prog X.w) X.A (f v u) Q X.xe e) X.xe g) X.xe s:=by
 refine bu (n j s d H _ I h) λv p c=>?_
 obtain⟨x,H1,m,w,q⟩:=c;refine bu (k j p d H1 _ m q) λu i c=>?_
 obtain⟨y,H2,l,o,r⟩:=c;exact t v u i x y H2 l w o r
end
section
variable {X:Cx}{a:Expr}{b:Expr}{ta:TE}{tb:TE}{pos:Pos}
theorem Gj{c:Operator}{r:R2}(k:dq X (binaryOp c) r)(g:PE X a ta)(e:PE X b tb):PE X (.BinOp a c b pos) (yX r ta tb):=by
 intro m s l H Q I h;exact wpAny_BinOp (sr g e I h λv u i x y H2 d f j q=>k m i l H2 x y v u Q d f j q)
end
section
variable {X:Cx}{a:Expr}{ta:TE}{pos:Pos}
theorem Gk{b:UnaryOp}{r:V->Hp->VK->Prop}(i:Qu X (unaryOp b) r)(f:PE X a ta):PE X (.UnaryOp b a pos) (WK r ta):=by
 intro c s d H Q I h;exact UnaryOp_ (bu (f c s d H _ I h) λv k ⟨x,H1,e,j,g⟩=>i c k d H1 x v Q e j g)
end
section
variable {X:Cx}
theorem DK{f:Value->Value->Sem Value}{C:Int->Int->Prop}{g:Int->Int->Int}
  (rule:∀(i j:Int) (t u:Tok) (s:Shared) (Q:Value->Shared->Prop) (E:Value->Shared->Prop),C i j->Q (.int (g i j) s.toks) {s with toks:=s.toks+1}->wpAny (model X.prog X.w) X.A (f (.int i t) (.int j u)) Q E s):
  dq X f (rI C λi j=>.int (g i j)):=by
 intro k s e H x y v u Q I a b h;obtain⟨i,j,rfl,rfl,c,q⟩:=h;obtain⟨t,rfl⟩:=a;obtain⟨d,rfl⟩:=b;exact rule i j t d s _ _ c ⟨.int (g i j),H,I.tok _,⟨_,rfl⟩,q⟩
theorem r8{f:Value->Value->Sem Value}{g:Int->Int->Int}
  (rule:∀(i j:Int) (t u:Tok) (s:Shared) (Q:Value->Shared->Prop) (E:Value->Shared->Prop),Q (.int (g i j) s.toks) {s with toks:=s.toks+1}->wpAny (model X.prog X.w) X.A (f (.int i t) (.int j u)) Q E s):
  dq X f (lN λi j=>.int (g i j)):=by
 intro e s d H x y v u Q I a b h;obtain⟨i,j,rfl,rfl,q⟩:=h;obtain⟨t,rfl⟩:=a;obtain⟨c,rfl⟩:=b;exact rule i j t c s _ _ ⟨.int (g i j),H,I.tok _,⟨_,rfl⟩,q⟩
theorem oR{f:Value->Value->Sem Value}{g:Int->Int->Bool}
  (rule:∀(i j:Int) (t u:Tok) (s:Shared) (Q:Value->Shared->Prop) (E:Value->Shared->Prop),Q (.bool (g i j)) s->wpAny (model X.prog X.w) X.A (f (.int i t) (.int j u)) Q E s):
  dq X f (lN λi j=>.bl (g i j)):=by
 intro e s d H x y v u Q I a b h;obtain⟨i,j,rfl,rfl,q⟩:=h;obtain⟨t,rfl⟩:=a;obtain⟨c,rfl⟩:=b;exact rule i j t c s _ _ ⟨.bl (g i j),H,I,rfl,q⟩
end
noncomputable def mP(i j:Int):Prop:=0<=j/\j<=1000000/\i.natAbs<2^64
noncomputable def dX(i j:Int):Prop:=(-(2^64)<i/\i<2^64)\/(-(2^64)<j/\j<2^64)
theorem dX.ok(h:dX i j):IntMulOk i j:=by
 rcases h with⟨a,b⟩|⟨a,b⟩
 ·exact .of_left (intBits_le_64 a b)
 ·exact .of_right (intBits_le_64 a b)
theorem HH:dq X (binaryOp .Add) (lN λi j=>.int (i+j)):=r8 λ_ _ _ _ _ _ _ q=>add_int q
theorem HM:dq X (binaryOp .Sub) (lN λi j=>.int (i-j)):=r8 λ_ _ _ _ _ _ _ q=>sub_int q
section
variable {X:Cx}
theorem lw:dq X (binaryOp .Mult) (rI dX λi j=>.int (i*j)):=DK λ_ _ _ _ _ _ _ a q=>mul_int q a.ok
end
theorem qi:dq X (binaryOp .Mod) (rI (λ_ j=>0<j) λi j=>.int (i%j)):=DK λi j _ _ _ _ _ a q=>by
 have b:(0:Int)<j:=a;exact mod_int' (by lia) (by rw[Int.fmod_eq_emod_of_nonneg i (by lia)];exact q)
section
variable {X:Cx}
theorem HL:dq X (binaryOp .Pow) (rI mP λi j=>.int (i^j.toNat)):=DK λ_ _ _ _ _ _ _ a q=>pow_int_small a.1 a.2.1 a.2.2 q
end
theorem qW:dq X (binaryOp .BitAnd) (lN λi j=>.int (Builtin.bitAnd i j)):=r8 λ_ _ _ _ _ _ _ q=>and_int q
section
variable {X:Cx}
theorem WJ{f:Value->Sem Value}{g:Int->Int}
  (rule:∀(i:Int) (t:Tok) (s:Shared) (Q:Value->Shared->Prop) (E:Value->Shared->Prop),Q (.int (g i) s.toks) {s with toks:=s.toks+1}->wpAny (model X.prog X.w) X.A (f (.int i t)) Q E s):
  Qu X f (rU λi=>.int (g i)):=by
 intro c s b H x v Q I a h;obtain⟨i,rfl,q⟩:=h;obtain⟨t,rfl⟩:=a;exact rule i t s _ _ ⟨.int (g i),H,I.tok _,⟨_,rfl⟩,q⟩
end
theorem IC:Qu X (unaryOp .USub) (rU λi=>.int (-i)):=WJ λ_ _ _ _ _ q=>neg_int q
theorem Hd(I:Inv X aU σ H s)(q:Q (.bl k) H)(e:k=k'):EP X aU σ Q (.bool k') s:=by
 subst e;exact⟨.bl k,H,I,rfl,q⟩
theorem Gf:dq X (compareOp .Lt) (lN λi j=>.bl (decide (i<j))):=oR λ_ _ _ _ _ _ _ q=>lt_int q
theorem lY:dq X (compareOp .LtE) (lN λi j=>.bl (decide (i<=j))):=oR λ_ _ _ _ _ _ _ q=>le_int q
theorem jv:dq X (compareOp .Gt) (lN λi j=>.bl (decide (j<i))):=oR λ_ _ _ _ _ _ _ q=>gt_int q
theorem Gd:dq X (compareOp .GtE) (lN λi j=>.bl (decide (j<=i))):=oR λ_ _ _ _ _ _ _ q=>ge_int q
theorem J7:dq X (compareOp .IsNot) (λx y H Q=>y=.non/\Q (.bl (!decide (x=.non))) H):=by
 intro d s c H x y v u Q I a b h;obtain⟨rfl,q⟩:=h;cases b;refine isnot_none_gen (Hd I q ?_);cases x<;>first
  | (cases a;rfl)
  | (obtain⟨t,rfl⟩:=a;rfl)
theorem dq.or(h:dq X f r)(e:dq X f r'):dq X f (λx y H Q=>r x y H Q\/r' x y H Q):=by
 intro d s c H x y v u Q I a b q;rcases q with q|q
 ·exact h d s c H x y v u Q I a b q
 ·exact e d s c H x y v u Q I a b q
theorem az(b:Expr) (h:op≠.In:=by decide)(c:op≠.NotIn:=by decide):behindInMarks op b=false:=by
 have d:(op==CmpOp.In)=false:=by cases op<;>first|rfl|exact absurd rfl h
 have a:(op==CmpOp.NotIn)=false:=by cases op<;>first|rfl|exact absurd rfl c
 cases b<;>simp[behindInMarks,d,a]
theorem Kd(j:dq X (compareOp op) r)(f:PE X a ta)(d:PE X b tb)(l:behindInMarks op b=false):PE X (.Compare a [op] [b] pos) (yX r ta tb):=by
 intro m s k H Q I h;exact wpAny_Compare1 (sr f d I h λv u g x y H2 c e i q=>j m g k H2 x y v u Q c e i q) l
def pZ(t:TE):TT:=λa H Q=>t a H λx b=>∃k,x=.bl k/\Q k b
section
variable {X:Cx}{a:Expr}{b:Expr}{c:Expr}{ta:TE}{tb:TE}{pos:Pos}
theorem Ku{g:CmpOp}{r:R2}(l:dq X (compareOp g) r)(i:PE X a ta)(n:PE X b tb)(J:behindInMarks g b=false):PT X (.Compare a [g] [b] pos) (pZ (yX r ta tb)):=by
 intro d s f H Q I h
 refine wpAny_isTrue_Compare1 (bu (i d s f H _ I h) λv w ⟨x,H1,o,m,G⟩=>bu (n d w f H1 _ o G) λu E ⟨y,H2,A,p,t⟩=>
  bu (l d E f H2 x y v u _ A m p t) λc P ⟨z,H3,j,C,k,e,q⟩=>?_) J
 subst e;cases C;exact ox ⟨H3,j,q⟩
end
def ml(r f:R2) (d tb e:TE):TE:=λa H Q=>d a H λx H1=>tb a H1 λy H2=>r x y H2 λz H3=>∃k,z=.bl k /\
 (if k=true then e a H3 λc b=>f y c b Q else Q (.bl false) H3)
section
variable {X:Cx}{a:Expr}{b:Expr}{c:Expr}{ta:TE}{tb:TE}{tc:TE}{pos:Pos}
theorem MN{l f:CmpOp}{r o:R2}(G:dq X (compareOp l) r)(m:dq X (compareOp f) o)(A:PE X a ta)(P:PE X b tb)(hc:PE X c tc)
  (hm:lastMarks [l,f] [b,c]=false:=by with_unfolding_all rfl):PT X (.Compare a [l,f] [b,c] pos) (pZ (ml r o ta tb tc)):=by
 intro g s i H Q I h
 refine isTrue_chain (bu (A g s i H _ I h) λv s1 ⟨x,H1,S,J,q1⟩=>test_link (bu (P g s1 i H1 _ S q1) λu s2 ⟨y,H2,I2,p,q2⟩=>
  bu (G g s2 i H2 x y v u _ I2 J p q2) λd s3 ⟨z,H3,n,r3,k,e,q⟩=>?_)) hm
 subst e;cases r3;refine ox ?_;cases k with
 |false=>
  obtain⟨k',e',w⟩:=q;cases e';exact ite_ff ⟨H3,n,w⟩
 |true=>
  refine ite_tt (test_last (bu (hc g s3 i H3 _ n q) λC E ⟨z',H4,I4,t,U⟩=>bu (m g E i H4 y z' u C _ I4 p t U) λd' s5 j=>?_));obtain⟨z2,Y,I5,r5,k2,e2,q5⟩:=j;subst e2;cases r5;exact ox ⟨Y,I5,q5⟩
end
def sA(K:Fg) (x:V) (H:Hp) (k:Bool):Prop:=
 match x with
 |.non=>k=false
 |.bl b=>k=b
 |.int i=>k=(i != 0)
 |.str y=>y.length<=sizeLine/\k=((y.length:Int) != 0)
 |.byt y=>y.size<=sizeLine/\k=((y.size:Int) != 0)
 |.ref p=>(∃a,cV K H p a/\k=!a.isEmpty)\/(∃a,cx K H p a/\k=!a.isEmpty)\/∃c,H p=some (.dK c)/\k=!c.isEmpty
 |_=>False
theorem UA{b:Type}{a:List (b×V)}{c:List (b×Value)}(r:KV a c):(!c.isEmpty)=!a.isEmpty:=by
 cases r<;>rfl
theorem SI(r:am xs its):(!its.toArray.isEmpty)=!xs.isEmpty:=by
 cases r<;>simp
theorem fV:(sizeLine:Nat)<2^63:=by rw[l6];decide
section
variable {X:Cx}{b:Expr}
theorem IA:Qv X (λx H Q=>∃k,sA X.K x H k/\Q k H):=by
 intro E s z H x v Q I g h;obtain⟨k,e,q⟩:=h;have C:=fV;have A:sizeLine=16777216:=l6;cases x with
 |non=>
  cases g;have a:k=false:=e;subst a;exact truthy_none ⟨H,I,q⟩
 |bl b=>
  cases g;have a:k=b:=e;subst a;exact ox ⟨H,I,q⟩
 |int i=>
  obtain⟨t,rfl⟩:=g;have a:k=(i != 0):=e;subst a;exact PySem.P.truthy_int ⟨H,I,q⟩
 |str y=>
  obtain⟨t,rfl⟩:=g;obtain⟨w,a⟩:y.length<=sizeLine/\k=((y.length:Int) != 0):=e;subst a;exact PySem.P.truthy_str (by lia) ⟨H,I.tok _,q⟩
 |byt y=>
  obtain⟨t,rfl⟩:=g;obtain⟨w,a⟩:y.size<=sizeLine/\k=((y.size:Int) != 0):=e;subst a;exact W.truthy_bytes (by lia) ⟨H,I.tok _,q⟩
 |ref p=>
  cases g;have a:(∃f,cV X.K H p f/\k=!f.isEmpty)\/(∃f,cx X.K H p f/\k=!f.isEmpty)\/∃c,H p=some (.dK c)/\k=!c.isEmpty:=e
  rcases a with⟨f,j,a⟩|⟨f,j,a⟩|⟨c,j,a⟩
  ·subst a;obtain⟨n,r,l,o⟩:=I.list j;have d:=r.length;exact wpAny_truthy_list l.isList (by simp only[dQ];lia) ⟨H,I.tok _,by rw[SI r];exact q⟩
  ·subst a;obtain⟨n,r,l,o⟩:=I.tuple j;have d:=r.length;exact truthy_tuple l (by simp only[dQ];lia) ⟨H,I.tok _,by rw[SI r];exact q⟩
  ·subst a;obtain⟨o,u,vs,r,m⟩:c.length<=sizeLine/\(p==sysModules)=false/\∃vs,KV c vs/\s.heap.DictOf (aX X.prog X.w) p vs:=I.hok p _ j
   have d:c.length=vs.length:=rx r;exact wpAny_truthy_dict u m (by lia) ⟨H,I.tok _,by rw[UA r];exact q⟩
 |_=>exact(show False from e).elim
end
section
variable {X:Cx}{a:Expr}{ta:TE}
theorem Rk(g:PE X a ta)(j:∀b,isTrue a X.env b=(do let v ←b;standAt a.pos;holding [v] (truthy v))):
  PT X a (λc H Q=>ta c H λx d=>∃k,sA X.K x d k/\Q k d):=by
 intro e s c H Q I h;exact isTrue_plain (bu (g e s c H _ I h) λv i ⟨x,H1,f,m,l⟩=>IA e i c H1 x v Q f m l) (j _)
end
theorem UF:dq X (binaryOp .Add) (λx y H Q=>∃i j,x=.str i/\y=.str j/\i.length+j.length<=sizeLine/\Q (.str (i++j)) H):=by
 intro f s e H x y v u Q I a b h;obtain⟨i,j,rfl,rfl,c,q⟩:=h;obtain⟨t,rfl⟩:=a;obtain⟨d,rfl⟩:=b;exact add_str (λd g=>⟨.str (i++j),H,I.tok _,⟨_,rfl⟩,q⟩) c
theorem vals1(r:am [x] us):∃u,us=[u]/\RelV x u:=by
 cases r with
 |cons r1 r2=>cases r2;exact⟨_,rfl,r1⟩
theorem vals2(r:am [x,y] us):∃u w',us=[u,w']/\RelV x u/\RelV y w':=by
 cases r with
 |cons r1 r2=>
  cases r2 with
  |cons r3 r4=>cases r4;exact⟨_,_,rfl,r1,r3⟩
theorem K5:bE X (.builtin "abs") (λa H Q=>∃ i,a=[.int i]/\Q (.int (if i<0 then -i else i)) H):=by
 intro e s c H a b Q I r h;obtain⟨i,rfl,q⟩:=h;obtain⟨u,rfl,t,rfl⟩:=vals1 r;exact call_abs_int λu d=>⟨.int (if i<0 then -i else i),H,I.tok _,⟨_,rfl⟩,q⟩
theorem Nk{X:Cx}(b:X.calm=true):bE X (.builtin "max") (λa H Q=>∃ i j,a=[.int i,.int j]/\Q (.int (if j > i then j else i)) H):=by
 intro m s c H a d Q I r h;obtain⟨i,j,rfl,q⟩:=h;obtain⟨u,f,rfl,⟨t,rfl⟩,⟨l,rfl⟩⟩:=vals2 r;refine max_two_ints (I.ok.hd b) λe g k=>⟨_,H,I.kept k,?_,q⟩
 by_cases hj:j > i
 ·rw[if_pos hj,if_pos hj];exact⟨_,rfl⟩
 ·rw[if_neg hj,if_neg hj];exact⟨_,rfl⟩
theorem tz{X:Cx}(b:X.calm=true):bE X (.builtin "min") (λa H Q=>∃ i j,a=[.int i,.int j]/\Q (.int (if j<i then j else i)) H):=by
 intro m s c H a d Q I r h;obtain⟨i,j,rfl,q⟩:=h;obtain⟨u,f,rfl,⟨t,rfl⟩,⟨l,rfl⟩⟩:=vals2 r;refine min_two_ints (I.ok.hd b) λe g k=>⟨_,H,I.kept k,?_,q⟩
 by_cases hj:j<i
 ·rw[if_pos hj,if_pos hj];exact⟨_,rfl⟩
 ·rw[if_neg hj,if_neg hj];exact⟨_,rfl⟩
structure sG (h:Heap) (x dx C:Addr) (mA:Str->Option Value):Prop where
 obj:h.get? x=some (W.instObj C dx)
 ns:h.Ns1 dx mA
 ne:dx≠x
theorem NS{h:Heap}(n:h.Ns1 dx mA):∃f,h.get? dx=some f/\∀b,W.lookIn b f=some (mA b):=by
 obtain⟨o,d,p,j,i,k,_,m⟩:=n;refine⟨o,j,λb=>?_⟩;have e:=m b;unfold nsFind findBy at e;rw[←Array.find?_toList] at e;unfold W.lookIn;rw[i];dsimp only;split
 ·rename_i y q;rw[q] at e;exact congrArg some e
 ·rename_i q;rw[q] at e;have a:d.toList.any (·.refKey)=false:=by
   rw[List.any_eq_false];intro y g;obtain⟨z,t,c⟩:=k y (Pm.mp g);simp[DictEntry.refKey,c]
  have l:¬ d.toList.any (·.refKey)=true:=by rw[a];exact oB
  rw[if_neg l];exact congrArg some e
theorem sG.look(I:sG h x dx C mA):∃b,W.InstAt h x (W.instObj C dx) C (some b)/\∀a,W.lookIn a b=some (mA a):=
 let ⟨b,ho,hl⟩:=NS I.ns
 ⟨b,⟨I.obj,rfl,rfl,ho⟩,hl⟩
theorem fm.some_of(r:fm (some v) o):∃u,o=some u/\RelV v u:=by
 cases o with
 |none=>exact(show False from r).elim
 |some u=>exact⟨u,rfl,r⟩
theorem Jt(c:fu P w H h)(e:H a=some (.ins C dx fs)):∃b,sG h a dx C b/\(∀f,fm (fs.lookup f) (b f))/\PySem.Within b (fs.map (·.1))/\fs.length<=1000/\H dx=some (.own a):=by
 obtain⟨d,z,i,g,b,n,r,q⟩:=(show ba P w H h a (.ins C dx fs) from c a _ e)
 exact⟨b,⟨g,n,i⟩,r,q,z,d⟩
structure QB (K:Fg) (C:Addr):Prop where
 pg:W.plainGet K C Str.empty=true
 hd:W.hasDictIn K C=true
 po:W.plainOver K C=true
 sa:W.findIn K (.ref C) "__setattr__"=some (some (.builtin "object.__setattr__"))
theorem QB.get{K:Fg}{C:Addr}(c:QB K C)(f:Str):W.plainGet K C f=true:=c.pg
inductive fk (K:Fg) (H:Hp):V->Value->Prop where
 |non:fk K H .non (.type "NoneType")
 |bl (x:Bool):fk K H (.bl x) (.type "bool")
 |int (i:Int):fk K H (.int i) (.type "int")
 |str (x:Str):fk K H (.str x) (.type "str")
 |flt (x:UInt64):fk K H (.flt x) (.type "float")
 |lst {a:Addr}{xs:List V}(e:H a=some (.lst xs)):fk K H (.ref a) (.type "list")
 |frz {a:Addr}{o:Obj}{xs:List V}(e:H a=some (.frz o (.lst xs))):fk K H (.ref a) (.type "list")
 |tup {a:Addr}{xs:List V}(e:H a=some (.tup xs)):fk K H (.ref a) (.type "tuple")
 |dK {a:Addr}{kvs:List (cy×V)}(e:H a=some (.dK kvs)):fk K H (.ref a) (.type "dict")
 |dT {a:Addr}{kvs:List (List cy×V)}(e:H a=some (.dT kvs)):fk K H (.ref a) (.type "dict")
 |ins {a C dx:Addr}{fs:List (Str×V)}(e:H a=some (.ins C dx fs)) (cl:QB K C) (ha:W.findIn K (.ref C) "__class__"=some (some (.builtin "object.__class__")))
  (hn:W.specialIn K (.builtin "object.__class__") "__get__"=some (some (.builtin "getset_descriptor.__get__")))(htk:W.takesIn K (.builtin "object.__class__")=some true)
  (hm:W.mroIn K C (.type "object")=some true):fk K H (.ref a) (.ref C)
theorem NI(I:Inv X aU σ H s)(d:RelV x u)(k:fk X.K H x t)(e:W.kitOne X.K t c=some b)(h:∀r,Q (.bool b) {s with toks:=r}):
  wpAny (model X.prog X.w) A (call (.builtin "isinstance") [u,c]) Q E s:=by
 cases k with
 |non=>cases(show u=Value.none from d);exact l9 W.kitx_none I.kIn True.intro e (λz=>nomatch z) h
 |bl y=>cases(show u=Value.bool y from d);exact l9 W.kitx_bool I.kIn True.intro e (λz=>nomatch z) h
 |int i=>obtain⟨t,q⟩:=(show ∃t,u=Value.int i t from d);cases q;exact l9 W.kitx_int I.kIn True.intro e (λz=>nomatch z) h
 |str y=>obtain⟨t,q⟩:=(show ∃t,u=Value.str y t from d);cases q;exact l9 W.kitx_str I.kIn True.intro e (λz=>nomatch z) h
 |flt y=>obtain⟨t,q⟩:=(show ∃t,u=Value.float y t from d);cases q;exact l9 W.kitx_float I.kIn True.intro e (λz=>nomatch z) h
 |@lst a g ea=>
  cases(show u=Value.ref a from d);obtain⟨_,_,n,_,f⟩:=(show ba X.prog X.w H s.heap a (.lst g) from I.hok a _ ea)
  exact l9 W.kitx_list I.kIn ⟨_,f,rfl⟩ e (λz=>nomatch z) h
 |@frz a ob g ea=>
  cases(show u=Value.ref a from d);obtain⟨_,_,_,n,_,f⟩:=(show ba X.prog X.w H s.heap a (.frz ob (.lst g)) from I.hok a _ ea)
  exact l9 W.kitx_list I.kIn ⟨_,f,rfl⟩ e (λz=>nomatch z) h
 |@tup a g ea=>
  cases(show u=Value.ref a from d);obtain⟨_,_,_,p⟩:=(show ba X.prog X.w H s.heap a (.tup g) from I.hok a _ ea)
  obtain⟨o,f,j,_⟩:=p;exact l9 W.kitx_tuple I.kIn ⟨o,f,j⟩ e (λz=>nomatch z) h
 |@dK a kvs ea=>
  cases(show u=Value.ref a from d);obtain⟨_,_,G,_,p⟩:=(show ba X.prog X.w H s.heap a (.dK kvs) from I.hok a _ ea)
  obtain⟨o,m,l,f,j,_⟩:=p;exact l9 W.kitx_dict I.kIn ⟨o,f,j.1⟩ e (λz=>nomatch z) h
 |@dT a kvs ea=>
  cases(show u=Value.ref a from d);obtain⟨_,_,g,_,o,m,l,f,j,_⟩:=(show ba X.prog X.w H s.heap a (.dT kvs) from I.hok a _ ea)
  exact l9 W.kitx_dict I.kIn ⟨o,f,j.1⟩ e (λz=>nomatch z) h
 |@ins a C dx fs ea cl ha hn htk hm=>
  cases(show u=Value.ref a from d);obtain⟨w,O,_⟩:=Jt I.hok ea;obtain⟨v,J,_⟩:=O.look;exact l9 (W.kitx_own (cl.get _) cl.hd ha hn htk hm) I.kIn J e (λz=>nomatch z) h
structure cg (k:Nat) (A:Around):Prop where
 hd:A.handled=none
 dp:A.depth+3*k+5<recursionLimit
 un:A.units+16*k+200<cLine
theorem cg.mono(r:cg k A)(h:j<=k):cg j A:=⟨r.hd,by have:=r.dp;lia,by have:=r.un;lia⟩
theorem cg.deeper(r:cg (k+1) A)(a:Env):cg k (A.deeper a):=
 ⟨r.hd,by have:=r.dp;show A.depth+1+3*k+5<_;lia,by have:=r.un;show A.units+3+16*k+200<_;lia⟩
theorem cg.depth(r:cg k A):A.depth<recursionLimit:=by have:=r.dp;lia
theorem cg.units(r:cg k A):A.units+64<cLine:=by have:=r.un;lia
theorem cg.units0(r:cg k A):A.units<cLine:=by have:=r.un;lia
def PP:TA:=λ_ H Q=>Q [] H
def y9(c:TE) (d:TA):TA:=λa H Q=>c a H λx H1=>d a H1 λb H2=>Q (x::b) H2
theorem wH:PA X [] PP:=λ_ _ _ _ H Q I h=>Db ⟨[],H,I,.nil,h⟩
theorem xT(i:PE X e te)(k:PA X es t)(n:starEach (e::es) X.env=(false,eval e X.env)::starEach es X.env:=by rfl):PA X (e::es) (y9 te t):=by
 intro a d s c H Q I h;rw[n];show wpAny _ _ (spliced ((false,eval e X.env)::backTo a (starEach es X.env))) _ _ s;refine yN (bu (i d s c H _ I h) λu m b=>?_);obtain⟨x,H1,g,q,o⟩:=b;exact bu (k a d m c H1 _ g o) λr v ⟨l,H2,f,j,p⟩=>⟨x::l,H2,f,.cons q j,p⟩
def PK(t:TA):TE:=λb H Q=>t b H λa H1=>a.length<=sizeLine/\∀p,H1 p=none->Q (.ref p) (aZ H1 p (.tup a))
def PQ(t:TA):TE:=λb H Q=>t b H λa H1=>a.length<=sizeLine/\∀p,H1 p=none->Q (.ref p) (aZ H1 p (.lst a))
theorem HY{x1}(h:PA X es t):PE X (.Tuple es x1 pos) (PK t):=by
 intro g s j H Q I i;refine wpAny_Tuple_spliced (bu (h pos g s j H _ I i) λd a ⟨f,H1,c,r,z,q⟩=>⟨by rw[←r.length];exact z,?_⟩);have k:H1 a.heap.objs.size=none:=c.hok.fresh (bj _);refine⟨.ref a.heap.objs.size,aZ H1 a.heap.objs.size (.tup f),c.laid (t':=a.toks) (λb u e=>dC _ e) (bj _) ?_,rfl,q _ k⟩;exact⟨z,d,r,⟨_,fL _ rfl,rfl,_,rfl⟩⟩
theorem wJ(h:PA X es t):PE X (.List es pos) (PQ t):=by
 intro g s j H Q I i;refine wpAny_List_spliced (bu (h pos g s j H _ I i) λd a ⟨f,H1,c,r,z,q⟩=>⟨by rw[←r.length];exact z,?_⟩);have k:H1 a.heap.objs.size=none:=c.hok.fresh (bj _);refine⟨.ref a.heap.objs.size,aZ H1 a.heap.objs.size (.lst f),c.laid (t':=a.toks) (λb u e=>dC _ e) (bj _) ?_,rfl,q _ k⟩;exact⟨z,d,0,r,fL _ rfl⟩
abbrev Sp:=List V->Hp->VK->XK->Prop
abbrev uz:=List Env->Hp->Shared->XK->Value->Shared->Prop
structure pc (P:Program) (w:World) (K:Fg) (mg:Str->Option Value) (base:Heap) (A:Around) (outer:List Env) (s:Shared) (H:Hp):Prop where
 frames:A.frames=some outer
 mod:Mod K mg base
 bs:∀b o,base.get? b=some o->s.heap.get? b=some o/\H b=none
 bsz:base.objs.size<=s.heap.objs.size
 funs:s.heap.FunFrames base outer
 frf:∀b∈kq outer,H b=none
 hok:fu P w H s.heap
 bare:AllBare s.gens
def CE(a:List Env) (P:Program) (w:World) (H:Hp) (s:Shared) (Q:VK) (u:Value) (b:Shared):Prop:=
 ∃v c,b.os=s.os/\AllBare b.gens/\Un (kq a) [] H c s.heap b.heap/\fu P w c b.heap/\RelV v u/\Q v c
def CR(c:uz) (a:List Env) (P:Program) (w:World) (H:Hp) (s:Shared) (Q:VK) (E:XK) (r:Result) (b:Shared):Prop:=
 match r with
 |.ok (.ret u)=>CE a P w H s Q u b
 |.ok _=>False
 |.error e=>c a H s E e b
structure gL (P:Program) (w:World) (K:Fg) (mg:Str->Option Value) (base:Heap) (CX:uz) (k:Nat) (f:Addr) (fd:FuncData) (ps:List Str) (sp:Sp):Prop where
 len:∀vs H Q E,sp vs H Q E->vs.length=ps.length
 run:∀(A:Around) (outer:List Env) (s:Shared) (H:Hp) (args:Args) (us:List Value) (vs:List V) (Q:VK) (E:XK),cg k A->pc P w K mg base A outer s H->BindsTo s fd args (ps.zip us)->am vs us->sp vs H Q E ->
  codeAny (model P w) A (.call (.ref f) args) (CR CX outer P w H s Q E) s
theorem Inv.env0(I:Inv X aU σ H s):pc X.prog X.w X.K X.mg X.base X.A X.stack s H:=
 ⟨I.ok.frames,I.ok.mod,I.bs,ax I.ok.bsz I.sz,I.stack,I.stkFree,I.hok,I.bare⟩
theorem Inv.after(I:Inv X aU σ H s)(h:CE X.stack X.prog X.w H s Q u s'):EP X aU σ Q u s':=by
 obtain⟨v,i,os,a,f,c,r,q⟩:=h;obtain⟨j,g,d,t,e⟩:=s';obtain rfl:e=s.os:=os;exact⟨v,i,I.call (h':=j) (g':=g) (d':=d) (t':=t) (ch:=[]) f c a (λb z=>absurd z (by simp)),r,q⟩
def mn(c:Sp) (a:List V) (E:XK) (t:TA):TE:=λb H Q=>t b H λd H1=>c (d++a) H1 Q E
noncomputable def Binds(K:Fg) (d:FuncData) (c:List Str) (b:List Value):Prop:=
 ∀(s:Shared) (a:List Value),K.In s.heap->(a++b).length=c.length->BindsTo s d ⟨a,[]⟩ (c.zip (a++b))
theorem Binds.all{K:Fg}{b:List Str}(h:∀a:List Value,a.length=b.length->bindArgs fd ⟨a,[]⟩=pure (b.zip a)):Binds K fd b []:=λs a _ c=>by
 rw[jy] at c ⊢;exact .of_eq (h a c)
def jV(c:uz) (X:Cx) (E:XK):Prop:=∀(d:List (Addr×Obj)) (b:St) (H:Hp) (s:Shared) (e:Value) (a:Shared),Inv X d b H s->c X.stack H s E e a->X.xe e a
theorem Il{X:Cx}(F:gL X.prog X.w X.K X.mg X.base CX k f fd ps sp)(d:cg k X.A)(c:Binds X.K fd ps ds)(j:am dvs ds)(g:jV CX X E)
  (I:Inv X aU σ H s)(r:am vs us)(h:sp (vs++dvs) H Q E):wpAny (model X.prog X.w) X.A (call (.ref f) us) (EP X aU σ Q) X.xe s:=by
 have b:am (vs++dvs) (us++ds):=r.append j;have i:(us++ds).length=ps.length:=by rw[←b.length];exact F.len _ _ _ _ h
 refine wpAny_call (rj (F.run X.A X.stack s H ⟨us,[]⟩ (us++ds) (vs++dvs) Q E d I.env0 (c s us I.kIn i) b h) λr l a=>?_);cases r with
 |error e=>exact g aU σ H s e l I a
 |ok fl=>
  cases fl with
  |ret u=>exact I.after a
  |next=>exact False.elim a
  |brk=>exact False.elim a
  |cont=>exact False.elim a
theorem Kc{X:Cx}(F:gL X.prog X.w X.K X.mg X.base CX k f fd ps sp)(j:cg k X.A)(o:Gl X x)(w:X.mg x=some (.ref f))(v:W.keepIn X.K (.ref f)=true)(d:Binds X.K fd ps ds)(u:am dvs ds)(n:jV CX X E)
  (i:PA X (e::es) t)(b:(x==("__debug__" : Str))=false:=by decide)(m:starEach (e::es) X.env=(false,eval e X.env)::starEach es X.env:=by rfl)(a:(backTo pos (starEach es X.env)).any (·.1)=false:=by rfl):
  PE X (.Call (.Name x p) (e::es) [] pos) (mn sp dvs E t):=by
 intro l s g H Q I h;refine De (xD I o w ?_ b);refine W.callWith_K (h₀:=X.base) I.ok.mod.kin v (bu (i pos l s g H _ I h) λy z ⟨A,H1,c,r,q⟩=>⟨c.kIn,?_⟩) m a;exact Il F j d u n c r q
structure cb (N P:List Str) (sc:Scope):Prop where
 kind:sc.kind=.function
 co:sc.isCoroutine=false
 gen:sc.isGenerator=false
 nd:N.Nodup
 pre:N.take P.length=P
 par:∀x∈P,sc.names.lookup x=some .local\/sc.names.lookup x=some .cell
 nofree:∀y∈sc.names,y.2≠.free
theorem RF{kindOf:Str->Option NameKind}:∀{a:List (Str×Value)}{m:Str->Option Value},(∀v,(x,v)∉a)->bindL kindOf a m x=m x
 |[],_,_=>rfl
 | (n,v)::r,m,h=>by
  unfold bindL;rw[RF λw b=>h w (bT _ b)];split
  ·have:x≠n:=by rintro rfl;exact h v dk
   simp[this]
  ·rfl
theorem RD{kindOf:Str->Option NameKind}:∀{a:List (Str×Value)}{m:Str->Option Value},(∀v,(x,v)∉a)->bindC kindOf a m x=m x
 |[],_,_=>rfl
 | (n,v)::r,m,h=>by
  unfold bindC;rw[RD λw b=>h w (bT _ b)];split
  ·rfl
  ·have:x≠n:=by rintro rfl;exact h v dk
   simp[this]
theorem RE{kindOf:Str->Option NameKind}:∀{P:List Str}{a:List Value}{i:Nat}{m:Str->Option Value},P.Nodup->P[i]?=some x->a[i]?=some v->kindOf x=some .local ->
  bindL kindOf (P.zip a) m x=some v
 |[],_,_,_,_,h,_,_=>by simp at h
 |_::_,[],_,_,_,_,h,_=>by simp at h
 |p::P,w::a,0,m,nd,h1,h2,hk=>by
  simp at h1 h2;subst h1;subst h2
  show bindL kindOf ((p,w)::P.zip a) m p=_;unfold bindL;rw[RF λv b=>(gZ.mp nd).1 (OQ b).1,if_pos hk];simp
 |p::P,w::a,i+1,m,nd,h1,h2,hk=>by
  show bindL kindOf ((p,w)::P.zip a) m x=_;unfold bindL;exact RE (i:=i) (gZ.mp nd).2 (by simpa using h1) (by simpa using h2) hk
theorem RC{kindOf:Str->Option NameKind}:∀{P:List Str}{a:List Value}{i:Nat}{m:Str->Option Value},P.Nodup->P[i]?=some x->a[i]?=some v->kindOf x≠some .local ->
  bindC kindOf (P.zip a) m x=some v
 |[],_,_,_,_,h,_,_=>by simp at h
 |_::_,[],_,_,_,_,h,_=>by simp at h
 |p::P,w::a,0,m,nd,h1,h2,hk=>by
  simp at h1 h2;subst h1;subst h2
  show bindC kindOf ((p,w)::P.zip a) m p=_;unfold bindC;rw[RD λv b=>(gZ.mp nd).1 (OQ b).1,if_neg hk];simp
 |p::P,w::a,i+1,m,nd,h1,h2,hk=>by
  show bindC kindOf ((p,w)::P.zip a) m x=_;unfold bindC;exact RC (i:=i) (gZ.mp nd).2 (by simpa using h1) (by simpa using h2) hk
def start(N:List Str) (a:List V):St:=a.map some++List.replicate (N.length-a.length) none
def gn(g:uz) (P:Program) (w:World) (K:Fg) (mg:Str->Option Value) (base:Heap) (N:List Str) (b:Str) (a:Scope) (f:Addr) (d:Value) (A:Around) (outer:List Env) (s:Shared) (H:Hp) (E:XK):Cx where
 prog:=P
 w:=w
 K:=K
 mg:=mg
 base:=base
 A:=A.deeper (envOfC b a s.heap.objs.size f d)
 N:=N
 s₀:=s
 H₀:=H
 env:=envOfC b a s.heap.objs.size f d
 outer:=outer
 stack:=envOfC b a s.heap.objs.size f d::outer
 ex:=[]
 calm:=true
 fn:=λ_=>true
 pn:=[]
 xe:=λe i=>wpAny (model P w) (A.deeper (envOfC b a s.heap.objs.size f d)) (leaving (envOfC b a s.heap.objs.size f d) e) (λ_ c=>g outer H s E e c) (λh c=>g outer H s E h c) i
theorem QJ{a:Scope}(h:a.names.lookup x=some .cell):∃c,(cellsFrom n a.names []).lookup x=some c:=by
 have q:=W.cellsFrom_some a.names n [] (.inl h);exact Option.isSome_iff_exists.mp q
theorem NH{K:Fg}{N:List Str}{A:Around}{l:List V}
  (S:cb N ps scope)(I:A.handled=none)(g:pc P w K mg base A outer s H)(hl:l.length=ps.length)(r:am l us)
  (x:InCallC s s.heap.objs.size (bindL (envOfC qual scope s.heap.objs.size f cd).kindOf (ps.zip us) λ_=>none) (cellsFrom (s.heap.objs.size+1) scope.names []) (bindC (envOfC qual scope s.heap.objs.size f cd).kindOf (ps.zip us) λ_=>none) s1):
  Inv (gn CX P w K mg base N qual scope f cd A outer s H E) [] (start N l) H s1:=by
 have U:ps.length<=N.length:=by have:=congrArg List.length S.pre;rw[gw] at this;lia
 obtain⟨C,tk,rfl,J⟩:=x.done;have j:∀b:Addr,b∉(gn CX P w K mg base N qual scope f cd A outer s H E).ex:=λb z=>absurd (show b∈([]:List Addr) from z) (by simp)
 refine⟨⟨g.mod,S.kind,rfl,rfl,bj _,λy z c C d=>?_,λy hy=>?_,λy c _ h=>?_,λ_=>I,Around.frames_deeper g.frames,.inr ⟨rfl,rfl⟩,λb z=>absurd z (j b),g.bs,g.bsz,λb _ _=>j b,λb z=>absurd z (j b),g.funs,g.frf⟩,
  rfl,g.bare,Un.kept J,⟨_,x.toInCall.ns,λi y v C d Y=>?_⟩,λy c h=>⟨_,x.cell y c h⟩,g.hok.fresh (bj _),λy c h=>?_,λp o=>absurd (show p∈([]:List (Addr×Obj)) from o) (by simp),g.hok.kept J,?_,sI.none I⟩
 ·exact name_of_addr x.apart (ui C) (ui d)
 ·have hy:scope.names.lookup y=some .cell\/scope.names.lookup y=some .free:=hy;rcases hy with hy|hy
  ·exact QJ hy
  ·exact absurd rfl (S.nofree _ (ui hy))
 ·exact dg (x.above y c (ui h))
 ·have t:i<l.length:=by
   unfold start at d;by_cases t:i<l.length
   ·exact t
   ·rw[kZ (by simpa using t)] at d;rw[List.getElem?_replicate] at d;split at d<;>cases d
  have Q:l[i]?=some v:=by
   unfold start at d;rw[gx (by simpa using t),fK] at d;cases e:l[i]? with
   |none=>rw[e] at d;cases d
   |some a=>rw[e] at d;cases d;rfl
  obtain⟨u,G,X⟩:=r.get Q;have o:ps[i]?=some y:=by
   rw[←S.pre,List.getElem?_take_of_lt (by lia)];exact C
  have m:ps.Nodup:=by rw[←S.pre];exact S.nd.sublist (Da _ _)
  refine⟨u,X,?_⟩;rcases S.par y (dY o) with k|k
  ·exact .inl ⟨k,RE m o G k⟩
  ·obtain⟨c,e⟩:=QJ (n:=s.heap.objs.size+1) k;refine .inr ⟨.inl k,c,e,?_⟩;have q:=x.cell y c e;rw[RC m o G (by show scope.names.lookup y≠_;rw[k];decide)] at q;exact q
 ·exact g.hok.fresh (dg (x.above y c (ui h)))
 ·unfold start;show _=N.length;rw[cJ,bh,rM];lia
theorem F5{K:Fg}{kV:Value}
     {N:List Str}(lk:K.lookup f=some ⟨oc,od,.func (W.fnOf name qual params body scope dV kV doc pm an cdv ct),osl⟩)(Y:W.codeIn K cdv qual=true)(S:cb N ps scope)
    (p:∀ d H Q E,sp d H Q E->d.length=ps.length)
    (h:∀(A:Around) (a:List Env) (s:Shared) (H:Hp) (d:List V) (Q:VK) (E:XK),cg k (A.deeper (envOfC qual scope s.heap.objs.size f cdv))->sp d H Q E ->
      ∃ t,jg (gn CX P w K mg base N qual scope f cdv A a s H E) body t/\t { nx:=λ_ g=>Q .non g,rt:=Q } (start N d) H):
    gL P w K mg base CX (k + 1) f (W.fnOf name qual params body scope dV kV doc pm an cdv ct) ps sp:=by
  refine⟨p,λA a s H a0 us d Q E X z hb r m=>?_⟩;have hl:=p _ _ _ _ m;have KX:K.In s.heap:=z.mod.kin.keeps λb o e=>(z.bs b o e).1
  have C:s.heap.NoLimit:=z.mod.nolimit.keeps λb o e=>(z.bs b o e).1
  have i:∀ y∈ps.zip us,scope.names.lookup y.1=some .local\/(scope.names.lookup y.1=some .cell/\((cellsFrom (s.heap.objs.size + 1) scope.names []).lookup y.1).isSome=true):=λG hy=>by
    obtain⟨n,v⟩:=G;rcases S.par n (OQ hy).1 with q|q
    · exact .inl q
    · exact .inr ⟨q,W.cellsFrom_some _ _ _ (.inl q)⟩
  refine codeAny_call_function X.depth (KX _ _ lk) rfl S.co S.gen rfl (W.codeRec_of KX Y) (hb _ _ _ _ ?_);refine wpAny_newFunctionEnv_cells S.kind i λa1 he s1 x=>?_
  subst he;refine⟨C.keeps x.toInCall.keep,codeAny_func ?_⟩;obtain⟨t,ht,hq⟩:=h A a s H d Q E (X.deeper _) m;have I:Inv (gn CX P w K mg base N qual scope f cdv A a s H E) [] (start N d) H s1:=NH S X.hd z hl r x;refine iq (ht [] s1 (start N d) H _ I hq) (λfl s' j=>?_) λe s' j=>j
  have l:∀{c:St}{g:Hp}{v:V}{u:Value},Inv (gn CX P w K mg base N qual scope f cdv A a s H E) [] c g s'->RelV v u->Q v g->CE a P w H s Q u s':=
    λ{c g v u} J U q=>⟨v,g,J.os,J.bare,J.base,J.hok,U,q⟩
  cases fl with
  |ret u=>
    obtain⟨v,c,g,J,U,q⟩:=j;exact l J U q
  |next=>
    obtain⟨c,g,J,q⟩:=j;exact l (v:=V.non) (u:=Value.none) J rfl q
  |brk=>
    obtain⟨_,_,_,q⟩:=j;exact False.elim q
  |cont=>
    obtain⟨_,_,_,q⟩:=j;exact False.elim q
def PY(r:List V->Hp->VK->Prop) (t:TA):TE:=λa H Q=>t a H λb H1=>r b H1 Q
theorem Rj{id:String}(u:bE X (.builtin id) r)(o:Gl X x)(w:X.mg x=none)(l:bootBuiltins x=some (.builtin id))(i:PA X (e::es) t)(j:x≠"__name__":=by decide)(b:(x==("__debug__" : Str))=false:=by decide)
  (n:starEach (e::es) X.env=(false,eval e X.env)::starEach es X.env:=by rfl)(a:(backTo pos (starEach es X.env)).any (·.1)=false:=by rfl):PE X (.Call (.Name x p) (e::es) [] pos) (PY r t):=by
 intro d s c H Q I h;refine De (uE I o w l ?_ j b);exact PyProof.Rows.callWith_builtin1 (bu (i pos d s c H _ I h) λk m ⟨v,H1,g,f,q⟩=>u d m c H1 v k Q g f q) n a
theorem R5{T:String}(u:bE X (.type T) r)(o:Gl X x)(w:X.mg x=none)(l:bootBuiltins x=some (.type T))(i:PA X (e::es) t)(j:x≠"__name__":=by decide)(b:(x==("__debug__" : Str))=false:=by decide)
  (n:starEach (e::es) X.env=(false,eval e X.env)::starEach es X.env:=by rfl)(a:(backTo pos (starEach es X.env)).any (·.1)=false:=by rfl):PE X (.Call (.Name x p) (e::es) [] pos) (PY r t):=by
 intro d s c H Q I h;refine De (uE I o w l ?_ j b);exact TY (bu (i pos d s c H _ I h) λk m ⟨v,H1,g,f,q⟩=>u d m c H1 v k Q g f q) n a
end L2
namespace HT
open PyProof.Rows
noncomputable def lexLt:List Int->List Int->Bool
 |[],[]=>false
 |[],_::_=>true
 |_::_,[]=>false
 |x::xs,y::ys=>if x=y then lexLt xs ys else decide (x<y)
theorem tN(x y:Int)(a b:List Int):lexLt (x::a) (y::b)=if x=y then lexLt a b else decide (x<y):=rfl
theorem FB:lexLt [] []=false:=rfl
theorem Cy(y:Int)(a:List Int):lexLt [] (y::a)=true:=rfl
theorem FD(x:Int)(a:List Int):lexLt (x::a) []=false:=rfl
theorem LF(A:Around)(s:Shared)(a:Int)(t:Tok)(c:Int)(u:Tok):∃e,SeqAt.EqAt A s (.int a t) (.int c u) e/\(e=true↔a=c):=
 ⟨(a==c),SeqAt.EqAt.int_int a t c u,by simp⟩
theorem MQ(A:Around)(s:Shared)(a:Int)(t:Tok)(c:Int)(u:Tok)(b:Program)(w:World)(E:Value->Shared->Prop)(Q:Value->Shared->Prop)(h:Q (.bool (decide (a<c))) s):
  wpAny (model b w) A (richCompare .Lt (.int a t) (.int c u)) Q E s:=
 (PyProof.Rows.lt_int h:wpAny (model b w) A (compareOp .Lt (.int a t) (.int c u)) Q E s)
section
open SeqAt
open PySem.AutoSeq1 (wpAny_loadPart')
open MeetsSeq MeetsSeq2 MeetsSeq3
theorem TD(l b:Addr)(i f:Array Value)(n n2:Nat)(dd a1:Option Addr)(sl X:Array (Option Value))(J I:List Int)(hi:IntsAre i.toList J)(hj:IntsAre f.toList I):
  Meets (Builtin.«tuple.__lt__» ⟨[.ref l,.ref b],[]⟩)
   (λ_ R s=>s.heap.get? l=some { cls:=.type "tuple",dict:=dd,data:=.seq i n,slots:=sl }/\s.heap.get? b=some { cls:=.type "tuple",dict:=a1,data:=.seq f n2,slots:=X } /\
    R (.ok (.ret (.bool (lexLt J I)))) s):=
 .of_wp λr w A R s h=>by
  obtain⟨S,g,d,Q,os⟩:=s;obtain⟨hl,hb,h⟩:=h
  have f2:=AutoSeq1.sub_tuple_tuple;have z1:i.size=J.length:=by rw[←hi.length];simp
  have z2:f.size=I.length:=by rw[←hj.length];simp
  wp_walk using wpAny_loadPart' hl,wpAny_loadPart' hb,wpAny_forIn_list _ (λz b s'=>b.1=none/\s'=⟨S,g,d,Q,os⟩/\∃(P U:List Value) (m k:List Int),z=P.zip U /\
   IntsAre P m/\IntsAre U k/\m.length+f.size=k.length+i.size/\R (.ok (.ret (.bool (lexLt m k)))) ⟨S,g,d,Q,os⟩) _
  case turn=>
   rintro⟨y,x⟩ z b s' ⟨G,rfl,P,U,m,k,o,E,p,j,C⟩;cases E with
   |nil=>rw[List.zip_nil_left] at o;cases o
   |cons a t hvi'=>
    cases p with
    |nil=>rw[List.zip_nil_right] at o;cases o
    |cons c u hwi'=>
     rw[List.zip_cons_cons] at o;injection o with a0 H
     injection a0 with hy hx
     subst hy hx;rw[tN] at C;simp only[dh] at j;obtain⟨e,he,v⟩:=LF A.in1 ⟨S,g,d,Q,os⟩ a t c u;refine ae (he r w _ _ ?_);cases e with
     |true=>
      rw[if_pos (v.mp rfl)] at C
      wp_walk
      exact⟨rfl,rfl,_,_,_,_,H,hvi',hwi',by lia,C⟩
     |false=>
      rw[if_neg (λq=>absurd (v.mpr q) oB)] at C;have Y:=MQ A.in1 ⟨S,g,d,Q,os⟩ a t c u r w
      wp_walk using Y
      exact⟨_,rfl,by simpa using C⟩
  case fin=>
   rintro⟨b1,b2⟩ s' ⟨G,rfl,P,U,m,k,o,E,p,j,C⟩;simp only at G;subst G;have hv:lexLt m k=decide (i.size<f.size):=by
    cases E with
    |nil=>
     cases p with
     |nil=>
      simp only[ua] at j;rw[FB];exact(cI (by lia)).symm
     |cons c u hw=>
      simp only[ua,dh] at j;rw[Cy];exact(cC (by lia)).symm
    |cons a t hv=>
     cases p with
     |nil=>
      simp only[ua,dh] at j;rw[FD];exact(cI (by lia)).symm
     |cons c u hw=>
      rw[List.zip_cons_cons] at o;cases o
   rw[hv] at C
   wp_walk
   exact⟨_,rfl,by simpa [Builtin.Tuple.tupleCompareSizes] using C⟩
  case h=>
   exact⟨rfl,rfl,i.toList,f.toList,J,I,rfl,hi,hj,by lia,h⟩
end
theorem SL{A:Around}{s:Shared}(p:IsTup s.heap l items)(u:IsTup s.heap b items2)(o:IntsAre items.toList ns)(v:IntsAre items2.toList ms)
  (q:A.units<cLine)(h:Q (.bool (lexLt ns ms)) s):wpAny (model prog w) A (compareOp .Lt (.ref l) (.ref b)) Q E s:=by
 obtain⟨⟨z,t,g,y⟩,i,m,n,k⟩:=id p;obtain⟨⟨j,f,data2,e⟩,a,c,r,d⟩:=id u;simp only at m k c d;subst m k c d;exact richCompare_meets_room (op:=.Lt) ⟨_,i,rfl⟩ ⟨_,a,rfl⟩ Po F.entry_tuple_lt (F.args_tuple_lt_2 _ _) (TD l b items items2 n r t f y e ns ms o v)
  ⟨i,a,show Value.bool (lexLt ns ms)≠Value.notImplemented/\Q (.bool (lexLt ns ms)) s from⟨(λx=>nomatch x),h⟩⟩ q
theorem IL{s:Shared}{d a:List Value}(x:IsTup s.heap t d.toArray)(y:IsTup s.heap b a.toArray)(o:d≠[])
  (z:a=[]->Q (.ref t) s)(v:a≠[]->Q (.ref s.heap.objs.size) { s with heap:=s.heap.push { cls:=.type "tuple",data:=.seq (d++a).toArray } })
  (k:d.length+a.length<=sizeLine):wpAny (model prog w) A (binaryOp .Add (.ref t) (.ref b)) Q E s:=by
 obtain⟨⟨cls,m,data,u⟩,j,r,n,q⟩:=id x;obtain⟨⟨p,i,data2,f⟩,c,g,l,h⟩:=id y;simp only at r q g h;subst r q g h;have e:d.toArray++a.toArray=(d++a).toArray:=by simp
 by_cases hw:a=[]
 ·exact concat_meets ⟨_,j,rfl⟩ ⟨_,c,rfl⟩ noFill_tuple_add seq_tuple_add Pr Px (Pz _ _)
   (tuple_addW1 t b d.toArray a.toArray n l m i u f (by simpa using o) (by simp[hw])) ⟨j,c,z hw⟩
 ·refine concat_meets ⟨_,j,rfl⟩ ⟨_,c,rfl⟩ noFill_tuple_add seq_tuple_add Pr Px (Pz _ _)
   (tuple_addW2 t b d.toArray a.toArray n l m i u f (by simpa using o) (by simpa using hw) (by rw[dQ,dQ];exact k)) ⟨j,c,?_⟩
  rw[e];exact v hw
noncomputable def bW(n d:Nat):Option Int->Nat
 |none=>d
 |some v=>if v<0 then(v+(n:Int)).toNat else min v.toNat n
theorem Rq(n d:Nat):bW n d none=d:=rfl
theorem xZ(n d k:Nat):bW n d (some (k:Int))=min k n:=by
 show(if(k:Int)<0 then((k:Int)+(n:Int)).toNat else min (k:Int).toNat n)=min k n;rw[if_neg (by lia),j9]
theorem Io(n d:Nat)(a:d<=n)(o:Option Int):bW n d o<=n:=by
 cases o with
 |none=>exact a
 |some v=>
  show(if v<0 then(v+(n:Int)).toNat else min v.toNat n)<=n;by_cases hv:v<0
  ·rw[if_pos hv];lia
  ·rw[if_neg hv];exact rD _ _
theorem xg(v:Int)(n d:Nat):(if v<0 then max (v+(n:Int)) 0 else min v (n:Int))=((bW n d (some v):Nat):Int):=by
 show(if v<0 then max (v+(n:Int)) 0 else min v (n:Int))=(((if v<0 then(v+(n:Int)).toNat else min v.toNat n):Nat):Int)
 by_cases hv:v<0
 ·simp only[if_pos hv];lia
 ·simp only[if_neg hv];lia
theorem OF(lo a:Option Int)(n:Nat):Builtin.Slice.sliceAdjust lo a 1 (n:Int)=(((bW n 0 lo:Nat):Int),((bW n n a:Nat):Int)):=by
 have b:¬ ((1:Int)<0):=by lia
 unfold Builtin.Slice.sliceAdjust;simp only[b,gj];refine Prod.ext ?_ ?_
 ·cases lo with
  |none=>rfl
  |some v=>exact xg v n 0
 ·cases a with
  |none=>rfl
  |some v=>exact xg v n n
theorem UG(i j:Nat):Builtin.Slice.slicePlaces (i:Int) (j:Int) 1=j-i:=by
 unfold Builtin.Slice.slicePlaces;have a:(1:Int) > 0:=by lia
 simp only[a,gt,CO];split<;>lia
theorem vq(p:IsPart v o)(h:Q o s):wpAny (model prog w) A (Builtin.Slice.slicePartIndex v) Q E s:=by
 cases p with
 |none=>exact slicePart_none h
 |int i t=>exact slicePart_int h
theorem TL{s:Shared}{lo c:Option Int}{n:Nat}(g:s.heap.IsSliceOf sl vl vu .none)(d:IsPart vl lo)(e:IsPart vu c)
  (h:Q (((bW n 0 lo:Nat):Int),1,bW n n c-bW n 0 lo) s):wpAny (model prog w) A (Builtin.Slice.sliceApplied (.ref sl) (pure (n:Int))) Q E s:=by
 obtain⟨os,a,f,b⟩:=id g;unfold Builtin.Slice.sliceApplied Builtin.Slice.sliceFields;refine ae (ae (pC a b (x:=vl) rfl (ae (pC a b (x:=vu) rfl (ae (pC a b (x:=.none) rfl (ar ?_)))))));refine ae (slicePart_none ?_);show wpAny _ _ (if((1:Int)==0)=true then _ else _) _ _ s;rw[if_neg (by decide)];refine ae (vq d (ae (vq e (ae (ar ?_)))));show wpAny _ _ (match Builtin.Slice.sliceAdjust lo c 1 (n:Int) with|(lo,c)=>pure (lo,(1:Int),Builtin.Slice.slicePlaces lo c 1)) _ _ s;rw[OF lo c n];show wpAny _ _ (pure (((bW n 0 lo:Nat):Int),(1:Int),Builtin.Slice.slicePlaces ((bW n 0 lo:Nat):Int) ((bW n n c:Nat):Int) 1)) _ _ s;rw[UG];exact ar h
theorem MG(a:Array Value)(i k:Nat):((List.range k).filterMap λ(m:Nat)=>a[((i:Int)+(m:Int)*1).toNat]?).toArray=((a.toList.drop i).take k).toArray:=by
 have e:(λ(m:Nat)=>a[((i:Int)+(m:Int)*1).toNat]?)=λm=>a[i+m]?:=by
  funext m
  have:((i:Int)+(m:Int)*1).toNat=i+m:=by lia
  rw[this]
 rw[e];have:=pick_run a i k;rw[Dh] at this;have b:((λx=>a[x]?) ∘ λx=>i+x)=λm=>a[i+m]?:=rfl
 rw[b] at this;rw[this]
theorem V7{s:Shared}{lo:Option Int}(b:IsTup s.heap t items)(g:s.heap.IsSliceOf sl vl vu .none)(i:IsPart vl lo)(j:IsPart vu hi)
  (n:¬ (bW items.size 0 lo=0/\bW items.size items.size hi=items.size))
  (h:Q (.ref s.heap.objs.size) { s with heap:=s.heap.push { cls:=.type "tuple",data:=.seq ((items.toList.drop (bW items.size 0 lo)).take (bW items.size items.size hi-bW items.size 0 lo)).toArray } })
  (k:items.size<=sizeLine):wpAny (model prog w) A (getItem (.ref t) (.ref sl)) Q E s:=by
 have a:sizeOk (.seq ((items.toList.drop (bW items.size 0 lo)).take (bW items.size items.size hi-bW items.size 0 lo)).toArray):=by
  show((items.toList.drop (bW items.size 0 lo)).take (bW items.size items.size hi-bW items.size 0 lo)).toArray.size<=sizeLine;rw[dQ,gw,mZ,fM];lia
 have o:bW items.size items.size hi<=items.size:=Io _ _ (bj _) hi;obtain⟨os,d,c,l⟩:=id g;have f:s.TypeIs (.ref sl) "slice":=⟨os,d,c⟩
 unfold getItem
 try with_reducible refine jl ?_
 first|refine ae (ar ?_)|skip
 refine ae (OZ b.typeIs (by decide) ?_)
 refine ae (wpAny_callSpecial?_slot (name:=Str.ofString "__getitem__") b.typeIs ut
  (kS ut b.typeIs entry_tuple_getitem ?_ (args_tuple_getitem _ _)))
 show wpAny _ _ (Builtin.Tuple.tupleItemsOf (.ref t) >>= _) _ _ s;refine ae (tupleItemsOf_ b ?_);refine ae (yq f ?_);rw[if_pos (by decide)];refine ae (TL g i j ?_);have e:¬ ((((bW items.size 0 lo:Nat):Int)==0&&(1:Int)==1&&(bW items.size items.size hi-bW items.size 0 lo)==items.size)=true):=by
  intro q;rw[jm,jm] at q;have p:((bW items.size 0 lo:Nat):Int)=0:=eq_of_beq q.1.1;have r:bW items.size items.size hi-bW items.size 0 lo=items.size:=eq_of_beq q.2;exact n ⟨by lia,by lia⟩
 show wpAny _ _ (if(((bW items.size 0 lo:Nat):Int)==0&&(1:Int)==1&&(bW items.size items.size hi-bW items.size 0 lo)==items.size)=true then _ else _) _ _ s;rw[if_neg e,MG]
 first
  |exact ae (m:=Builtin.Tuple.tupleExact _) (jz (ar ⟨_,rfl,ar h⟩) a)
  |exact ae (m:=Builtin.Tuple.tupleExact _) (jz (ae (ar (ar ⟨_,rfl,ar h⟩))) a)
  |exact ae (ae (m:=Builtin.Tuple.tupleExact _) (jz (ar (ar ⟨_,rfl,ar h⟩)) a))
  |exact ae (ae (m:=Builtin.Tuple.tupleExact _) (jz (ar ⟨_,rfl,ar h⟩) a))
end HT
namespace L2
open Spec PyProof.Rows
abbrev TO:=St->Hp->(Option Int->Hp->Prop)->Prop
def PO(X:Cx) (e:Option Expr) (t:TO):Prop:=
 ∀(c:List (Addr×Obj)) (s:Shared) (a:St) (H:Hp) (Q:Option Int->Hp->Prop),Inv X c a H s->t a H Q ->
  wpAny (model X.prog X.w) X.A (evalPart e X.env) (λu d=>∃o b,Inv X c a b d/\IsPart u o/\Q o b) X.xe s
def oJ:TO:=λ_ H Q=>Q none H
def yW(t:TE):TO:=λa H Q=>t a H λx H1=>∃i,x=.int i/\Q (some i) H1
theorem vn{ns:List Int}:∀{a:List Value},am (ns.map V.int) a->IntsAre a ns:=by
 induction ns with
 |nil=>intro a r;rw[CN] at r;cases r;exact .nil
 |cons n ns ih=>
  intro a r;rw[ce] at r;cases r with
  |cons r1 r2=>
   obtain⟨t,e⟩:=r1;subst e;exact .cons n t (ih r2)
theorem Km:PO X none oJ:=by
 intro b s a H Q I h;rw[CP];exact ar ⟨none,H,I,.none,h⟩
theorem Kn(h:PE X e te):PO X (some e) (yW te):=by
 intro j s f H Q I c;rw[evalPart_some];refine bu (h j s f H _ I c) λu k a=>?_
 obtain⟨x,H1,b,g,d⟩:=a;obtain⟨i,rfl,q⟩:=d;obtain⟨t,rfl⟩:=g;exact⟨some i,H1,b,.int i t,q⟩
def qe(X:Cx) (r:V->Option Int->Option Int->Hp->VK->Prop):Prop:=
 ∀(f:List (Addr×Obj)) (s:Shared) (e:St) (H:Hp) (x:V) (v a b:Value) (lo c:Option Int) (d:Addr) (Q:VK),Inv X f e H s->RelV x v->s.heap.IsSliceOf d a b .none->IsPart a lo->IsPart b c->r x lo c H Q ->
  ∃ T id,typeLookup (.type T) "__getitem__"=pure (some (.builtin id))/\s.TypeIs v T/\wpAny (model X.prog X.w) X.A (getItem v (.ref d)) (EP X f e Q) X.xe s
section
variable {lo:Option Expr}
theorem qe.or(h:qe X r)(l:qe X r'):qe X (λx lo a H Q=>r x lo a H Q\/r' x lo a H Q):=by
 intro k s j H x v e f lo a i Q I b g c d q;rcases q with q|q
 ·exact h k s j H x v e f lo a i Q I b g c d q
 ·exact l k s j H x v e f lo a i Q I b g c d q
end
def WL(r:V->Option Int->Option Int->Hp->VK->Prop) (d:TE) (c b:TO):TE:=λa H Q=>d a H λx H1=>c a H1 λl H2=>b a H2 λu H3=>r x l u H3 Q
theorem MD{lo:Option Expr}(C:qe X r)(U:PE X e te)(m:PO X lo tl)(n:PO X hi th):PE X (.Subscript e (.Slice lo hi none p2) pos) (WL r te tl th):=by
 intro d s f H Q I h;refine Subscript_ (bu (U d s f H _ I h) λv z c=>?_);obtain⟨x,H1,t,p,Y⟩:=c;refine wpAny_Slice (bu (m d z f H1 _ t Y) λg S ⟨l,H2,A,E,y⟩=>bu (n d S f H2 _ A y) λi a c=>?_);obtain⟨u,H3,j,k,w⟩:=c;rw[CP];refine ar ?_;have P:Inv X d f H3 { a with heap:=a.heap.push { cls:=.type "slice",data:=.fields #[g,i,.none] } }:=j.kept (t':=a.toks) λb ob q=>dC _ q
 obtain⟨T,id,G,o,J⟩:=C d { a with heap:=a.heap.push { cls:=.type "slice",data:=.fields #[g,i,.none] } } f H3 x v g i l u a.heap.objs.size Q P p (Pd ..) E k w
 show wpAny (model X.prog X.w) X.A (subscriptTail e (.Slice lo hi none p2) v (.ref a.heap.objs.size)) (EP X d f Q) X.xe { a with heap:=a.heap.push { cls:=.type "slice",data:=.fields #[g,i,.none] } }
 exact tail_any (ops:=[.ref a.heap.objs.size,v]) o G J (by with_unfolding_all rfl)
def gH(a:List V) (lo b:Option Int):List V:=(a.drop (HT.bW a.length 0 lo)).take (HT.bW a.length a.length b-HT.bW a.length 0 lo)
theorem S7(a:List V)(lo b:Option Int):(gH a lo b).length<=a.length:=by
 unfold gH;rw[gw,mZ];lia
def P1(K:Fg):V->Option Int->Option Int->Hp->VK->Prop:=λx lo c H Q=>∃a b,x=.ref a/\cx K H a b /\
 ¬ (HT.bW b.length 0 lo=0/\HT.bW b.length b.length c=b.length)/\∀p,H p=none->Q (.ref p) (aZ H p (.tup (gH b lo c)))
theorem Is:qe X (P1 X.K):=by
 intro A s u H x v w y lo e z Q I j m k l h;obtain⟨a,d,rfl,n,p,q⟩:=h;cases j;obtain⟨f,r,g,i⟩:=I.tuple n;have c:f.toArray.size=d.length:=by rw[dQ];exact r.length.symm
 refine⟨"tuple",_,ut.lookup,g.typeIs,?_⟩
 refine HT.V7 g m k l (by rw[c];exact p) ?_ (by rw[c];exact i);rw[c];refine⟨.ref s.heap.objs.size,_,I.laid (t':=s.toks) (o:=.tup (gH d lo e)) (λb t q=>dC _ q) (bj _) ?_,rfl,q _ (I.hok.fresh (bj _))⟩;exact⟨ax (S7 d lo e) i,_,(r.drop (HT.bW d.length 0 lo)).take (HT.bW d.length d.length e-HT.bW d.length 0 lo),IsTup.new _ _⟩
def zJ(K:Fg):R2:=λx y H Q=>∃a b d c,x=.ref a/\y=.ref b/\cx K H a (d.map V.int)/\cx K H b (c.map V.int)/\Q (.bl (HT.lexLt d c)) H
theorem HK{X:Cx}(n:X.A.units<cLine):dq X (compareOp .Lt) (zJ X.K):=by
 intro t s r H x y v u Q I e m h;obtain⟨a,b,ns,ms,rfl,rfl,j,f,q⟩:=h;cases e;cases m;obtain⟨d,p,g,_⟩:=I.tuple j;obtain⟨c,k,i,_⟩:=I.tuple f;have l:IntsAre d.toArray.toList ns:=vn p;have o:IntsAre c.toArray.toList ms:=vn k;exact HT.SL g i l o n ⟨.bl (HT.lexLt ns ms),H,I,rfl,q⟩
def zP(K:Fg):R2:=λx y H Q=>∃a b d c,x=.ref a/\y=.ref b/\cx K H a d/\cx K H b c/\d≠[]/\d.length+c.length<=sizeLine /\
 (c=[]->Q (.ref a) H)/\(c≠[]->∀p,H p=none->Q (.ref p) (aZ H p (.tup (d++c))))
theorem am.nil_iff(r:am xs us):us=[]↔xs=[]:=by
 cases r with
 |nil=>simp
 |cons _ _=>simp
theorem J6:dq X (binaryOp .Add) (zP X.K):=by
 intro G s J H x y v u Q I m j h;obtain⟨a,b,t,r,rfl,rfl,g,k,i,f,C,l⟩:=h;cases m;cases j;obtain⟨A,d,n,_⟩:=I.tuple g;obtain⟨e,c,p,_⟩:=I.tuple k;refine HT.IL n p (λz=>i (d.nil_iff.mp z)) (λz=>⟨.ref a,H,I,rfl,C (c.nil_iff.mp z)⟩) (λz=>?_) (by rw[←d.length,←c.length];exact f);refine⟨.ref s.heap.objs.size,_,I.laid (t':=s.toks) (o:=.tup (t++r)) (λb E q=>dC _ q) (bj _) ?_,rfl,l (λw=>z (c.nil_iff.mpr w)) _ (I.hok.fresh (bj _))⟩;exact⟨by rw[cJ];exact f,_,d.append c,IsTup.new _ _⟩
noncomputable def ko(n:Nat) (i:Int):Option Nat:=if 0<=i then(if i<n then some i.toNat else none) else if -(n:Int)<=i then some (i+n).toNat else none
def atI{α:Type}(a:List α) (i:Int):Option α:=(ko a.length i).bind λj=>a[j]?
theorem xA(h:ko n i=some j):seqIndex? i n=some j/\j<n/\-(n:Int)<=i/\i<n:=by
 unfold ko at h;by_cases h0:0<=i
 ·rw[if_pos h0] at h;by_cases h1:i<n
  ·rw[if_pos h1] at h;have e:i.toNat=j:=g7 h;exact⟨by rw[seqIndex_of h0 h1,e],by lia,by lia,h1⟩
  ·rw[if_neg h1] at h;cases h
 ·rw[if_neg h0] at h;by_cases h1:-(n:Int)<=i
  ·rw[if_pos h1] at h;have e:(i+n).toNat=j:=g7 h;exact⟨by rw[seqIndex_neg (by lia) h1,e],by lia,h1,by lia⟩
  ·rw[if_neg h1] at h;cases h
theorem DV{b:Type}{a:List b}{v:b}(h:atI a i=some v):∃j,seqIndex? i a.length=some j/\a[j]?=some v/\j<a.length/\-(a.length:Int)<=i/\i<a.length:=by
 unfold atI at h;cases e:ko a.length i with
 |none=>rw[e] at h;cases h
 |some j=>
  rw[e] at h;obtain⟨d,c,g,f⟩:=xA e;exact⟨j,d,h,c,g,f⟩
theorem DX{b:Type}{a:List b}{j:Nat}{v:b}(h:a[j]?=some v):atI a (j:Int)=some v:=by
 have c:j<a.length:=(cU.mp h).1;have e:ko a.length (j:Int)=some j:=by
  unfold ko;rw[if_pos (by lia),if_pos (by lia)];simp
 unfold atI;rw[e];exact h
noncomputable def iK(b:Expr):Prop:=∀o i,subscripted b false o i=operate [o,i] (getItem o i)
def o6(X:Cx) (r:R2):Prop:=
 ∀(b a:Expr) (d:List (Addr×Obj)) (s:Shared) (c:St) (H:Hp) (x y:V) (v u:Value) (Q:VK),Inv X d c H s->RelV x v->RelV y u->r x y H Q ->
  subscripted a false v u=operate [v,u] (getItem v u)->wpAny (model X.prog X.w) X.A (subscriptTail b a v u) (EP X d c Q) X.xe s
def DN(X:Cx) (id:String) (r:V->List V->Hp->VK->Prop):Prop:=
 ∀(d:List (Addr×Obj)) (s:Shared) (a:St) (H:Hp) (x:V) (b:List V) (v:Value) (c:List Value) (Q:VK),Inv X d a H s->RelV x v->am b c->r x b H Q ->
  wpAny (model X.prog X.w) X.A (call (.builtin id) (v::c)) (EP X d a Q) X.xe s
theorem o6.or(h:o6 X r)(i:o6 X r'):o6 X (λx y H Q=>r x y H Q\/r' x y H Q):=by
 intro a b g s f H x y v u Q I c e q d;rcases q with q|q
 ·exact h a b g s f H x y v u Q I c e q d
 ·exact i a b g s f H x y v u Q I c e q d
theorem Gi(g:o6 X r)(f:PE X a ta)(d:PE X b tb)(j:iK b):PE X (.Subscript a b pos) (yX r ta tb):=by
 intro m s l H Q I h;exact Subscript_ (sr f d I h λv u i x y H2 c e k q=>g a b m i l H2 x y v u Q c e k q (j _ _))
def zN(K:Fg):R2:=λx y H Q=>∃p a i v,x=.ref p/\y=.int i/\cV K H p a/\atI a i=some v/\Q v H
def zL(K:Fg):R2:=λx y H Q=>∃p a i v,x=.ref p/\y=.int i/\cx K H p a/\atI a i=some v/\Q v H
def zM:R2:=λx y H Q=>∃z i c,x=.str z/\y=.int i/\z.length<=sizeLine/\atI z.cps.toList i=some c/\Q (.str ⟨#[c]⟩) H
theorem Jw:o6 X (zN X.K):=by
 intro c f m s n H x y v u Q I J E h l;obtain⟨p,xs,i,z,rfl,rfl,P,Y,q⟩:=h;cases J;obtain⟨t,rfl⟩:=E;obtain⟨k,r,g,hz⟩:=I.list P;obtain⟨j,b,A,h3,G,U⟩:=DV Y;obtain⟨w,o,d⟩:=r.get A;have C:=r.length;have hn:=fV;have a:EP X m n Q w s:=⟨z,H,I,d,q⟩
 by_cases h0:0<=i
 ·have e:i.toNat=j:=by
   rw[seqIndex_of h0 U] at b;exact g7 b
  exact item_listR g.isList h0 (by lia) (by rw[e];simpa using o) a l
 ·have e:(i+(k.toArray.size:Int)).toNat=j:=by
   rw[seqIndex_neg (by lia) G] at b;rw[dQ,←C];exact g7 b
  exact subscriptTail_builtinR (x:=w) g.isList.typeIs OY.lookup
   (wpAny_getItem_list_neg (Q:=λr S=>r=w/\EP X m n Q r S) g.isList (by lia) (by rw[dQ]<;>lia) (by lia) (by rw[e];simpa using o) ⟨rfl,a⟩) l
theorem Hl:o6 X (zL X.K):=by
 intro a d e s g H x y v u Q I o n h l;obtain⟨p,xs,i,z,rfl,rfl,C,J,q⟩:=h;cases o;obtain⟨t,rfl⟩:=n;obtain⟨A,r,f,U⟩:=I.tuple C;obtain⟨j,P,k,h3,Y,h5⟩:=DV J;obtain⟨w,G,b⟩:=r.get k;have m:=r.length;have S:=fV;have c:EP X e g Q w s:=⟨z,H,I,b,q⟩
 exact subscriptTail_builtinR (x:=w) f.typeIs Dc.lookup
  (getItem_tuple (j:=j) (Q:=λr E=>r=w/\EP X e g Q r E) f (by lia) (by lia) (by rw[dQ,←m];exact P) (by simpa using G) ⟨rfl,c⟩) l
theorem Hk:o6 X zM:=by
 intro a b C s G H x y v u Q I m k h f;obtain⟨z,i,c,rfl,rfl,A,o,q⟩:=h;obtain⟨t,rfl⟩:=m;obtain⟨E,rfl⟩:=k;obtain⟨j,d,e,J,l,n⟩:=DV o;have g:z.cps.toList.length=z.length:=by simp[Str.length]
 rw[g] at d l n;have w:=fV
 exact tail_any (typeIs_str s z t) slot_str_getitem.lookup (getItem_str (c:=c) (by
  have p:decide (i < -(2^63:Int))=false:=cI (by lia);have r:decide (i ≥ 2^63)=false:=cI (by lia)
  rw[p,r,Bool.or_false]) (by rw[d];simpa using e) ⟨.str ⟨#[c]⟩,H,I.tok _,⟨_,rfl⟩,q⟩) f
def T5(K:Fg):R2:=λx y H Q=>zN K x y H Q\/zL K x y H Q\/zM x y H Q
theorem Hj:o6 X (T5 X.K):=Jw.or (Hl.or Hk)
theorem UC(a:List Value)(n j:Nat)(u:Value):Obj.mapSeq (·.setIfInBounds j u) { cls:=.type "list",data:=.seq a.toArray n }={ cls:=.type "list",data:=.seq (a.set j u).toArray n }:=by
 simp[Obj.mapSeq]
theorem Inv.lst(I:Inv X aU σ H s)(h:H p=some (.lst xs)):
  ∃(a:List Value) (n:Nat),am xs a/\s.heap.get? p=some { cls:=.type "list",data:=.seq a.toArray n }/\xs.length<=sizeLine:=by
 obtain⟨z,a,n,r,e⟩:=I.hok p _ h;exact⟨a,n,r,e,z⟩
theorem Inv.lstUpd{c a:List Value}(I:Inv X aU σ H s)(h:H p=some (.lst xs))
  (i:s.heap.get? p=some { cls:=.type "list",data:=.seq c.toArray n })(d:f { cls:=.type "list",data:=.seq c.toArray n }={ cls:=.type "list",data:=.seq a.toArray n' })(r:am ys a)(j:ys.length<=sizeLine)(t:Nat):
  Inv X aU σ (aZ H p (.lst ys)) {s with heap:=s.heap.update p f,toks:=t}:=by
 have e:(s.heap.update p f).get? p=some { cls:=.type "list",data:=.seq a.toArray n' }:=by
  rw[pV f i (by rw[d]<;>rfl),d]
 refine I.write (x:=p) (e:=p) (by rw[h];trivial) (.inl rfl) (λb u g q=>(Heap.get?_update_other _ _ (fO g)).trans q) ⟨_,e⟩ ?_;exact⟨j,a,n',r,e⟩
def zG:V->V->V->Hp->(Hp->Prop)->Prop:=λo i v H Q=>∃p a k j,o=.ref p/\i=.int k/\H p=some (.lst a)/\ko a.length k=some j/\Q (aZ H p (.lst (a.set j v)))
theorem MW:AW X zG:=by
 intro y s G H o i v S U u Q I C w A h;obtain⟨p,E,k,j,rfl,rfl,m,z,q⟩:=h;cases C;obtain⟨t,rfl⟩:=w;obtain⟨a,n,r,d,x⟩:=I.lst m;obtain⟨b,P,l,f⟩:=xA z;have c:=r.length;have J:=fV;have g:Inv X y G (aZ H p (.lst (E.set j v))) {s with heap:=s.heap.update p (Obj.mapSeq (·.setIfInBounds j u))}:=
  I.lstUpd m d (UC a n j u) (r.set A j) (by rw[iV];exact x) s.toks
 by_cases h0:0<=k
 ·have e:k.toNat=j:=by
   rw[seqIndex_of h0 f] at b;exact g7 b
  exact W.ki_setAt d h0 (by lia) (by rw[dQ,←c];exact f) (by rw[e];exact⟨_,g,q⟩)
 ·have e:(k+(a.toArray.size:Int)).toNat=j:=by
   rw[seqIndex_neg (by lia) l] at b;rw[dQ,←c];exact g7 b
  exact W.ki_setBack d (by lia) (by rw[dQ,←c];exact l) (by lia) (by rw[e];exact⟨_,g,q⟩)
theorem VE(lo a:Option Int)(n:Nat):(sliceBounds lo a none n).1=((HT.bW n 0 lo:Nat):Int)/\(sliceBounds lo a none n).2.1=((HT.bW n n a:Nat):Int)/\(sliceBounds lo a none n).2.2=1:=by
 refine⟨?_,?_,rfl⟩
 ·cases lo with
  |none=>simp[sliceBounds,HT.bW]
  |some i=>
   simp only[sliceBounds,HT.bW,Option.getD_none,show(1:Int) > 0 by decide,gt];by_cases h:i<0
   ·simp only[h,gt]<;>lia
   ·simp only[h,gj]<;>lia
 ·cases a with
  |none=>simp[sliceBounds,HT.bW]
  |some i=>
   simp only[sliceBounds,HT.bW,Option.getD_none,show(1:Int) > 0 by decide,gt];by_cases h:i<0
   ·simp only[h,gt]<;>lia
   ·simp only[h,gj]<;>lia
theorem VN(a:List Value)(lo b:Option Int):slicePick a.toArray lo b none=((a.drop (HT.bW a.length 0 lo)).take (HT.bW a.length a.length b-HT.bW a.length 0 lo)).toArray:=by
 obtain⟨d,c,e⟩:=VE lo b a.toArray.size;unfold slicePick;rw[d,c,e];simp only[sliceRange_one,pick_run,dQ]<;>rfl
def P2(K:Fg):V->Option Int->Option Int->Hp->VK->Prop:=λx lo c H Q=>∃a b,x=.ref a/\cV K H a b/\∀p,H p=none->Q (.ref p) (aZ H p (.lst (gH b lo c)))
theorem KA:qe X (P2 X.K):=by
 intro z s t H x v u w lo e y Q I g k i j h;obtain⟨a,c,rfl,l,q⟩:=h;cases g;obtain⟨m,r,f,n⟩:=I.list l;have d:=r.length;refine⟨"list",_,OY.lookup,f.isList.typeIs,?_⟩
 refine wpAny_getItem_list_slice f.isList k i j .none (by simp) ?_ (by rw[dQ]<;>lia);rw[VN,←d];refine⟨.ref s.heap.objs.size,_,I.laid (t':=s.toks) (o:=.lst (gH c lo e)) (λb p q=>dC _ q) (bj _) ?_,rfl,q _ (I.hok.fresh (bj _))⟩;exact⟨ax (S7 c lo e) n,_,0,(r.drop (HT.bW c.length 0 lo)).take (HT.bW c.length c.length e-HT.bW c.length 0 lo),fL _ rfl⟩
theorem zu:bE X (.builtin "len") (λf H Q=>∃ p b,f=[.ref p]/\(cV X.K H p b\/cx X.K H p b)/\Q (.int b.length) H):=by
 intro m s j H f k Q I r h;obtain⟨p,b,rfl,hq,q⟩:=h;obtain⟨u,rfl,g⟩:=vals1 r;cases g;have l:=fV;rcases hq with hq|hq
 ·obtain⟨d,e,c,i⟩:=I.list hq;have a:=e.length;exact Calls.call_len_list c.isList (by simp only[dQ]<;>lia) ⟨.int b.length,H,I.tok _,⟨s.toks+1,by rw[dQ,a]⟩,q⟩
 ·obtain⟨d,e,c,i⟩:=I.tuple hq;have a:=e.length;exact len_tuple c (by simp only[dQ]<;>lia) ⟨.int b.length,H,I.tok _,⟨s.toks+1,by rw[dQ,a]⟩,q⟩
theorem bE.or(h:bE X f r)(g:bE X f r'):bE X f (λa H Q=>r a H Q\/r' a H Q):=by
 intro e s d H a b Q I c q;rcases q with q|q
 ·exact h e s d H a b Q I c q
 ·exact g e s d H a b Q I c q
theorem Fu:bE X (.type "list") (λy H Q=>∃ p f,y=[.ref p]/\(cV X.K H p f\/cx X.K H p f)/\∀ l,H l=none->Q (.ref l) (aZ H l (.lst f))):=by
 intro A s E H y G Q I r h;obtain⟨p,f,rfl,hq,q⟩:=h;obtain⟨u,rfl,C⟩:=vals1 r;cases C;have k:∀(a:List Value),am f a->f.length<=sizeLine->∀(c:Heap) (g:Nat),(∀b z,s.heap.get? b=some z->c.get? b=some z) ->
   c.get? s.heap.objs.size=some { cls:=.type "list",dict:=none,data:=.seq a.toArray g,slots:=#[] }->EP X A E Q (.ref s.heap.objs.size) { s with heap:=c }:=λa d i c g m e=>
  ⟨.ref s.heap.objs.size,_,I.laid (t':=s.toks) m (bj _) (show ba X.prog X.w _ c _ (.lst f) from⟨i,a,g,d,e⟩),rfl,q _ (I.hok.fresh (bj _))⟩
 rcases hq with hq|hq
 ·obtain⟨a,d,x,i⟩:=I.list hq;have j:=d.length;obtain⟨o,t,w,n,v⟩:=x.isList;exact call_list_seq p (.inl rfl) t w v (λc g m e=>k a d i c g m e) (by simp only[dQ]<;>lia)
 ·obtain⟨a,d,x,i⟩:=I.tuple hq;have j:=d.length;obtain⟨o,t,w,n,v⟩:=x;exact call_list_seq p (.inr rfl) t w v (λc g m e=>k a d i c g m e) (by simp only[dQ]<;>lia)
theorem qK:bE X (.type "tuple") (λn H Q=>∃ p c,n=[.ref p]/\((cV X.K H p c/\∀ l,H l=none->Q (.ref l) (aZ H l (.tup c)))\/(cx X.K H p c/\Q (.ref p) H))):=by
 intro v s j H n z Q I r h;obtain⟨p,c,rfl,h⟩:=h;obtain⟨u,rfl,w⟩:=vals1 r;cases w;rcases h with⟨g,q⟩|⟨g,q⟩
 ·obtain⟨a,i,f,t⟩:=I.list g;have m:=i.length;refine call_tuple_list f.isList (λd y=>?_) (by simp only[dQ]<;>lia);have k:Inv X v j H {s with heap:=d}:=I.kept (t':=s.toks) y;have x:Inv X v j (aZ H d.objs.size (.tup c)) { s with heap:=d.push { cls:=.type "tuple",data:=.seq a.toArray } }:=
   k.laid (t':=s.toks) (λb o e=>dC _ e) (bj _) (show ba X.prog X.w _ _ _ (.tup c) from⟨t,a,i,IsTup.new _ _⟩)
  exact⟨.ref d.objs.size,_,x,rfl,q _ (k.hok.fresh (bj _))⟩
 ·obtain⟨a,i,f,t⟩:=I.tuple g;exact call_tuple_same f ⟨.ref p,H,I,rfl,q⟩
def T3(K:Fg) (T:String) (x:V) (H:Hp):Prop:=match x with
 |.str _=>T="str"
 |.int _=>T="int"
 |.ref p=>(T="list"/\∃ b,cV K H p b)\/(T="tuple"/\∃ o,K.lookup p=some o/\o.cls=.type "tuple"/\o.dict=none) \/
  (T="dict"/\((∃ a,H p=some (.dK a))\/∃ a,H p=some (.dT a)))\/(T="set"/\∃ S n,H p=some (.set S n))
 |_=>False
theorem IB{T:String}(I:Inv X aU σ H s)(r:RelV x v)(f:T3 X.K T x H):
  s.TypeIs v T/\∀a,v=.ref a->∃k,s.heap.get? a=some k/\k.dict=none:=by
 cases x with
 |str z=>
  obtain⟨t,rfl⟩:=r;cases(show T="str" from f)
  exact⟨typeIs_str s z t,λ_ e=>nomatch e⟩
 |int i=>
  obtain⟨t,rfl⟩:=r;cases(show T="int" from f)
  exact⟨typeIs_int s i t,λ_ e=>nomatch e⟩
 |ref p=>
  cases r;rcases f with⟨rfl,w,q⟩|⟨rfl,o,b,u,j⟩|⟨rfl,b⟩|⟨rfl,S,n,b⟩
  ·obtain⟨m,_,l,_⟩:=I.list q;refine⟨l.isList.typeIs,λa e=>?_⟩;cases e;obtain⟨o,n,e,c,j,_⟩:=l;exact⟨o,e,j⟩
  ·refine⟨⟨o,I.kIn p o b,u⟩,λa e=>?_⟩;cases e;exact⟨o,I.kIn _ o b,j⟩
  ·have z:∃o,s.heap.get? p=some o/\o.ExactDict:=by
    rcases b with⟨g,b⟩|⟨g,b⟩
    ·obtain⟨_,_,_,_,o,_,_,e,d,_⟩:=I.hok p _ b;exact⟨o,e,d⟩
    ·obtain⟨_,_,_,_,o,_,_,e,d,_⟩:=I.hok p _ b;exact⟨o,e,d⟩
   obtain⟨o,e,d⟩:=z;refine⟨⟨o,e,d.1⟩,λa h=>?_⟩;cases h;exact⟨o,e,d.2.1⟩
  ·obtain⟨o,_,_,_,e,d,_⟩:=I.hok p _ b;refine⟨⟨o,e,d.1⟩,λa h=>?_⟩;cases h;exact⟨o,e,d.2.1⟩
 |_=>exact False.elim f
def WQ(K:Fg) (T:String) (r:V->List V->Hp->VK->Prop) (c:TE) (t:TA):TE:=λa H Q=>c a H λx H1=>T3 K T x H1/\t a H1 λb H2=>r x b H2 Q
theorem nQ{c:Pos}{T:String}{id:String}(pa:PlainAttrs T)(g:Slot T name id)(l:typeOf (.builtin id)=pure (.type "method_descriptor"))(hm:DN X id r)(A:PE X o to)(w:PA X (e::es) t)
  (f:attributeBase o name X.env (eval o X.env)=eval o X.env:=by rfl)
  (i:((backTo cpos (starEach (e::es) X.env)).all (λx=>!x.1)&&(backToKw cpos (keywordEach [] X.env)).all (λx=>x.1.isSome)
   && decide ((e::es).length+([]:List Keyword).length+(if([]:List Keyword).isEmpty then 0 else 1)<30))=true:=by rfl)
  (d:(c.endLine==cpos.line)=true:=by rfl)(z:starEach (e::es) X.env=(false,eval e X.env)::starEach es X.env:=by rfl)(b:(backTo cpos (starEach es X.env)).any (·.1)=false:=by rfl):
  PE X (.Call (.Attribute o name c) (e::es) [] cpos) (WQ X.K T r to t):=by
 intro j s n H Q I h;refine wpAny_Call_method_late f i d rfl (bu (A j s n H _ I h) λv J k=>?_);obtain⟨x,H1,q,p,S,q1⟩:=k;obtain⟨h1,y⟩:=IB q p S;refine⟨T,id,pa,g,l,h1,y,?_⟩;have u:=w cpos j J n H1 _ q q1;rw[z] at u ⊢;refine Pq (by show(false||(backTo cpos (starEach es X.env)).any (·.1))=false;rw[b]<;>rfl) (Pl ?_);exact bu u λU Y ⟨C,H2,P,E,G⟩=>hm j Y n H2 x C v U Q P p E G
/- xs.append(e),list.index on a module's tuple .. are DN facts of 06m -/
def Ud(X:Cx) (id:String) (r:V->List V->Hp->VK->Prop):Prop:=
 ∀(d:List (Addr×Obj)) (s:Shared) (a:St) (H:Hp) (x:V) (b:List V) (v:Value) (c:List Value) (Q:VK),Inv X d a H s->RelV x v->am b c->r x b H Q ->
  wpAny (model X.prog X.w) X.A (call (.builtin id) (v::c)) (EP X d a Q) X.xe s
theorem am.one:∀{x:V}{a:List Value},am [x] a->∃u,a=[u]/\RelV x u
 |_,_,.cons r .nil=>⟨_,rfl,r⟩
theorem Inv.lset{a its':List Value}(I:Inv X aU σ H s)(d:H l=some (.lst xs))
  (e:s.heap.get? l=some { cls:=.type "list",data:=.seq a.toArray n })(i:f a.toArray=its'.toArray)(c:am ys its')(h:ys.length<=sizeLine):
  Inv X aU σ (aZ H l (.lst ys)) {s with heap:=s.heap.update l (Obj.mapSeq f),toks:=t'}:=by
 have q:=PySem.IsL.update e f;rw[i] at q;refine I.write (x:=l) (e:=l) (by rw[d];exact trivial) (.inl rfl) (λj u b g=>(Heap.get?_update_other s.heap (Obj.mapSeq f) (fO b)).trans g) ⟨_,q⟩ ?_;exact⟨h,its',_,c,q⟩
theorem Inv.lnew(I:Inv X aU σ H s)(b:am ys its)(a:ys.length<=sizeLine):
  Inv X aU σ (aZ H s.heap.objs.size (.lst ys)) { s with heap:=s.heap.push { cls:=.type "list",data:=.seq its.toArray },toks:=t' }:=
 I.laid (λ_ _ q=>dC _ q) (bj _) ⟨a,its,0,b,fL _ rfl⟩
theorem Inv.fresh(I:Inv X aU σ H s):H s.heap.objs.size=none:=I.hok.fresh (bj _)
theorem Inv.lstM(I:Inv X aU σ H s)(b:H l=some (.lst xs)):xs.length<=sizeLine/\∃(a:List Value) (n:Nat),am xs a/\xs.length=a.length/\s.heap.get? l=some { cls:=.type "list",data:=.seq a.toArray n }:=by
 obtain⟨z,a,n,r,e⟩:=I.hok l _ b;exact⟨z,a,n,r,r.length,e⟩
theorem mC(h:n<=sizeLine):Builtin.List.listTooLong n=false:=by
 unfold Builtin.List.listTooLong;exact cI (by lia)
def oP:V->List V->Hp->VK->Prop:=λx b H Q=>∃l a y,x=.ref l/\b=[y]/\H l=some (.lst a)/\a.length<sizeLine/\Q .non (aZ H l (.lst (a++[y])))
theorem RY:Ud X "list.append" oP:=by
 intro p s g H x o v i Q I c f h;obtain⟨l,j,y,rfl,rfl,b,m,q⟩:=h;cases c;obtain⟨u,rfl,d⟩:=f.one;obtain⟨z,a,n,r,k,e⟩:=I.lstM b;refine rh F.slot_list_append ⟨_,e,rfl⟩ F.entry_list_append (F.args_list_append_2 _ _) (PySem.list_append l a.toArray n u (by rw[dQ];lia)) ⟨e,?_⟩;refine⟨.non,_,I.lset (its':=a++[u]) b e (by simp) (r.append (.cons d .nil)) ?_,rfl,q⟩;rw[cJ,rL];lia
def oO:V->List V->Hp->VK->Prop:=λx d H Q=>∃l b c a,x=.ref l/\d=[.ref b]/\H l=some (.lst c)/\H b=some (.lst a)/\c.length+a.length<=sizeLine/\Q .non (aZ H l (.lst (c++a)))
theorem NW:Ud X "list.extend" oO:=by
 intro E s S H x C v G Q I o m h;obtain⟨l,b,J,U,rfl,rfl,g,i,A,q⟩:=h;cases o;obtain⟨u,rfl,t⟩:=m.one;cases t;obtain⟨z,c,n,r,y,e⟩:=I.lstM g;obtain⟨P,a,j,k,p,w⟩:=I.lstM i;have f:c.toArray.size+a.toArray.size<=sizeLine:=by rw[dQ,dQ];lia
 have d:¬ (!c.toArray.isEmpty&&Builtin.List.listTooLong (c.toArray.size+a.toArray.size))=true:=by
  rw[mC f,Bool.and_false];exact oB
 refine rh F.slot_list_extend ⟨_,e,rfl⟩ F.entry_list_extend (F.args_list_extend_2 _ _)
  (AutoSeq1.list_extend_list_list_0 l c.toArray n b a.toArray j d (by rw[dQ];lia) (by lia)) ⟨e,w,?_⟩
 refine⟨.non,_,I.lset (its':=c++a) g e (by simp) (r.append k) ?_,rfl,q⟩;rw[cJ];lia
def zQ:R2:=λx y H Q=>∃l b c a,x=.ref l/\y=.ref b/\H l=some (.lst c)/\H b=some (.lst a)/\c.length+a.length<=sizeLine/\∀p,H p=none->Q (.ref p) (aZ H p (.lst (c++a)))
theorem HI:dq X (binaryOp .Add) zQ:=by
 intro J s p H x y v u Q I d j h;obtain⟨l,b,t,E,rfl,rfl,i,k,G,q⟩:=h;cases d;cases j;obtain⟨z,c,n,r,C,e⟩:=I.lstM i;obtain⟨A,a,w,f,m,o⟩:=I.lstM k;refine PySem.P.add_list e o ?_ (by rw[dQ,dQ];lia);have g:c.toArray++a.toArray=(c++a).toArray:=by simp
 rw[g];exact⟨.ref _,_,I.lnew (t':=s.toks) (r.append f) (by rw[cJ];lia),rfl,q _ I.fresh⟩
section
variable {κ:Type}[DecidableEq κ]
noncomputable def ck(a:List (κ×V)) (k:κ):Option V:=(a.find? λb=>decide (b.1=k)).map (·.2)
noncomputable def ec(a:List (κ×V)) (k:κ) (v:V):List (κ×V):=
 if(a.any λb=>decide (b.1=k))=true then a.map (λb=>if b.1=k then(b.1,v) else b) else a++[(k,v)]
noncomputable def df(a:List (κ×V)) (k:κ):List (κ×V):=a.filter λb=>decide (b.1≠k)
theorem vf{p:κ×V}{r:List (κ×V)}{k:κ}(e:p.1=k):ck (p::r) k=some p.2:=by simp[ck,lF,e]
theorem ve{p:κ×V}{r:List (κ×V)}{k:κ}(e:¬ p.1=k):ck (p::r) k=ck r k:=by simp[ck,lF,e]
theorem Rw(k:κ):∀a:List (κ×V),(a.any λb=>decide (b.1=k))=(ck a k).isSome
 |[]=>rfl
 |p::r=>by
  rw[rq];by_cases e:p.1=k
  ·simp only[vf e,cC e,Bool.true_or,Option.isSome_some]
  ·rw[ve e,cI e,Bool.false_or];exact Rw k r
theorem Fm(a:List (κ×V))(k:κ)(v:V):(ec a k v).length<=a.length+1:=by
 unfold ec;split
 ·rw[bh];lia
 ·rw[cJ,dh,ua];lia
theorem fm.isSome_eq(r:fm o u):o.isSome=u.isSome:=by
 cases o with
 |none=>cases u with
  |none=>rfl
  |some _=>exact(show False from r).elim
 |some _=>cases u with
  |none=>exact(show False from r).elim
  |some _=>rfl
theorem fm.getD(r:fm o u)(a:RelV d d'):RelV (o.getD d) (u.getD d'):=by
 cases o with
 |none=>cases u with
  |none=>exact a
  |some _=>exact(show False from r).elim
 |some _=>cases u with
  |none=>exact(show False from r).elim
  |some _=>exact r
theorem KV.val(r:KV kvs vs)(k:κ):fm (ck kvs k) (valueAt vs k):=by
 unfold KV at r
 induction r with
 |nil=>exact True.intro
 |@cons p q ps qs h t ih=>
  obtain⟨c,d⟩:=h;by_cases e:p.1=k
  ·have a:q.1=k:=c.symm.trans e;have b:valueAt (q::qs) k=some q.2:=by simp[valueAt,lF,a]
   rw[vf e,b];exact d
  ·have a:¬ q.1=k:=λz=>e (c.trans z)
   have b:valueAt (q::qs) k=valueAt qs k:=by simp[valueAt,lF,a]
   rw[ve e,b];exact ih
theorem KV.any(r:KV kvs vs)(k:κ):(kvs.any λa=>decide (a.1=k))=vs.any λa=>decide (a.1=k):=by
 unfold KV at r
 induction r with
 |nil=>rfl
 |cons h t ih=>rw[rq,rq,ih,h.1]
theorem KV.repl(r:KV kvs vs)(k:κ) (c:RelV y u):
  KV (kvs.map λa=>if a.1=k then(a.1,y) else a) (vs.map λa=>if a.1=k then(a.1,u) else a):=by
 unfold KV at r ⊢
 induction r with
 |nil=>exact .nil
 |@cons p q ps qs h t ih=>
  rw[ce,ce];refine .cons ?_ ih;obtain⟨b,d⟩:=h;by_cases e:p.1=k
  ·rw[if_pos e,if_pos (b.symm.trans e)];exact⟨b,c⟩
  ·rw[if_neg e,if_neg (λz=>e (b.trans z))];exact⟨b,d⟩
theorem KV.put(r:KV kvs vs)(k:κ) (a:RelV y u):KV (ec kvs k y) (stored vs k u):=by
 unfold ec stored;rw[r.any k];by_cases e:(vs.any λb=>decide (b.1=k))=true
 ·rw[if_pos e,if_pos e];exact r.repl k a
 ·rw[if_neg e,if_neg e];exact Paired.snoc r ⟨rfl,a⟩
theorem KV.drop(r:KV kvs vs)(k:κ):KV (df kvs k) (without vs k):=by
 unfold KV at r ⊢;unfold df without
 induction r with
 |nil=>exact .nil
 |@cons p q ps qs h t ih=>
  obtain⟨c,d⟩:=h;rw[pM,pM];by_cases e:p.1=k
  ·have a:¬ decide (p.1≠k)=true:=by simp[e]
   have b:¬ decide (q.1≠k)=true:=by simp[c.symm.trans e]
   rw[if_neg a,if_neg b];exact ih
  ·have f:¬ q.1=k:=λz=>e (c.trans z)
   have a:decide (p.1≠k)=true:=by simp[e]
   have b:decide (q.1≠k)=true:=by simp[f]
   rw[if_pos a,if_pos b];exact .cons ⟨c,d⟩ ih
theorem KV.keys{a:List (κ×V)}{b:List (κ×Value)}(r:KV a b):a.map (·.1)=b.map (·.1):=by
 unfold KV at r
 induction r with
 |nil=>rfl
 |cons h t ih=>rw[ce,ce,ih,h.1]
theorem KV.length(r:KV kvs vs):kvs.length=vs.length:=rx r
theorem Ln(a:List (κ×V))(k:κ):(df a k).length<=a.length:=pU _ _
end
theorem ju(r:RelV (kV k) u):(aX P w).is k u=true:=by
 cases k with
 |inl i=>obtain⟨t,e⟩:=(show ∃t,u=Value.int i t from r);subst e;exact U4 P w i t
 |inr x=>obtain⟨t,e⟩:=(show ∃t,u=Value.str x t from r);subst e;exact U5 P w x t
theorem RV:∀{a:List cy}{b:List Value},am (a.map kV) b->ItemsAre (aX P w) a b
 |[],_,r=>by rw[CN] at r;cases r;exact .nil
 |k::a,_,r=>by
  rw[ce] at r;cases r with
  |cons h t=>exact .cons (ju h) (RV t)
abbrev KT(H:Hp):List (List cy×V)->List (List cy×Addr×Value)->Prop:=Paired λp q=>p.1=q.1/\H q.2.1=some (.tup (p.1.map kV))/\RelV p.2 q.2.2
theorem KT.val(r:KT H kvs xs)(k:List cy):fm (ck kvs k) ((atKey xs k).map (·.2)):=by
 induction r with
 |nil=>exact True.intro
 |@cons p q ps qs h t ih=>
  obtain⟨c,_,d⟩:=h;by_cases e:p.1=k
  ·have a:q.1=k:=c.symm.trans e;have b:atKey (q::qs) k=some q.2:=by simp[atKey,lF,a]
   rw[vf e,b];exact d
  ·have a:¬ q.1=k:=λz=>e (c.trans z)
   have b:atKey (q::qs) k=atKey qs k:=by simp[atKey,lF,a]
   rw[ve e,b];exact ih
theorem KT.repl(r:KT H kvs xs)(k:List cy) (d:RelV y u):
  KT H (kvs.map λb=>if b.1=k then(b.1,y) else b) (xs.map (putAt k u)):=by
 induction r with
 |nil=>exact .nil
 |@cons p q ps qs h t ih=>
  rw[ce,ce];refine .cons ?_ ih;obtain⟨a,c,f⟩:=h;unfold putAt;by_cases e:p.1=k
  ·rw[if_pos e,if_pos (a.symm.trans e)];exact⟨a,c,d⟩
  ·rw[if_neg e,if_neg (λz=>e (a.trans z))];exact⟨a,c,f⟩
theorem KT.put(r:KT H kvs xs)(k:List cy) (d:H b=some (.tup (k.map kV)))(a:RelV y u):
  KT H (ec kvs k y) (storedH xs k b u):=by
 have e:(kvs.any λc=>decide (c.1=k))=(atKey xs k).isSome:=by
  rw[Rw,(r.val k).isSome_eq,Option.isSome_map]
 unfold ec storedH;rw[e];by_cases q:(atKey xs k).isSome=true
 ·rw[if_pos q,if_pos q];exact r.repl k a
 ·rw[if_neg q,if_neg q];exact Paired.snoc r ⟨rfl,d,a⟩
theorem KT.keeps(r:KT H kvs xs)(c:∀b a,H b=some (.tup a)->H' b=some (.tup a)):KT H' kvs xs:=
 Paired.mapP r λ_ _ z=>⟨z.1,c _ _ z.2.1,z.2.2⟩
theorem vO(b:fu P w H h)(e:Rd H a u):ba P w H h a u:=e.ok b
theorem jt(b:fu P w H h)(e:Rd H a (.dK kvs)):kvs.length<=sizeLine/\(a==sysModules)=false/\∃vs,KV kvs vs/\h.DictOf (aX P w) a vs:=
 show ba P w H h a (.dK kvs) from vO b e
theorem qD(b:fu P w H h)(e:H a=some (.dK kvs)):kvs.length<=sizeLine/\(a==sysModules)=false/\∃vs,KV kvs vs/\h.DictOf (aX P w) a vs:=jt b (.inl e)
theorem sN{c:List cy}(f:fu P w H h)(e:H a=some (.tup (c.map kV))):(tupleKind (aX P w)).is h c a:=by
 obtain⟨_,b,r,o,g,d,n,i⟩:=(show ba P w H h a (.tup (c.map kV)) from f a _ e)
 exact⟨o,b.toArray,n,g,d,i,by simpa using RV r⟩
theorem kL(c:fu P w H h)(e:Rd H a (.dT kvs)):kvs.length<=sizeLine/\(a==sysModules)=false /\
  ∃xs,KT H kvs xs/\h.DictOfH (tupleKind (aX P w)) a xs:=by
 obtain⟨z,y,xs,r,o,g,f,j,d,n,k,i⟩:=(show ba P w H h a (.dT kvs) from vO c e)
 refine⟨z,y,xs,r,o,g,f,j,d,n,k,λx hx=>?_,i⟩;have b:∀{l:List (List cy×V)}{m:List (List cy×Addr×Value)},KT H l m->∀x∈m,(tupleKind (aX P w)).is h x.1 x.2.1:=by
  intro l m q
  induction q with
  |nil=>intro x hx;exact nomatch hx
  |@cons p q ps qs hq t ih=>
   intro x hx;rcases bZ.mp hx with e|hx
   ·subst e;exact sN c (by rw[←hq.1];exact hq.2.1)
   ·exact ih x hx
 exact b r x hx
theorem vI(b:fu P w H h)(e:H a=some (.dT kvs)):kvs.length<=sizeLine/\(a==sysModules)=false /\
 ∃xs,KT H kvs xs/\h.DictOfH (tupleKind (aX P w)) a xs:=kL b (.inl e)
def jh(H:Hp) (a:Addr) (y:V) (r:Option V):Prop:=
 (∃c k,Rd H a (.dK c)/\y=kV k/\r=ck c k)\/∃c k b,Rd H a (.dT c)/\y=.ref b/\H b=some (.tup (k.map kV))/\r=ck c k
def mN(H:Hp) (a:Addr) (y v:V) (d:Hp):Prop:=
 (∃c k,H a=some (.dK c)/\y=kV k/\c.length<sizeLine/\d=aZ H a (.dK (ec c k v))) \/
 ∃c k b,H a=some (.dT c)/\y=.ref b/\H b=some (.tup (k.map kV))/\c.length<sizeLine/\d=aZ H a (.dT (ec c k v))
theorem mN.t{k:List cy}(e:H a=some (.dT kvs))(d:H b=some (.tup (k.map kV)))(c:kvs.length<sizeLine):
 mN H a (.ref b) v (aZ H a (.dT (ec kvs k v))):=.inr ⟨kvs,k,b,e,rfl,d,c,rfl⟩
theorem Inv.big(I:Inv X aU σ H s):sysModules<s.heap.objs.size:=by
 have h:mainGlobals<s.heap.objs.size:=(I.mod.glob.keeps I.bk).lt;exact ro (by decide) h
theorem Nt{A:Around}(x:A.units+1<cLine)(I:Inv X aU σ H s)(g:jh H a y (some v))(r:RelV y u)(h:∀f t,Inv X aU σ H t->RelV v f->Q f t):
  wpAny (model X.prog X.w) A (getItem (.ref a) u) Q E s:=by
 rcases g with⟨j,k,e,n,l⟩|⟨j,k,b,e,n,J,l⟩
 ·subst n;obtain⟨z,C,P,c,i⟩:=jt I.hok e;obtain⟨f,m,d⟩:=fm.some_of (v:=v) (o:=valueAt P k) (by rw[l];exact c.val k);exact wpAny_getItem_of (ju r) i.mapOf m (h f _ (I.tok _) d)
 ·subst n;cases(show u=Value.ref b from r);obtain⟨z,C,w,c,i⟩:=kL I.hok e;obtain⟨f,m,d⟩:=fm.some_of (v:=v) (o:=(atKey w k).map (·.2)) (by rw[l];exact c.val k);obtain⟨p,G,q⟩:=jE.mp m;refine wpAny_getItem_heap (yK x) (sN I.hok J) i G ?_;rw[q];exact h f _ (I.tok _) d
theorem sj{A:Around}(p:A.units+1<cLine)(I:Inv X aU σ H s)(g:jh H a y o)(m:RelV y u)(h:∀n,Inv X aU σ H n->Q (.bool o.isSome) n):
  wpAny (model X.prog X.w) A (compareOp .In u (.ref a)) Q E s:=by
 rcases g with⟨f,k,e,i,l⟩|⟨f,k,b,e,i,r,l⟩
 ·subst i;obtain⟨z,j,v,c,d⟩:=jt I.hok e;refine wpAny_in_of (ju m) j d.mapOf ?_;rw[←(c.val k).isSome_eq,←l];exact h _ (I.tok _)
 ·subst i;cases(show u=Value.ref b from m);obtain⟨z,j,t,c,d⟩:=kL I.hok e;refine wpAny_in_heap (yK p) (sN I.hok r) j d ?_;have q:=(c.val k).isSome_eq;rw[Option.isSome_map] at q;rw[←q,←l];exact h _ (I.tok _)
theorem uL(I:Inv X aU σ H s)(f:AZ (H a))(h:Heap.SameBut a s.heap h')(g:∃q,h'.get? a=some q)(c:ba X.prog X.w (aZ H a ob) h' a ob):
  Inv X aU σ (aZ H a ob) {s with heap:=h',toks:=t'}:=
 I.write (x:=a) (e:=a) f (.inl rfl) (λb q d z=>(h.2 b d).trans z) g c
theorem qQ{d:Heap}{b:List (cy×V)}(z:b.length<=sizeLine)(f:(a==sysModules)=false)(c:KV b vs)(e:d.DictOf (aX P w) a vs):
 ba P w H' d a (.dK b):=⟨z,f,vs,c,e⟩
theorem Nu{A:Around}(hu:A.units+1<cLine)(I:Inv X aU σ H s)(g:mN H a y v H')(G:RelV y u)(P:RelV v r)(h:∀S,Inv X aU σ H' S->Q () S):
  wpAny (model X.prog X.w) A (setItem (.ref a) u r) Q E s:=by
 rcases g with⟨f,k,e,p,l,x⟩|⟨f,k,b,e,p,U,l,x⟩
 ·subst p x;obtain⟨z,w,vs,d,t⟩:=qD I.hok e;have o:vs.length<=sizeLine:=by rw[←d.length];exact z
  have n:(ec f k v).length<=sizeLine:=by have:=Fm f k v;lia
  refine wpAny_setItem_pairs (hsz:=o) (ju G) t λC i m=>h _ ?_
  have he:∃q,C.get? a=some q:=let ⟨q,_,_,j,_⟩:=i;⟨q,j⟩
  exact uL I (by rw[e];exact True.intro) m he (qQ n w (d.put k P) i)
 ·subst p x;cases(show u=Value.ref b from G);obtain⟨z,w,xs,d,t⟩:=vI I.hok e;have o:xs.length<=sizeLine:=by rw[←rx d];exact z
  have n:(ec f k v).length<=sizeLine:=by have:=Fm f k v;lia
  refine wpAny_setItem_heap (hsz:=o) (yK hu) (sN I.hok U) t λC i m=>h _ ?_
  obtain⟨q,es,ep,j,Y,h3,h4,_,h5⟩:=i;refine uL I (by rw[e];exact True.intro) m ⟨q,j⟩ ⟨n,w,_,(d.put k U P).keeps λc ys J=>?_,q,es,ep,j,Y,h3,h4,h5⟩;rw[zy (vK J e (λz=>nomatch z))];exact J
theorem FU(I:Inv X aU σ H s)(e:H a=some (.dK kvs))(g:RelV (kV k) u)(l:ck kvs k=some v)(p:more=[]\/∃x,more=[x])
  (h:∀ c m,Inv X aU σ (aZ H a (.dK (df kvs k))) m->RelV v c->Q c m):wpAny (model X.prog X.w) A (call (.builtin "dict.pop") (.ref a::u::more)) Q E s:=by
 obtain⟨z,J,n,b,j⟩:=qD I.hok e;obtain⟨c,G,f⟩:=fm.some_of (v:=v) (o:=valueAt n k) (by rw[←l];exact b.val k);have P:(keyPart u).isSome=true:=by
  cases k with
  |inl i=>obtain⟨t,q⟩:=(show ∃t,u=Value.int i t from g);subst q;rfl
  |inr x=>obtain⟨t,q⟩:=(show ∃t,u=Value.str x t from g);subst q;rfl
 have r:argsOk "dict.pop" ⟨.ref a::u::more,[]⟩:=by
  rcases p with q|⟨x,q⟩
  ·subst q;exact F.args_dict_pop_2 _ _
  ·subst q;exact F.args_dict_pop_3 _ _ _
 refine yp Dt j.typeIs F.entry_dict_pop r (meets_dict_pop_there (aX X.prog X.w) a (ju g) more p P)
  ⟨n,c,j,by rw[←b.length];exact z,G,λw d C=>h c _ ?_ f⟩
 have y:∃q,w.get? a=some q:=let ⟨q,_,_,hq,_⟩:=d;⟨q,hq⟩
 exact uL I (by rw[e];exact True.intro) C y (qQ (ax (Ln kvs k) z) J (b.drop k) d)
noncomputable def o4(i:Expr):Prop:=∀a b,subscripted i false a b=operate [a,b] (getItem a b)
theorem KD{T id:String}
  (k:typeLookup (.type T) "__getitem__"=pure (some (.builtin id)))(j:o4 slice)
  (h:wpAny (model prog w) A (eval value env) (λo b=>wpAny (model prog w) A (eval slice env) (λi s₂=>s₂.TypeIs o T/\wpAny (model prog w) A (getItem o i) Q E s₂) E b) E s):
  wpAny (model prog w) A (eval (.Subscript value slice pos) env) Q E s:=by
 refine Subscript_ (iq h (λo b f=>iq f (λi s₂ a=>?_) λ_ _ x=>x) λ_ _ x=>x);obtain⟨g,a⟩:=a;unfold subscriptTail;refine ae ?_;rw[getitemInPython_of_ne g.not_modules];refine ae (wpAny_specialOf g k ?_);have d:wpAny (model prog w) A (subscripted slice false o i) (λr c=>wpAny (model prog w) A (letTemporaryGo value o r >>= λ_=>pure r) Q E c) E s₂:=by
  rw[j o i];exact wpAny_operating (iq a (λr c e=>ae (wpAny_letTemporaryGo (ar e))) λ_ _ x=>x)
 first
  |exact ar (ae d)
  |exact ae (ar (ae d))
  |exact ae d
theorem U0(I:Inv X aU σ H s)(g:jh H a y o):s.TypeIs (.ref a) "dict":=by
 rcases g with⟨d,k,e,_,_⟩|⟨d,k,b,e,_,_,_⟩
 ·obtain⟨_,_,h,_,c⟩:=jt I.hok e;exact c.typeIs
 ·obtain⟨_,_,f,_,c⟩:=kL I.hok e;exact c.typeIs
def y8(d c:TE):TE:=λb H Q=>d b H λx H1=>c b H1 λy H2=>∃a v,x=.ref a/\jh H2 a y (some v)/\Q v H2
def PV(c d:TE):TE:=λb H Q=>c b H λy H1=>d b H1 λx H2=>∃a o,x=.ref a/\jh H2 a y o/\Q (.bl o.isSome) H2
def f6(e d f:TE):TS:=λD b H=>f b H λv H1=>e b H1 λx H2=>d b H2 λy H3=>∃a c,x=.ref a/\mN H3 a y v c/\D.nx b c
theorem Kf{X:Cx}(n:X.A.units+1<cLine)(p:PE X o td)(l:PE X i ty)(k:o4 i):PE X (.Subscript o i pos) (y8 td ty):=by
 intro d s f H Q I h;refine KD F.slot_dict_getitem.lookup k (bu (p d s f H _ I h) λu t ⟨x,H1,q,w,A⟩=>bu (l d t f H1 _ q A) λJ G c=>?_);obtain⟨y,H2,e,m,a,v,z,g,r⟩:=c;subst z;obtain rfl:u=Value.ref a:=w;exact⟨U0 e g,Nt n e g m λC E j b=>⟨v,H2,j,b,r⟩⟩
theorem HQ{X:Cx}(k:X.A.units+1<cLine)(f:PE X i ty)(l:PE X o td):PC X .In i o (PV ty td):=by
 intro c s d H Q I h;refine bu (f c s d H _ I h) λC p ⟨y,H1,m,j,w⟩=>bu (l c p d H1 _ m w) λu A b=>?_
 obtain⟨x,H2,q,r,a,v,t,g,n⟩:=b;subst t;obtain rfl:u=Value.ref a:=r;exact sj k q g j λz e=>⟨.bl v.isSome,H2,e,rfl,n⟩
theorem Kp{X:Cx}{b:Pos}(m:X.A.units+1<cLine)(n:PE X o td)(j:PE X i ty)(q:PE X value tv)(k:swapsWith value (some (.Subscript o i pos')) b.line X.env=pure false):
  PS X (.Assign [.Subscript o i pos'] value b) (f6 td ty tv):=by
 intro d s c H D I h;refine wpAny_Assign_Subscript (bu (q d s c H _ I h) λr A ⟨v,H1,p,t,S⟩=>bu (n d A c H1 _ p S) λu P ⟨x,H2,C,E,z⟩=>bu (j d P c H2 _ C z) λiv Y e=>?_) k;obtain⟨y,H3,f,l,a,Q,G,g,w⟩:=e;subst G;obtain rfl:u=Value.ref a:=E;exact Nu m f g l t λU J=>⟨c,Q,J,w⟩
theorem Ll(h:Heap)(a:sysModules<h.objs.size):ba P w H (h.push { cls:=.type "dict",data:=.dict #[] }) h.objs.size (.dK []):=
 ⟨ir _,pP.mpr (fO (dO a)),[],.nil,Heap.DictOf.new h⟩
theorem Ly(h:Heap)(a:sysModules<h.objs.size):ba P w H (h.push { cls:=.type "dict",data:=.dict #[] }) h.objs.size (.dT []):=
 ⟨ir _,pP.mpr (fO (dO a)),[],.nil,_,#[],0,fL _ rfl,⟨rfl,rfl,rfl⟩,rfl,rfl,mY⟩
def rT:TE:=λ_ H Q=>∀p,H p=none->Q (.ref p) (aZ H p (.dK []))
def rS:TE:=λ_ H Q=>∀p,H p=none->Q (.ref p) (aZ H p (.dT []))
theorem Mz:PE X (.Dict [] [] pos) rT:=λc s b H Q I h=>
 wpAny_Dict_empty ⟨.ref s.heap.objs.size,_,I.laid (a:=s.heap.objs.size) (o:=.dK []) (t':=s.toks) (λ_ _ q=>dC _ q) (bj _) (Ll s.heap I.big),rfl,h _ (I.hok.fresh (bj _))⟩
theorem MA:PE X (.Dict [] [] pos) rS:=λc s b H Q I h=>
 wpAny_Dict_empty ⟨.ref s.heap.objs.size,_,I.laid (a:=s.heap.objs.size) (o:=.dT []) (t':=s.toks) (λ_ _ q=>dC _ q) (bj _) (Ly s.heap I.big),rfl,h _ (I.hok.fresh (bj _))⟩
structure M1 (X:Cx) (o:Expr) (m:Str) (apos:Pos) (e:Expr) (cpos:Pos):Prop where
 base:attributeBase o m X.env (eval o X.env)=eval o X.env
 few:((backTo cpos (starEach [e] X.env)).all (λx=>!x.1)&&(backToKw cpos (keywordEach [] X.env)).all (λx=>x.1.isSome)
  && decide (([e]:List Expr).length+([]:List Keyword).length+(if([]:List Keyword).isEmpty then 0 else 1)<30))=true
 line:(apos.endLine==cpos.line)=true
 trees:backTo cpos (starEach [e] X.env)=[(false,eval e X.env)]
structure M2 (X:Cx) (o:Expr) (m:Str) (apos:Pos) (e f:Expr) (cpos:Pos):Prop where
 base:attributeBase o m X.env (eval o X.env)=eval o X.env
 few:((backTo cpos (starEach [e,f] X.env)).all (λx=>!x.1)&&(backToKw cpos (keywordEach [] X.env)).all (λx=>x.1.isSome)
  && decide (([e,f]:List Expr).length+([]:List Keyword).length+(if([]:List Keyword).isEmpty then 0 else 1)<30))=true
 line:(apos.endLine==cpos.line)=true
 trees:backTo cpos (starEach [e,f] X.env)=[(false,eval e X.env),(false,eval f X.env)]
def DU(H:Hp) (a:Addr):Prop:=(∃b,Rd H a (.dK b))\/∃b,Rd H a (.dT b)
theorem wq(I:Inv X aU σ H s)(d:DU H a):
  s.TypeIs (.ref a) "dict"/\(∀ b,Value.ref a=.ref b->∃ c,s.heap.get? b=some c/\c.dict=none)/\(a==sysModules)=false:=by
 rcases d with⟨g,e⟩|⟨g,e⟩
 ·obtain⟨_,i,l,_,f⟩:=jt I.hok e;refine⟨f.typeIs,λb q=>?_,i⟩;cases q;obtain⟨c,_,_,j,h,_⟩:=f;exact⟨c,j,h.2.1⟩
 ·obtain⟨_,i,k,_,f⟩:=kL I.hok e;refine⟨f.typeIs,λb q=>?_,i⟩;cases q;obtain⟨c,_,_,j,h,_⟩:=f;exact⟨c,j,h.2.1⟩
theorem GR{A:Around}(w:A.units+1<cLine)(I:Inv X aU σ H s)(g:jh H a y o)(q:RelV y u)(n:RelV d r)(h:∀p t,Inv X aU σ H t->RelV (o.getD d) p->Q p t):
  wpAny (model X.prog X.w) A (call (.builtin "dict.get") [.ref a,u,r]) Q E s:=by
 rcases g with⟨i,k,e,j,l⟩|⟨i,k,b,e,j,x,l⟩
 ·subst j;obtain⟨z,m,C,c,f⟩:=jt I.hok e;refine yp Pn f.typeIs F.entry_dict_get (F.args_dict_get_3 _ _ _) (meets_dict_get_default (aX X.prog X.w) a (ju q) m r) ⟨_,f.mapOf,h _ _ (I.tok _) ?_⟩;rw[l];exact(c.val k).getD n
 ·subst j;cases(show u=Value.ref b from q);obtain⟨z,m,v,c,f⟩:=kL I.hok e;refine yp Pn f.typeIs F.entry_dict_get (F.args_dict_get_3 _ _ _) (meetsH_dict_get_default (tupleKind (aX X.prog X.w)) a b m r) ⟨yK w,k,v,sN I.hok x,f,h _ _ (I.tok _) ?_⟩;rw[l];exact(c.val k).getD n
def rV(d c e:TE):TE:=λb H Q=>d b H λx H1=>∃a,x=.ref a/\DU H1 a/\c b H1 λy H2=>e b H2 λz H3=>∃o,jh H3 a y o/\Q (o.getD z) H3
theorem Mx{X:Cx}(p:X.A.units + 1<cLine)(q:PE X o td)(Y:PE X e ty)(r:PE X f tx)(m:M2 X o "get" apos e f cpos):PE X (.Call (.Attribute o "get" apos) [e,f] [] cpos) (rV td ty tx):=by
 intro b s j H Q I h;refine wpAny_Call_method m.base m.few m.line Dz Pn F.type_dict_get (bu (q b s j H _ I h) λu A i=>?_);obtain⟨x,H1,k,C,a,G,d,q1⟩:=i;subst G;obtain rfl:u=Value.ref a:=C;obtain⟨w,P,_⟩:=wq k d;refine⟨w,P,?_⟩;rw[m.trees]
 refine Pq rfl (Pl (yN (bu (Y b A j H1 _ k q1) λiv S ⟨y,H2,E,n,v⟩=>
  yN (bu (r b S j H2 _ E v) λfv s3 ⟨z,H3,l,J,ov,g,t⟩=>Db ?_))))
 exact GR p l g n J λw' s4 U c=>⟨_,H3,U,c,t⟩
end L2
namespace Att
open PySem.W Calls PyProof.Rows
theorem VY:∀(ns:List Int) (c:List Value),WellAll P h c (ns.map WData.int)->IntsAre c ns:=by
 intro ns
 induction ns with
 |nil=>
  intro c w;rw[CN] at w;cases w;exact .nil
 |cons n ns ih=>
  intro c w;rw[ce] at w;cases w with
  |cons a b=>
   cases a;exact .cons _ _ (ih _ b)
theorem Om{l:OpenLaw}(s:l.most=some n)
  (c:l.row.toRowW.claim.pre args=true)(i:WellAll P h vals args):
  ∃ a m b,vals=[Value.ref a]/\args=[WData.list (b.map WData.int)]/\h.get? a=some { cls:=.type "list",data:=.seq m.toArray }/\IntsAre m b/\b.length<=n:=by
 have j:WShape.hasAll [] args [.list .int]=true:=(pre_splitW c).1;have k:l.pre.holds [] {args:=args}=true:=(pre_splitW c).2;obtain⟨d,r,rfl,t,p⟩:=hasAllW_cons j;obtain rfl:=hasAllW_nil p;obtain⟨v,rfl,u⟩:=hasW_list t;obtain⟨b,rfl⟩:=items_int u;have e:b.length<=n:=by
  unfold OpenLaw.pre at k;have g:(WTm.not (.lt (.lit (.int (n:Int))) (.len (.arg 0)))).holds [] {args:=[.list (b.map .int)]}=true:=by
   have g:=(holds_andW k).1;rw[s] at g;exact g
  have f:=condW_of g (w_not (w_lt w_lit (w_len_list (w_arg rfl))));rw[bh] at f;refine fJ λq=>?_
  have o:(n:Int)<((b.length:Nat):Int):=by lia
  first
   | (rw[cC o] at f;exact absurd f (by decide))
   | (simp at f;lia)
 cases i with
 |cons w1 w2=>
  cases w2;cases w1 with
  |list ho hall=>exact⟨_,_,b,rfl,rfl,ho,VY b _ hall,e⟩
theorem Od(l:OpenLaw)(args:List WData):l.row.toRowW.claim.post args (.bool true) args=true:=
 postW_of (r:=l.row.toRowW) (X:=(true==true))
  (show WShape.has [] (.bool true) .bool=true by first|rfl|decide|simp[WShape.has,WShape.arms,WShape.armsAll])
  (show(WTm.eq .res (.lit (.bool true))).value [] {args:=args,res:=some (.bool true),after:=args}=some (.bool (true==true)) from w_eq_bool (w_res rfl) w_lit) rfl
theorem je{l:OpenLaw}{d:DefRec}
  (Q:l.most=some n)(x:d.params.defaults=[])
  (call:∀(w:World) (c b:Shared) (t z:Str->Option Value) (m:Addr) (o:Obj) (A s e:Value) (a:Addr) (h:List Value) (p:List Int),
   Ground q loose [] XP w c t z b.heap->YP w b.heap ->
   b.heap.get? m=some o->o.data=.func (docDef d.name d.params d.body d.scope A s e)->b.heap.CodeRec s d.name->t d.name=some (.ref m) ->
   b.heap.get? a=some { cls:=.type "list",data:=.seq h.toArray }->IntsAre h p->p.length<=n->b.gens=#[] ->
   codeAny (model l.prog w) callerA (.call (.ref m) ⟨[.ref a],[]⟩) (λr u=>r=.ok (.ret (.bool true))/\OldK b.heap u.heap/\u.os=b.os/\AllBare u.gens) b):
  WalkO q loose XP YP l.row.toRowW d [] (λf h=>PySem.call f h):=by
 intro w c b t z G Y m o A s e dV kV S X C H v hg E J as k I a0 y a1;obtain rfl:dV=.none:=Dflts.none H x;obtain rfl:kV=.none:=Dflts.noKw H;obtain⟨a,h,p,rfl,rfl,j,g,i⟩:=Om Q k y;refine enter_call (rj (call w c b t z m o A s e a h p G Y S (fd_plain X) C v j g i hg) λr u hq=>?_);obtain⟨rfl,P,h3,U⟩:=hq;exact⟨.inl ⟨.bool true,.bool true,[],rfl,λ_=>rfl,.bool true,Od l _,λ_=>⟨List.Pairwise.nil,λ_ hm=>(nomatch hm)⟩⟩,P,h3,U⟩
end Att
namespace L2
open Spec PyProof.Rows
theorem Sq:∀{b:List Value}{a:List Int},IntsAre b a->am (a.map V.int) b
 |_,_,.nil=>.nil
 |_,_,.cons n t h=>.cons ⟨t,rfl⟩ (Sq h)
def sE(H:Hp):Prop:=∀b,H b=none\/∃o a,H b=some (.frz o (.lst a))
theorem LZ{K:Fg}{s₁:Shared}{p:List Value}
  (KX:K.In s₁.heap)(G:s₁.heap.Ns mainGlobals mg)(f:s₁.heap.Ns builtinsNs mb)(X:∀ x:Str,x≠"__name__"->mb x=bootBuiltins x)(E:s₁.heap.NoLimit)(hg:s₁.gens=#[])
  (U:s₁.heap.get? a=some { cls:=.type "list",data:=.seq p.toArray })(hi:IntsAre p ns)(hl:ns.length<=sizeLine)(hr:cg k callerA)
  (F:∀i:Heap,K.In i->i.Ns mainGlobals mg->gL P w K mg i CX k fa fd [x] sp)(t:∀(s:Shared) (u:Value),BindsTo s fd ⟨[u],[]⟩ [(x,u)])
  (a1:∀H:Hp,sE H->cV K H a (ns.map V.int)->sp [.ref a] H (λv _=>v=.bl true) λ_ _ _=>False)
  (a0:∀H e g,CX [] H s₁ (λ_ _ _=>False) e g->False):
  codeAny (model P w) callerA (.call (.ref fa) ⟨[.ref a],[]⟩) (λr g=>r=.ok (.ret (.bool true))/\OldK s₁.heap g.heap/\g.os=s₁.os/\AllBare g.gens) s₁:=by
 have rv:=Sq hi;have y:=hi.length;have l:∀H:Hp,sE H->cV K H a (ns.map V.int)->fu P w H s₁.heap->(∀b,H b≠none->b=a)->(H a≠none->K.lookup a=none) ->
   codeAny (model P w) callerA (.call (.ref fa) ⟨[.ref a],[]⟩) (λr g=>r=.ok (.ret (.bool true))/\OldK s₁.heap g.heap/\g.os=s₁.os/\AllBare g.gens) s₁:=by
  intro H hO hS I hA hK;have c:∀{b:Addr}{o:Obj},s₁.heap.get? b=some o->H b=none->(iE s₁.heap H).get? b=some o:=λe n=>LL e n
  have Y:∀{b:Addr}{o:Obj}{A:Array DictEntry}{ep:Nat},s₁.heap.get? b=some o->o.data=.dict A ep->H b=none:=λ{b o A ep} e d=>by
   cases q:H b with
   |none=>rfl
   |some u=>
    have e':b=a:=hA b (by rw[q];simp);subst e';rw[U] at e;cases e
    have d':Data.seq p.toArray _=Data.dict A ep:=d;cases d'
  have j:∀{b:Addr}{m:Str->Option Value},s₁.heap.Ns b m->(iE s₁.heap H).Ns b m:=λ{b m} ⟨o,A,ep,e,d,r⟩=>⟨o,A,ep,c e (Y e d),d,r⟩
  have Q:K.In (iE s₁.heap H):=λb o e=>c (KX b o e) (by
   cases q:H b with
   |none=>rfl
   |some u=>
    have e':b=a:=hA b (by rw[q];simp);subst e'
    rw[hK (by rw[q];simp)] at e;cases e)
  have hM:Mod K mg (iE s₁.heap H):=⟨Q,j G,⟨mb,j f,X⟩,let ⟨mc,h1,h2⟩:=E;⟨mc,j h1,h2⟩⟩
  have e0:pc P w K mg (iE s₁.heap H) callerA [] s₁ H:=⟨rfl,hM,λb o e=>JZ e,gO (NG _ _),trivial,λb f=>absurd (show b∈([]:List Addr) from f) (by simp),I,.of_eq hg⟩
  refine rj ((F _ Q (j G)).run callerA [] s₁ H ⟨[.ref a],[]⟩ [.ref a] [.ref a] _ _ hr e0 (t s₁ (.ref a)) (.cons rfl .nil) (a1 H hO hS)) λr g h=>?_
  cases r with
  |error e=>exact(a0 H e g h).elim
  |ok fl=>
   cases fl with
   |next=>exact False.elim h
   |brk=>exact False.elim h
   |cont=>exact False.elim h
   |ret u=>
    obtain⟨v,H',os,C,un,S,r',q⟩:=h;have q':v=.bl true:=q;subst q';obtain rfl:u=Value.bool true:=r';refine⟨rfl,OldK.of_keep λb o e=>?_,os,C⟩;cases q:H b with
    |none=>exact un.keep b o e q (by intro z;exact absurd (show b∈([]:List Addr) from z) (by simp)) (by simp)
    |some u=>
     rcases hO b with z|⟨ob,xs,z⟩
     ·rw[q] at z;cases z
     ·have z2:=un.frzs b ob _ z;obtain⟨e1,_⟩:=I b _ z;obtain⟨e2,_⟩:=S b _ z2;rw[e] at e1;cases e1
      exact e2
 cases hk:K.lookup a with
 |some o=>
  have e:=KX a o hk;rw[U] at e;cases e;refine l (λ_=>none) (λ_=>.inl rfl) (.inr ⟨_,p.toArray,_,hk,rfl,rfl,rfl,by rw[dQ,y];exact hl,by simpa using rv⟩) (λb u z=>by have J:(none:Option HO)=some u:=z;cases J) (λb z=>absurd rfl z) λz=>absurd rfl z
 |none=>
  refine l (λb=>if b=a then some (.frz { cls:=.type "list",data:=.seq p.toArray } (.lst (ns.map V.int))) else none) (λb=>?_) (.inl (.inr ⟨{ cls:=.type "list",data:=.seq p.toArray },if_pos rfl⟩)) (λb u z=>?_) (λb z=>?_) λ_=>hk
  ·by_cases f:b=a
   ·exact .inr ⟨_,_,if_pos f⟩
   ·exact .inl (if_neg f)
  ·by_cases f:b=a
   ·have J:=(if_pos f).symm.trans z;cases J;subst f;exact⟨U,by rw[bh];exact hl,p,_,rv,U⟩
   ·have J:=(if_neg f).symm.trans z;cases J
  ·by_cases f:b=a
   ·exact f
   ·exact absurd (if_neg f) z
theorem KM{l:W.OpenLaw}{n k:Nat}{q:Program}{i:List Str}{XP:(Str->Option Value)->Heap->Prop}{P:World->Heap->Prop}{d:DefRec}{K:Params->Fg}{CX:World->uz}{sp:World->Sp}{x:Str}
  (U:l.most=some n)(z:n<=sizeLine)(C:d.params.defaults=[])(hr:cg k callerA)
  (hY:∀(w:World) (h:Heap),P w h->(K w.params).In h)
  (F:∀(w:World) (j:Str->Option Value) (t:Addr) (h:Heap),(K w.params).In h->h.Ns mainGlobals j->j d.name=some (.ref t) ->
   ∃y:FuncData,(∀(s:Shared) (u:Value),BindsTo s y ⟨[u],[]⟩ [(x,u)]) /\
    ∀b:Heap,(K w.params).In b->b.Ns mainGlobals j->gL l.prog w (K w.params) j b (CX w) k t y [x] (sp w))
  (I:∀(w:World) (H:Hp) (a:Addr) (r:List Int),r.length<=n->sE H->cV (K w.params) H a (r.map V.int)->sp w [.ref a] H (λv _=>v=.bl true) λ_ _ _=>False)
  (E:∀(w:World) (H:Hp) (s:Shared) (e:Value) (J:Shared),CX w [] H s (λ_ _ _=>False) e J->False):
  W.WalkO q i XP P l.row.toRowW d [] (λf Q=>PySem.call f Q):=by
 refine Att.je U C λw S m j mb t o pm cd a0 a Q r G Y ho hd a1 A p g c hg=>?_
 have KX:=hY w _ Y;obtain⟨y,hb,X⟩:=F w j t _ KX G.T.g A;exact LZ KX G.T.g G.T.b G.T.builtins G.T.nolimit hg p g (ax c z) hr X hb (λH hO hS=>I w H a r c hO hS) λH e J=>E w H m e J
end L2
/- THE LAST THEOREM (shape;LID,My.* are yours):
 My.Adr: a structure of the addresses that your layer names (classes,functions);My.Txt K t: a structure (Prop) of the equations over K;
 My.txt_mk:{K} {implicit addresses ..} (e1:nsIn K mainGlobals "law"=some (some (.ref f))) (e2:K.lookup f=some ⟨oc,od,.func (fnOf "law" "law" params body scope dV kV doc pm an cdv ct),sl⟩) (e3:codeIn K cdv "law"=true) ..:∃ t,My.Txt K t
(the tactic k_is has no namespace: write k_is) -/
namespace L2
open Spec PyProof.Rows
noncomputable def cr(s:Stmt):Arguments:=match s with
 |.FunctionDef _ a _ _ _ _ _ _ _ _=>a
 |_=>{posonlyargs:=[],args:=[],vararg:=none,kwonlyargs:=[],kw_defaults:=[],kwarg:=none,defaults:=[]}
noncomputable def bq(s:Stmt):List Stmt:=match s with
 |.FunctionDef _ _ b _ _ _ _ _ _ _=>b
 |_=>[]
noncomputable def ag(s:Stmt):Scope:=match s with
 |.FunctionDef _ _ _ _ _ _ sc _ _ _=>sc
 |_=>{kind:=.function,names:=[],isGenerator:=false,isCoroutine:=false}
abbrev jX:uz:=λ_ _ _ _ _ _=>False
abbrev E0:XK:=λ_ _ _=>False
theorem zT:jV jX X E0:=λ_ _ _ _ _ _ _ h=>h.elim
structure o9 (K:Fg) (x qual:Str) (au:Stmt) (f:Addr) (fd:FuncData):Prop where
 ex:∃(oc:Value) (od:Option Addr) (kV doc pm:Value) (an:Option Addr) (cdv ct:Value) (osl:Array (Option Value)),
  fd=W.fnOf x qual (cr au) (bq au) (ag au) .none kV doc pm an cdv ct/\K.lookup f=some ⟨oc,od,.func fd,osl⟩/\W.codeIn K cdv qual=true
 kp:W.keepIn K (.ref f)=true
theorem o9.ok{K:Fg}{N:List Str}(F:o9 K x qual au f fd)(S:cb N ps (ag au))(g:∀d H Q E,sp d H Q E->d.length=ps.length)
  (c:∀(b:Value) (A:Around) (a:List Env) (s:Shared) (H:Hp) (d:List V) (Q:VK) (E:XK),cg k (A.deeper (envOfC qual (ag au) s.heap.objs.size f b))->sp d H Q E ->
   ∃t,jg (gn jX P w K mg base N qual (ag au) f b A a s H E).nox (bq au) t/\t {nx:=λ_ n=>Q .non n,rt:=Q} (start N d) H):gL P w K mg base jX (k+1) f fd ps sp:=by
 obtain⟨r,v,kV,o,p,u,b,y,j,rfl,m,e⟩:=F.ex;refine F5 m e S g λA a s H d Q E l i=>?_
 obtain⟨t,h,q⟩:=c b A a s H d Q E l i;exact⟨t,h.nox,q⟩
theorem o9.binds{K:Fg}{i:List Str}(F:o9 K x qual au f fd)
  (h:∀(kV b c:Value) (e:Option Addr) (a g:Value) (d:List Value),d.length=i.length->bindArgs (W.fnOf x qual (cr au) (bq au) (ag au) .none kV b c e a g) ⟨d,[]⟩=pure (i.zip d)):Binds K fd i []:=by
 obtain⟨l,n,kV,b,c,e,a,g,j,rfl,m,k⟩:=F.ex;exact .all (h kV b c e a g)
theorem He{K:Fg}{kV:Value}(l:K.lookup f=some ⟨oc,od,.func (W.fnOf x qual (cr au) (bq au) (ag au) .none kV doc pm an cdv ct),osl⟩)
 (c:W.codeIn K cdv qual=true)(k:W.keepIn K (.ref f)=true):o9 K x qual au f (W.fnOf x qual (cr au) (bq au) (ag au) .none kV doc pm an cdv ct):=⟨⟨oc,od,kV,doc,pm,an,cdv,ct,osl,rfl,l,c⟩,k⟩
theorem iY(a:cg k A):A.units+1<cLine:=iZ (g8 (by decide:1<=64) _) a.units
theorem pv{X:Cx}(i:Nat) (d:X.N[i]?=some x:=by rfl)(c:uy X.env.scope x:=by first|exact Or.inl rfl|exact Or.inr (Or.inl rfl)|exact Or.inr (Or.inr rfl))(b:(x==("__debug__" : Str))=false:=by decide)
 (a:(x==("__classdict__" : Str))=false:=by decide):PE X (.Name x pos) (oH i):=HZ d c b a
theorem lc{A B:Prop}(h:B):if false=true then A else B:=by
 rw[if_neg oB];exact h
theorem k9{A B:Prop}(h:A):if true=true then A else B:=by
 rw[if_pos rfl];exact h
section
variable {κ:Type}[DecidableEq κ]
end
noncomputable abbrev sH:Value->Shared->Prop:=λ_ _=>False
noncomputable abbrev oG(cs:List Expr) (a:Env):Sem Bool:=
 forIn cs true λd b=>if b=true then do let z ←isTrue d a (eval d a);pure (ForInStep.yield z) else pure (ForInStep.yield b)
def mO(P:Program) (w:World) (B:Around) (c x:Expr) (cs:List Expr) (a:Env) (i l:Value) (K:Shared->Prop) (v:Value) (e:Shared):Prop:=
 wpAny (model P w) B (letOwnedTupleGo c i v) (λ_ sb=>wpAny (model P w) B (assign c a v) (λ_ h=>wpAny (model P w) B (oG cs a) (λf b=>
  if f=true then wpAny (model P w) B (eval x a) (λy d=>wpAny (model P w) B (call (.builtin "list.append") [l,y]) (λ_ g=>K g) sH d) sH b else K b) sH h) sH sb) sH e
theorem Np{cs:List Expr}(J:Nat->Shared->Prop)
  (u:∀k d,J k d->wpAny (model P w) B (pyNext i) (λo f=>match o with
   |none=>R (.ok .next) f
   |some v=>mO P w B tg x cs ev i l (λh=>∃g,g<k/\J g h) v f) sH d)
  (k:Nat)(n:J k sh):codeAny (model P w) B (.compLoop (.ListComp x [⟨tg,it,cs,0⟩] sc ps) 0 i l ev) R sh:=by
 have a:∀{E:Value->Shared->Prop}(e:Value) (z:Shared),sH e z->E e z:=λ_ _ z=>z.elim
 refine codeAny_loop rfl J (λk d r=>wpAny_noted (by
  rw[compTurn_list];refine ae (CQ (ae (iq (u k d r) (λo f c=>?_) a)))
  match o,c with
  |none,c=>exact ar c
  |some v,c=>
   refine ae (iq c (λ_ sb m=>ae (iq m (λ_ t q=>ae (iq q (λj A b=>?_) a)) a)) a)
   match j,b with
   |false,b=>exact ar (And.intro rfl b)
   |true,b=>exact ae (ae (iq b (λy C p=>ae (iq p (λ_ h s=>ar (ar (And.intro rfl s))) a)) a)))) k n
theorem Vr{env:Env}:∀(b:List (Str×NameKind)) (acc:List (Str×Addr)),(∀y∈b,y.2=.free->∃c,env.cells.lookup y.1=some c)->(∀x c,acc.lookup x=some c->env.cells.lookup x=some c) ->
  ∃f:List (Str×Addr),(forIn b acc (λx r=>if(x.2==NameKind.free)=true then do let a ←cellOf env x.1;pure (ForInStep.yield ((x.1,a)::r)) else pure (ForInStep.yield r)):Sem (List (Str×Addr)))=pure f /\
   (∀x c,f.lookup x=some c->env.cells.lookup x=some c)/\(∀x c,acc.lookup x=some c->∃h,f.lookup x=some h)/\∀x,(x,NameKind.free)∈b->∃c,f.lookup x=some c:=by
 intro b
 induction b with
 |nil=>intro acc _ i;exact⟨acc,rfl,i,λx c e=>⟨c,e⟩,λx z=>(nomatch z)⟩
 |cons y r ih=>
  intro acc m i;obtain⟨n,k⟩:=y;by_cases hk:k=.free
  ·subst hk;obtain⟨c,p⟩:=m (n,.free) dk rfl
   obtain⟨f,e,l,g,o⟩:=ih ((n,c)::acc) (λy j=>m y (bT _ j)) (λx h e=>by
    rw[ow] at e;by_cases d:x=n
    ·subst d;rw[rC] at e;cases e;exact p
    ·rw[pP.mpr d] at e
     exact i x h e)
   refine⟨f,?_,l,λx h t=>?_,λx d=>?_⟩
   ·rw[List.forIn_cons];simp only[rC,ite_true];have q:cellOf env n=pure c:=by unfold cellOf;rw[p]
    rw[q];simp only[pure_bind];exact e
   ·by_cases d:x=n
    ·subst d;exact g x c (by rw[ow,rC])
    ·exact g x h (by rw[ow,pP.mpr d];exact t)
   ·rcases bZ.mp d with z|z
    ·cases z;exact g n c (by rw[ow,rC])
    ·exact o x z
  ·obtain⟨f,e,l,g,o⟩:=ih acc (λy j=>m y (bT _ j)) i;refine⟨f,?_,l,g,λx d=>?_⟩
   ·rw[List.forIn_cons];have s:(k==NameKind.free)=false:=by simpa using hk
    simp only[s,jo,gj,pure_bind];exact e
   ·rcases bZ.mp d with z|z
    ·cases z;exact absurd rfl hk
    ·exact o x z
theorem Uu{scope:Scope}{env:Env}(h:∀y∈scope.names,y.2=.free->∃c,env.cells.lookup y.1=some c):
  ∃cl,closureFor scope env=pure cl/\(∀x c,cl.lookup x=some c->env.cells.lookup x=some c)/\∀x,(x,NameKind.free)∈scope.names->∃c,cl.lookup x=some c:=by
 obtain⟨cl,e,h1,_,h3⟩:=Vr (env:=env) scope.names [] h (λx c e=>(nomatch e));refine⟨cl,?_,h1,h3⟩;unfold closureFor;have e':=congrArg (λm=>m >>= λr=>(pure r:Sem (List (Str×Addr)))) e;simp only[pure_bind] at e';exact e'
theorem CC{a:Env}:∀{b:List (Str×NameKind)}{x:Str}{k:NameKind},(b.map λ(n,k)=>if(k==NameKind.free&&a.scope.kind==.function&&a.kindOf n==some .cell) then(n,NameKind.cell) else(n,k)).lookup x=some k ->
  b.lookup x=some k\/(k=.cell/\b.lookup x=some .free)
 |[],_,_,h=>by simp at h
 | (n,k')::r,x,k,h=>by
  have d:=@CC a r x k;have c:List.lookup x ((if(k'==NameKind.free&&a.scope.kind==.function&&a.kindOf n==some .cell)=true then(n,NameKind.cell) else(n,k'))::_)=_:=h;cases hx:x==n with
  |true=>
   by_cases hc:(k'==NameKind.free&&a.scope.kind==.function&&a.kindOf n==some .cell)=true
   ·rw[if_pos hc] at c;simp only[ow,hx] at c ⊢;cases c;rw[jm,jm] at hc;exact .inr ⟨rfl,by rw[eq_of_beq hc.1.1]⟩
   ·rw[if_neg hc] at c;simp only[ow,hx] at c ⊢;exact .inl c
  |false=>
   have e:(r.map λ(n,k)=>if(k==NameKind.free&&a.scope.kind==.function&&a.kindOf n==some .cell) then(n,NameKind.cell) else(n,k)).lookup x=some k:=by
    by_cases hc:(k'==NameKind.free&&a.scope.kind==.function&&a.kindOf n==some .cell)=true
    ·rw[if_pos hc] at c;simp only[ow,hx] at c;exact c
    ·rw[if_neg hc] at c;simp only[ow,hx] at c;exact c
   simp only[ow,hx];exact d e
def eY(X:Cx) (N:List Str) (a:Scope) (b:List (Str×Addr)) (C:Addr) (c:List Addr) (s:Shared) (H:Hp):Cx:=
 {X with N:=N,s₀:=s,H₀:=H,env:=compEnvC a b C X.env,outer:=X.stack,ex:=c,fn:=λ_=>false,pn:=[],xe:=λ_ _=>False}
def fP(k:Nat) (is:List Nat) (a:St):St:=List.replicate k none++is.map λi=>(a[i]?).getD none
structure bA (X:Cx) (N:List Str) (k:Nat) (is:List Nat) (scope:Scope):Prop where
 kind:scope.kind=.function
 nocell:∀y∈scope.names,y.2≠.cell
 names:∀y∈scope.names,y.2=.local->scope.names.lookup y.1=some .local
 frees:∀y∈scope.names,y.2=.free->X.env.kindOf y.1=some .cell\/X.env.kindOf y.1=some .free
 len:N.length=k+is.length
 own:∀j i,is[j]?=some i->∃x,N[k+j]?=some x/\X.N[i]?=some x/\scope.names.lookup x=some .free
theorem Ck{l:List (Str×NameKind)}(h:l.lookup x=some k):(x,k)∈l:=ui h
theorem LP{N:List Str}{E:List (Str×Addr)}{h1:Heap}(S:bA X N k is scope)(I:Inv X aU σ H s)
  (h:∀x c,E.lookup x=some c->X.env.cells.lookup x=some c)(c2:∀x,(x,NameKind.free)∈scope.names->∃c,E.lookup x=some c)
  (t:∀b∈C,gJ X aU H b)(Q:∀b∈C,∃o,s.heap.get? b=some o)(hn:h1.Ns s.heap.objs.size (λ_=>none))(w:∀b o,s.heap.get? b=some o->h1.get? b=some o):
  Inv (eY X N scope E s.heap.objs.size C s H) [] (fP k is σ) H {s with heap:=h1,toks:=tk}:=by
 have hC:∀b o,s.heap.get? b=some o->b≠s.heap.objs.size:=λb o e=>dO (cW e)
 have Y:∀b∈C,b∉kq X.stack:=λb g z=>by
  rcases bZ.mp (I.stkSub b z) with e|e
  ·exact(t b g).2.1 e
  ·exact(t b g).2.2.1 e
 refine⟨⟨I.ok.mod,S.kind,I.ok.glob,I.ok.blt,bj _,λx y c U d=>I.ok.inj x y c (h x c U) (h y c d),λx hx=>?_,λx c z=>?_,I.ok.hd,I.ok.frames,.inl rfl,λb g=>⟨?_,λx c e=>?_⟩,I.bs,ax I.ok.bsz I.sz,λb o e g=>?_,Y,I.stack,I.stkFree⟩,
  rfl,I.bare,Un.kept w,⟨_,hn,λi x v U d e3=>?_⟩,λx c e=>?_,I.hok.fresh (bj _),λx c e=>I.freeC x c (h x c e),λp hp=>(nomatch hp),I.hok.kept w,?_,I.hnd⟩
 ·have a0:(scope.names.map λ(n,k)=>if(k==NameKind.free&&X.env.scope.kind==.function&&X.env.kindOf n==some .cell) then(n,NameKind.cell) else(n,k)).lookup x=some .cell\/(scope.names.map λ(n,k)=>if(k==NameKind.free&&X.env.scope.kind==.function&&X.env.kindOf n==some .cell) then(n,NameKind.cell) else(n,k)).lookup x=some .free:=hx;have q:scope.names.lookup x=some .free:=by
   rcases a0 with z|z
   ·rcases CC z with q|⟨_,q⟩
    ·exact absurd rfl (S.nocell _ (Ck q))
    ·exact q
   ·rcases CC z with q|⟨q,_⟩
    ·exact q
    ·cases q
  exact c2 x (Ck q)
 ·cases z
 ·obtain⟨o,e⟩:=Q b g;exact hC b o e
 ·exact(t b g).2.2.2.2.1 x c (h x c e)
 ·rcases(t b g).2.2.2.1 with z|z
  ·exact I.ok.noex b o e z
  ·exact absurd (da (cW (I.ok.bs b o e).1) z) (oi _)
 ·-- a name of the def around
  unfold fP at d;have hi:k<=i:=by
   rcases pH i k with z|z
   ·rw[gx (by rw[rM];exact z),List.getElem?_replicate,if_pos z] at d;cases d
   ·exact z
  rw[kZ (by rw[rM];exact hi),rM,fK] at d;cases ej:is[i-k]? with
  |none=>rw[ej] at d;cases d
  |some j=>
   rw[ej] at d;have f:(σ[j]?).getD none=some v:=g7 d;obtain⟨y,y1,y2,J⟩:=S.own (i-k) j ej;have ey:y=x:=by
    have z:N[i]?=some y:=by rw[←y1];congr 1;lia
    have l:N[i]?=some x:=U;rw[z] at l;exact g7 l
   subst ey;have e4:σ[j]?=some (some v):=by
    cases q:σ[j]? with
    |none=>rw[q] at f;cases f
    |some o=>rw[q] at f;exact congrArg some f
   have kd:=S.frees _ (Ck J) rfl;have P:uy X.env.scope y:=.inr kd;obtain⟨m,_,hl⟩:=I.loc;obtain⟨u,r,lk⟩:=hl j y v y2 e4 P;refine⟨u,r,?_⟩;rcases lk with⟨z,_⟩|⟨_,c,e5,cc⟩
   ·rcases kd with q|q<;>(rw[q] at z;cases z)
   ·obtain⟨c',e6⟩:=c2 y (Ck J);have:c'=c:=by
     have z:=h y c' e6;rw[e5] at z;exact(g7 z).symm
    subst this;refine .inr ⟨?_,c',e6,?_⟩
    ·rcases e3 with z|z|z
     ·exact absurd (CC z) (by
       rw[J];rintro(q|⟨q,_⟩)
       ·cases q
       ·cases q)
     ·exact .inl z
     ·exact .inr z
    ·obtain⟨o,A,G⟩:=cc;exact⟨o,w _ o A,G⟩
 ·obtain⟨v,o,A,G⟩:=I.cell x c (h x c e);exact⟨v,o,w _ o A,G⟩
 ·unfold fP;rw[cJ,rM,bh];exact S.len.symm
theorem LO{N:List Str}(I:Inv X aU σ H s)(f:∀b∈h,gJ X aU H b)(J:Inv (eY X N scope cl s.heap.objs.size h s H) [] σ' H' s')
  (d:Heap.SameBut s.heap.objs.size s'.heap h'):Inv X aU σ H' {s' with heap:=h'}:=by
 have j:∀b o,s.heap.get? b=some o->b≠s.heap.objs.size:=λb o e=>dO (cW e)
 have l:H' s.heap.objs.size=none:=J.free;have B:Un (kq X.stack) h H H' s.heap s'.heap:=J.base
 have U:Un (kq X.stack) h H H' s.heap h':=⟨λb o e n i g=>d.extBut b o (j b o e) (B.keep b o e n i g),λb o e n i g=>by
   obtain⟨p,q⟩:=B.slot b o e n i g;exact⟨p,d.extBut b _ (j b o e) q⟩,B.free,λb o e m=>by
   obtain⟨k,q⟩:=B.there b o e m
   exact⟨k,d.extBut b k (j b o e) q⟩,B.tups,B.frzs,B.tbls⟩
 refine I.call' (s':={s' with heap:=h'}) J.os U (λa o e=>?_) J.bare (λb c=>⟨(f b c).2.2.2.1,(f b c).2.1,(f b c).2.2.2.2.1,(f b c).2.2.2.2.2⟩);refine(J.hok a o e).stay (λb u c q=>d.extBut b u ?_ q) (λ_ q=>q) λ_ _ q=>q
 rcases c with z|z
 ·intro y;rw[z] at y;rw[y,l] at e;cases e
 ·intro y;rw[y,l] at z;cases z
structure sF (X:Cx) (aU:List (Addr×Obj)) (H:Hp) (C:Addr):Prop where
 free:H C=none
 loc:C≠X.env.locals
 young:X.s₀.heap.objs.size<=C
 cell:∀x c,X.env.cells.lookup x=some c->c≠C
 pin:∀p∈X.pn++aU,p.1≠C
theorem sF.back(o:sF X aU H C)(I:Inv X aU σ H s)(c:Heap.SameBut C s.heap h'):Inv X aU σ H {s with heap:=h'}:=
 I.turned (t':=s.toks) (λb u a e=>c.extBut b u a e) o.free o.loc (.inr o.young) o.cell o.pin
def T6(p:Addr) (f:TE) (g:TT) (N:St->Hp->Prop):St->Hp->Prop:=λa H3=>g a H3 λb d=>
 if b=true then f a d λy e=>∃c,e p=some (.lst c)/\c.length<sizeLine/\N a (aZ e p (.lst (c++[y]))) else N a d
def Bv(J:It) (g:TG) (f:TT) (e:TE) (Q:VK) (p:Addr) (h:St) (H:Hp):Prop:=∃W:Nat->Nat->St->Hp->Prop,(∃m,W 0 m h H) /\
 ∀i m c b,W i m c b->(J.stop i b/\Q (.ref p) b)\/(J.go i b/\∃N:St->Hp->Prop,(∀a H2,N a H2->∃d,d<m/\W (i+1) d a H2)/\∀x H2,J.yld i b x H2->g x c H2 (T6 p e f N))
def ke(c:TI) (k:Nat) (is:List Nat) (g:TG) (b:TT) (d:TE):TE:=λa H Q=>c a H λJ H1=>∀p,H1 p=none->Bv J g b d Q p (fP k is a) (aZ H1 p (.lst []))
def PJ:TT:=λ_ H Q=>Q true H
def nm(X:Cx) (b:List Expr) (t:TT):Prop:=
 ∀(d:List (Addr×Obj)) (s:Shared) (a:St) (H:Hp) (Q:Bool->Hp->Prop),Inv X d a H s->t a H Q ->
  wpAny (model X.prog X.w) X.A (forIn b true λc r=>if r=true then do let ok ←isTrue c X.env (eval c X.env);pure (ForInStep.yield ok) else pure (ForInStep.yield r)) (TP X d a Q) X.xe s
theorem Kk:nm X [] PJ:=λb s a H Q I h=>wpAny_tests_nil ⟨H,I,h⟩
theorem Kl(h:PT X c t):nm X [c] t:=λd s a H Q I b=>wpAny_tests_one (h d s a H Q I b)
section
variable {X:Cx}{tg:Expr}{iter:Expr}{elt:Expr}{ifs:List Expr}{g:TG}{tc:TT}{te:TE}{N:List Str}{k:Nat}{is:List Nat}{scope:Scope}{pos:Pos}
theorem Sy(w:X.calm=true)(hg:∀l C j s H,PG (eY X N scope l C j s H) tg g)(hc:∀l C j s H,nm (eY X N scope l C j s H) ifs tc)(he:∀l C j s H,PE (eY X N scope l C j s H) elt te)
  (S:bA X N k is scope){aU:List (Addr×Obj)}{σ:St}{H2:Hp}{s2:Shared}{l:List (Str×Addr)}{it:Addr}{j:List Addr}{tn:Nat->Heap->Prop}{J:It}{Q:VK}{E:Value->Shared->Prop}{RR:Value->Addr->Result->Shared->Prop}
  (I2:Inv X aU σ H2 s2)(T:jT X.prog X.w X.K tg J j it tn)(a6:tn 0 s2.heap)(f2:∀b∈j,gJ X aU H2 b)
  (c1:∀x c,l.lookup x=some c->X.env.cells.lookup x=some c)(c2:∀x,(x,NameKind.free)∈scope.names->∃c,l.lookup x=some c)
  (h:∀p,H2 p=none->∃W:Nat->Nat->St->Hp->Prop,(∃m,W 0 m (fP k is σ) (aZ H2 p (.lst []))) /\
   ∀i m f H',W i m f H'->(J.stop i H'/\Q (.ref p) H')\/(J.go i H'/\∃N:St->Hp->Prop,(∀b1 H2,N b1 H2->∃G,G<m/\W (i+1) G b1 H2)/\∀x H2,J.yld i H' x H2->g x f H2 (T6 p te tc N)))
  (hR:∀(p C:Addr) (A:Shared) (H':Hp) (m:Str->Option Value),sF X aU H' C->A.heap.Ns C m->Inv X aU σ H' A->Q (.ref p) H'->RR (.ref p) C (.ok .next) A):
  wpAny (model X.prog X.w) X.A (newList []) (λacc a7=>wpAny (model X.prog X.w) X.A (newFunctionEnv scope X.env.globals l [] X.env.qual none .none (some X.env)) (λY b2=>
   codeAny (model X.prog X.w) X.A (.compStart (.ListComp elt [⟨tg,iter,ifs,0⟩] scope pos) 0 (.ref it) acc {Y with scope:=relabel scope X.env}) (RR acc Y.locals) b2) E a7) E s2:=by
 refine jz ?_;have fresh:H2 s2.heap.objs.size=none:=I2.fresh;have I3:Inv X aU σ (aZ H2 s2.heap.objs.size (.lst [])) { s2 with heap:=s2.heap.push { cls:=.type "list",dict:=none,data:=.seq ([]:List Value).toArray } }:=I2.lnew (t':=s2.toks) (.nil) (by decide)
 generalize hs3:({ s2 with heap:=s2.heap.push { cls:=.type "list",dict:=none,data:=.seq ([]:List Value).toArray } }:Shared)=s3 at I3
 have k3:∀b o,s2.heap.get? b=some o->s3.heap.get? b=some o:=λb o e=>by rw[←hs3];exact dC _ e
 refine wpAny_newFunctionEnv S.nocell (by intro y hy;simp at hy) (λh₁ P I=>?_) S.kind;have a3:tn 0 s3.heap:=T.keep _ _ _ a6 λb _ o e=>k3 b o e
 have f3:∀b∈j,gJ X aU (aZ H2 s2.heap.objs.size (.lst [])) b:=λb t=>by
  obtain⟨o,e,_⟩:=T.obj _ _ a6 b t;exact⟨by rw[zy (dO (cW e))];exact(f2 b t).1,(f2 b t).2⟩
 have k4:∀b o,s3.heap.get? b=some o->h₁.get? b=some o:=λb o e=>I.extBut b o (dO (cW e)) (dC _ e)
 have J4:=LP (tk:=s3.toks+([]:List (Str×Value)).length) S I3 c1 c2 f3 (λb t=>let ⟨o,e,_⟩:=T.obj _ _ a3 b t;⟨o,e⟩) P k4;obtain⟨W,⟨m0,w0⟩,b4⟩:=h s2.heap.objs.size fresh;have a4:tn 0 h₁:=T.keep _ _ _ a3 λb _ o e=>k4 b o e
 have a0:codeAny (model X.prog X.w) X.A (.compLoop (.ListComp elt [⟨tg,iter,ifs,0⟩] scope pos) 0 (.ref it) (.ref s2.heap.objs.size) (compEnvC scope l s3.heap.objs.size X.env)) (RR (.ref s2.heap.objs.size) s3.heap.objs.size) {s3 with heap:=h₁,toks:=s3.toks+([]:List (Str×Value)).length}:=by
  have z:∀{H':Hp},(∀b∈j,H' b=none)->∀b∈j,gJ (eY X N scope l s3.heap.objs.size j s3 (aZ H2 s2.heap.objs.size (.lst []))) [] H' b:=λ{H'} hn b t=>by
   obtain⟨o,e,_⟩:=T.obj _ _ a3 b t;refine⟨hn b t,dO (cW e),J4.ok.exfs b t,.inl t,λx c e'=>(f3 b t).2.2.2.2.1 x c (c1 x c e'),λp hp=>(nomatch hp)⟩
  refine Np (λn A=>∃i f H',Inv (eY X N scope l s3.heap.objs.size j s3 (aZ H2 s2.heap.objs.size (.lst []))) [] f H' A/\tn i A.heap/\(∀b∈j,H' b=none)/\W i n f H') ?_ m0
   ⟨0,_,_,J4,a4,λb t=>(f3 b t).1,w0⟩
  rintro n s5 ⟨i,U,H5,I5,a9,b0,w5⟩;rcases b4 i n U H5 w5 with⟨a5,q⟩|⟨go,N',b3,step⟩
  ·refine bu (T.done (eY X N scope l s3.heap.objs.size j s3 (aZ H2 s2.heap.objs.size (.lst []))) rfl rfl rfl w i [] s5 U H5 _ I5 (z b0) a9 a5) λr s6 a=>?_
   obtain⟨hr,I6⟩:=a;subst hr;obtain⟨m,hm,_⟩:=I6.loc;refine hR _ _ s6 H5 m ⟨I6.free,yt I3.lt,I3.sz,λx c e=>?_,λp hp=>dO (cW (I3.pin p hp).1)⟩ hm (LO (h':=s6.heap) I3 f3 I6 (.refl ..)) q;obtain⟨v,o,ho,_⟩:=I3.cell x c e;exact dO (cW ho)
  ·refine bu (T.item (eY X N scope l s3.heap.objs.size j s3 (aZ H2 s2.heap.objs.size (.lst []))) rfl rfl rfl w i [] s5 U H5 _ I5 (z b0) a9 go) λr s6 a=>?_
   obtain⟨u,hr,h6⟩:=a;subst hr;refine bu h6 λ_ s7 a=>?_
   obtain⟨x,H7,I7,r7,y7,a1,b9⟩:=a;have c3:=I7.pinned (z b9) (T.obj _ _ a1);refine bu (hg l s3.heap.objs.size j s3 _ _ s7 U H7 x u _ c3 r7 (step x H7 y7)) λ_ s8 a=>?_
   obtain⟨a2,H8,I8,q8⟩:=a;refine bu (hc l s3.heap.objs.size j s3 _ _ s8 a2 H8 _ I8 q8) λb s9 a=>?_
   obtain⟨H9,I9,q9⟩:=a;have again:∀{f:St}{H':Hp}{A:Shared}{G:Nat},Inv (eY X N scope l s3.heap.objs.size j s3 (aZ H2 s2.heap.objs.size (.lst []))) ([]++gA j s7.heap) f H' A->G<n->W (i+1) G f H' ->
     ∃m,m<n/\∃i f H',Inv (eY X N scope l s3.heap.objs.size j s3 (aZ H2 s2.heap.objs.size (.lst []))) [] f H' A/\tn i A.heap/\(∀b∈j,H' b=none)/\W i m f H':=λ{f H' A G} I' hm w'=>by
    refine⟨G,hm,i+1,f,H',I'.unpinned,T.keep _ _ _ a1 λb t o e=>(I'.pin (b,o) (lK _ (lK _ (Cm t e)))).1,λb t=>?_,w'⟩;obtain⟨o,e,d⟩:=T.obj _ _ a1 b t;exact(I'.pin (b,o) (lK _ (lK _ (Cm t e)))).2.1
   cases b with
   |false=>
    obtain⟨G,hm,w'⟩:=b3 _ _ q9;exact again I9 hm w'
   |true=>
    refine bu (he l s3.heap.objs.size j s3 _ _ s9 a2 H9 _ I9 q9) λv b6 a=>?_
    obtain⟨y,a8,c0,b5,xs,c6,hz,c5⟩:=a;obtain⟨G,hm,w'⟩:=b3 _ _ c5;refine bu (RY (X:=eY X N scope l s3.heap.objs.size j s3 (aZ H2 s2.heap.objs.size (.lst []))) _ b6 a2 a8 (.ref s2.heap.objs.size) [y] _ [v] (λ_ H'=>H'=aZ a8 s2.heap.objs.size (.lst (xs++[y]))) c0 rfl (.cons b5 .nil) ⟨_,xs,y,rfl,rfl,c6,hz,rfl⟩) λ_ c9 a=>?_
    obtain⟨_,c8,c4,_,b8⟩:=a;subst b8;exact again c4 hm w'
 have c7:s2.heap.push { cls:=.type "list",dict:=none,data:=.seq ([]:List Value).toArray }=s3.heap:=by rw[←hs3]
 have b7:=codeAny_compStart_list (elt:=elt) (target:=tg) (iter:=iter) (ifs:=ifs) (rest:=[]) (scope:=scope) (pos:=pos) a0 (T.self X.A 0 _ _ _ a4 a0);exact b7
end
theorem Tn{N:List Str}(S:bA X N k is scope) (I:Inv X aU σ H s):
  ∃cl,closureFor scope X.env=pure cl/\(∀x c,cl.lookup x=some c->X.env.cells.lookup x=some c)/\∀x,(x,NameKind.free)∈scope.names->∃c,cl.lookup x=some c:=
 Uu λy hy hf=>I.ok.has y.1 (S.frees y hy hf)
theorem Ke{X:Cx}{N:List Str}(a:X.calm=true)(r:PI X tg iter wi)(z:∀c C b s H,PG (eY X N scope c C b s H) tg g)(u:∀c C b s H,nm (eY X N scope c C b s H) ifs tc)(U:∀c C b s H,PE (eY X N scope c C b s H) elt te)
  (S:bA X N k is scope)(o:∀x,foldedSetIterable iter X.env x=pure x:=by intro _;rfl):PE X (.ListComp elt [⟨tg,iter,ifs,0⟩] scope pos) (ke wi k is g tc te):=by
 intro j s l H Q I h;obtain⟨c,e,A,y⟩:=Tn S I;rw[eval_ListComp];refine wpAny_comprehension_free (use:=none) rfl o e S.kind S.names (bu (r j s l H _ I h) λxv s1 h1=>bu h1 λE s2 n=>?_);obtain⟨it,b,tn,J,H2,Y,w,T,d,P,G⟩:=n;subst Y;refine Sy (Q:=Q) (RR:=λacc C=>compPost (model X.prog X.w) X.A X.xe none (EP X j l Q) acc C) a z u U S w T d P A y G ?_;intro p C s' t m i hm v q;exact⟨m,hm,λh' f=>⟨.ref p,t,i.back v f,rfl,q⟩⟩
theorem Kr{X:Cx}{N:List Str}(c:X.calm=true)(hN:X.N.Nodup)(r:X.N[i]?=some x)(hx:Loc X.env.scope x)(hi:PI X tg iter wi)(hg:∀j C f s H,PG (eY X N scope j C f s H) tg g)(hc:∀j C f s H,nm (eY X N scope j C f s H) ifs tc)
  (he:∀j C f s H,PE (eY X N scope j C f s H) elt te)(S:bA X N k is scope){b:Pos}(w:swapsWith (.ListComp elt [⟨tg,iter,ifs,0⟩] scope pos) (some (.Name x pos')) b.line X.env=pure true:=by rfl)
  (hf:X.fn x=true\/X.env.scope.names.lookup x=some .local:=by first|exact .inl rfl|exact .inr rfl|assumption)
  (P:∀x,foldedSetIterable iter X.env x=pure x:=by intro _;rfl):PS X (.Assign [.Name x pos'] (.ListComp elt [⟨tg,iter,ifs,0⟩] scope pos) b) (oK (ke wi k is g tc te) (jb i)):=by
 intro t s U H D I h;obtain⟨j,e,c1,c2⟩:=Tn S I;rw[exec_Assign_Name_used (hs:=w)];refine ae (CQ (ae (?_:wpAny _ X.A _ _ _ s)));show wpAny _ X.A (do let _ ←comprehension (.ListComp elt [⟨tg,iter,ifs,0⟩] scope pos) scope X.env _ (newList []) false (eval iter X.env) (some (assign (.Name x pos') X.env))) _ _ s
 refine ae (iq (wpAny_comprehension_free (use:=some (assign (.Name x pos') X.env)) (Q:=λ_ l=>SP X t D .next l) rfl P e S.kind S.names
  (bu (hi t s U H _ I h) λxv s1 h1=>bu h1 λa0 s2 h2=>?_)) (λ_ l hq=>ar (ar hq)) λ_ _ e=>e)
 obtain⟨it,f,tn,J,H2,e2,I2,T,n,f2,h3⟩:=h2;subst e2;refine Sy (Q:=λv u=>jb i v U u D.nx) (RR:=λacc C=>compPost (model X.prog X.w) X.A X.xe (some (assign (.Name x pos') X.env)) (λ_ l=>SP X t D .next l) acc C) c hg hc he S I2 T n f2 c1 c2 h3 ?_;intro p C l u m d hm I' q;show wpAny _ X.A (assign (.Name x pos') X.env (.ref p)) _ _ _;refine wpAny_assign_Name (Sj (v:=.ref p) I' hN r hx rfl (λY E y=>?_) hf);obtain⟨a,G,ha⟩:=y;have A:C≠a:=by
  rcases ha with z|z
  ·rw[z];exact d.loc
  ·exact(d.cell x a z).symm
 exact⟨m,hm.sameBut G A,λh' o=>⟨_,u,d.back E o,q⟩⟩
def Callee(P:Program) (w:World) (K:Fg) (c:Str->Option Value) (a:Heap) (x:Str) (k:Nat) (d:List Str) (e:Sp):Prop:=
 ∃f b,gL P w K c a jX k f b d e/\Binds K b d []/\W.keepIn K (.ref f)=true/\c x=some (.ref f)
theorem Mw{X:Cx}(c:Callee X.prog X.w X.K X.mg X.base x k ps sp)(h:cg k X.A)(l:Gl X x)(g:PA X (e::es) t)(d:(x==("__debug__" : Str))=false:=by decide)
  (j:starEach (e::es) X.env=(false,eval e X.env)::starEach es X.env:=by rfl)(a:(backTo pos (starEach es X.env)).any (·.1)=false:=by rfl):
  PE X (.Call (.Name x p) (e::es) [] pos) (mn sp [] E0 t):=by
 obtain⟨f,n,F,b,i,m⟩:=c;exact Kc F h l m i b .nil zT g d j a
noncomputable def ai(K:Fg) (x:Str) (a:Stmt):Prop:=
 ∃f b,W.nsIn K mainGlobals x=some (some (.ref f))/\o9 K x x a f b
theorem WI{K:Fg}{x:Str}{au:Stmt}{f:Addr}{i g:Option Addr}{h:Array (Option Value)}{e kV m d b j:Value}
  (a:W.nsIn K mainGlobals x=some (some (.ref f)))(l:K.lookup f=some ⟨e,i,.func (W.fnOf x x (cr au) (bq au) (ag au) .none kV m d g b j),h⟩)(c:W.codeIn K b x=true)(k:W.keepIn K (.ref f)=true):ai K x au:=
 ⟨f,_,a,He l c k⟩
theorem RH{P:Program}{w:World}{K:Fg}{o:Str->Option Value}{c h:Heap}{x:Str}{d:Stmt}{N i:List Str}{k:Nat}{sp:Sp}(T:ai K x d)(X:K.In h)(G:h.Ns mainGlobals o)(S:cb N i (ag d))
  (y:∀(kV n p:Value) (r:Option Addr) (b v:Value) (l:List Value),l.length=i.length->bindArgs (W.fnOf x x (cr d) (bq d) (ag d) .none kV n p r b v) ⟨l,[]⟩=pure (i.zip l))
  (m:∀j H Q E,sp j H Q E->j.length=i.length)
  (g:∀(f:Addr) (b:Value) (A:Around) (e:List Env) (s:Shared) (H:Hp) (j:List V) (Q:VK) (E:XK),cg k (A.deeper (envOfC x (ag d) s.heap.objs.size f b))->sp j H Q E ->
   ∃t,jg (gn jX P w K o c N x (ag d) f b A e s H E).nox (bq d) t/\t {nx:=λ_ q=>Q .non q,rt:=Q} (start N j) H):Callee P w K o c x (k+1) i sp:=by
 obtain⟨f,u,a,F⟩:=T;exact⟨f,u,F.ok S m (g f),F.binds y,F.kp,yv X G a⟩
theorem vt:bE X (.builtin "isinstance") (λd H Q=>∃ x T t b,d=[x,.ty T]/\fk X.K H x t/\W.kitOne X.K t (.type T)=some b/\Q (.bl b) H):=by
 intro l s k H d j Q I r h;obtain⟨x,T,t,b,rfl,c,e,q⟩:=h;obtain⟨u,g,rfl,f,a⟩:=vals2 r;cases(show g=Value.type T from a);exact NI I f c e λi=>⟨.bl b,H,I.tok i,rfl,q⟩
noncomputable def ew(i j:Int):Prop:=0<j/\j<2^1000
theorem va:dq X (binaryOp .FloorDiv) (rI ew λi j=>.int (i/j)):=DK λi j _ _ _ _ _ a q=>by
 have e:i.fdiv j=i/j:=Int.fdiv_eq_ediv_of_nonneg i (by have:=a.1;lia);refine floordiv_int (by have:=a.1;lia) (by rw[e];exact q) (.inl (PyProof.noPylong_of_log2 ?_));have d:j.natAbs<2^1000:=by
  have h:=a.1;have g:=a.2;have f:(j.natAbs:Int)=j:=by lia
  have b:(j.natAbs:Int)<((2^1000:Nat):Int):=by
   rw[f];exact_mod_cast g
  exact_mod_cast b
 have c:j.natAbs≠0:=by have:=a.1;lia
 have:=(Nat.log2_lt c).mpr d;lia
noncomputable def jc(a:List Str) (xs:List (Str×NameKind)) (N:List Str) (k:Nat) (is:List Nat) (scope:Scope):Bool:=
 (scope.kind==.function)&&scope.names.all (λy=>y.2 != .cell)&&scope.names.all (λy=>y.2 != .local||scope.names.lookup y.1==some .local) &&
 scope.names.all (λy=>y.2 != .free||(xs.lookup y.1==some .cell||xs.lookup y.1==some .free))&&(N.length==k+is.length) &&
 (List.range is.length).all (λj=>match is[j]?,N[k+j]? with
  |some i,some x=>a[i]?==some x&&scope.names.lookup x==some .free
  |_,_=>false)
theorem kD{X:Cx}{N:List Str}(h:jc X.N X.env.scope.names N k is scope=true):bA X N k is scope:=by
 unfold jc at h;simp only[jm,cZ] at h;obtain⟨⟨⟨⟨⟨f,c⟩,l⟩,g⟩,d⟩,m⟩:=h;refine⟨eq_of_beq f,λy a e=>?_,λy a e=>?_,λy a e=>?_,eq_of_beq d,λj i e=>?_⟩
 ·have:=c y a;rw[e] at this;simp at this
 ·have:=l y a;rw[e] at this;simp at this;exact this
 ·have:=g y a;rw[e] at this;simp at this;exact this
 ·have b:j<is.length:=(cU.mp e).1;have:=m j (bB.mpr b);rw[e] at this;cases e2:N[k+j]? with
  |none=>rw[e2] at this;cases this
  |some x=>
   rw[e2] at this;simp only[jm,l5] at this;exact⟨x,rfl,this.1,this.2⟩
theorem lu:bootBuiltins "len"=some (.builtin "len"):=by decide +kernel
theorem GF:bootBuiltins "abs"=some (.builtin "abs"):=by decide +kernel
theorem sL:bootBuiltins "min"=some (.builtin "min"):=by decide +kernel
theorem wc:bootBuiltins "max"=some (.builtin "max"):=by decide +kernel
theorem nV:bootBuiltins "sum"=some (.builtin "sum"):=by decide +kernel
theorem pq:bootBuiltins "sorted"=some (.builtin "sorted"):=by decide +kernel
theorem wa:bootBuiltins "all"=some (.builtin "all"):=by decide +kernel
theorem vB:bootBuiltins "isinstance"=some (.builtin "isinstance"):=by decide +kernel
theorem wb:bootBuiltins "int"=some (.type "int"):=by decide +kernel
theorem xc:bootBuiltins "bool"=some (.type "bool"):=by decide +kernel
theorem pk:bootBuiltins "tuple"=some (.type "tuple"):=by decide +kernel
theorem D0:bootBuiltins "list"=some (.type "list"):=by decide +kernel
theorem GG:bootBuiltins "set"=some (.type "set"):=by decide +kernel
theorem M7(h:H p=some o):aZ H p o=H:=by
 funext b
 unfold aZ;split
 ·subst b;exact h.symm
 ·rfl
end L2
namespace Srt
open PySem.W PyProof.Rows
section
variable (r:Nat->Nat)
noncomputable def lt(i j:Nat):Bool:=decide (r i<r j)
noncomputable def At(p:Array Nat) (i:Nat):Nat:=r (p.getD i 0)
def Up(p:Array Nat) (n:Nat):Prop:=∀i j,i<=j->j<n->At r p i<=At r p j
end
noncomputable def eN(h:Heap) (d:Addr) (a:List Value):Heap:=((h.update d (Obj.mapSeq λ_=>(#[]:Array Value))).push (seqObj "tuple" a.toArray 0)).push (seqObj "list" #[] 0)
theorem Te{h:Heap}(a:b≠d)(e:h.get? b=some ob):(eN h d xs).get? b=some ob:=
 dC _ (dC _ ((Heap.get?_update_ne _ _ _ _ a).trans e))
def Answers(P:Program) (w:World) (B:Around) (r:Nat->Nat) (a:List Value) (b:Shared):Prop:=
 ∃c,(∀R:SortKind->Shared->Prop,R c b->wpAny (model P w) B (keyKind' a.toArray) R (λ_ _=>False) b) /\
  ∀i j C,i<a.length->j<a.length->C (lt r i j) b->kas_ask P w B c a i j C b
noncomputable def cQ(a:List Value) (p:Array Nat):Array Value:=List.toArray (p.toList.map λi=>a.getD i Value.none)
theorem Oo{a:List Value}(h:a.length<2):(a.toArray.zip a.toArray).map (·.2)=cQ a (List.toArray (List.range a.length)):=by
 unfold cQ
 match a,h with
 |[],_=>simp
 |[_],_=>simp[pJ]
 |_::_::_,h=>exact absurd h (by simp)
end Srt
namespace Srt
open PySem.W PyProof.Rows HT
theorem Cj:∀a:List Int,lexLt a a=false
 |[]=>rfl
 |x::a=>by rw[tN,if_pos rfl];exact Cj a
theorem Cb:∀{a b c:List Int},lexLt a b=true->lexLt b c=true->lexLt a c=true
 |_,[],[],_,h=>by rw[FB] at h;cases h
 |_,_::_,[],_,h=>by rw[FD] at h;cases h
 |[],[],_::_,h,_=>by rw[FB] at h;cases h
 |_::_,[],_::_,h,_=>by rw[FD] at h;cases h
 |[],_::_,_::_,_,_=>Cy _ _
 |x::a,y::b,z::c,h1,h2=>by
  rw[tN] at h1 h2 ⊢;by_cases e1:x=y
  ·rw[if_pos e1] at h1;subst e1;by_cases e2:x=z
   ·rw[if_pos e2] at h2 ⊢;exact Cb h1 h2
   ·rw[if_neg e2] at h2 ⊢;exact h2
  ·rw[if_neg e1] at h1;have e:=gP h1;by_cases e2:y=z
   ·subst e2;rw[if_neg e1];exact h1
   ·rw[if_neg e2] at h2;have d:=gP h2;rw[if_neg (by lia)];exact cC (by lia)
theorem uN:∀a b:List Int,lexLt a b=true\/a=b\/lexLt b a=true
 |[],[]=>.inr (.inl rfl)
 |[],_::_=>.inl (Cy _ _)
 |_::_,[]=>.inr (.inr (Cy _ _))
 |x::a,y::b=>by
  rw[tN,tN];by_cases e:x=y
  ·subst e;rw[if_pos rfl,if_pos rfl];rcases uN a b with h|h|h
   ·exact .inl h
   ·exact .inr (.inl (by rw[h]))
   ·exact .inr (.inr h)
  ·rw[if_neg e,if_neg (λz=>e z.symm)];rcases Int.lt_or_gt_of_ne e with h|h
   ·exact .inl (cC h)
   ·exact .inr (.inr (cC h))
theorem RX{a b:List Int}(h:lexLt a b=true):lexLt b a=false:=by
 cases e:lexLt b a with
 |false=>rfl
 |true=>have:=Cb h e;rw[Cj] at this;cases this
theorem QL(a:∀x,p x=true->q x=true):∀{l:List Nat}{y:Nat},y∈l->q y=true->p y=false->l.countP p<l.countP q
 |[],_,h,_,_=>nomatch h
 |x::l,y,h,h1,h2=>by
  have b:∀l:List Nat,l.countP p<=l.countP q:=λl=>List.countP_mono_left λx _=>a x
  rcases bZ.mp h with rfl|h
  ·rw[Dy h1,Pw (by rw[h2];decide)];exact O7 (b l)
  ·have e:=QL a h h1 h2;by_cases c:p x=true
   ·rw[Dy c,Dy (a x c)];lia
   ·rw[Pw c];by_cases d:q x=true
    ·rw[Dy d];lia
    ·rw[Pw d];exact e
def dR(a:List (List Int)) (i:Nat):Nat:=(List.range a.length).countP λk=>lexLt (a.getD k []) (a.getD i [])
theorem uP{ks:List (List Int)}(g:i<ks.length)(d:j<ks.length):lt (dR ks) i j=lexLt (ks.getD i []) (ks.getD j []):=by
 have up:∀{a b:Nat},a<ks.length->lexLt (ks.getD a []) (ks.getD b [])=true->dR ks a<dR ks b:=λ{a b} f h=>
  QL (λx c=>Cb c h) (bB.mpr f) h (Cj _)
 cases e:lexLt (ks.getD i []) (ks.getD j []) with
 |true=>exact cC (up g e)
 |false=>
  refine cI λh=>?_
  rcases uN (ks.getD i []) (ks.getD j []) with z|z|z
  ·rw[e] at z;cases z
  ·unfold dR at h;rw[z] at h;exact absurd h (oi _)
  ·have:=up d z;lia
section
variable {prog:Program}{w:World}{A:Around}{s:Shared}{b:Bool}{Q:Bool->Shared->Prop}
theorem Q2:∀{a c:List Value}{d f:List Int}(i:Nat),IntsAre a d->IntsAre c f->Q (lexLt d f) s->KatLex prog w A b (decide (a.length<c.length)) Q (a.zip c) i s
 |_,_,_,_,_,.nil,.nil,h=>h
 |_,_,_,_,_,.nil,.cons _ _ _,h=>h
 |_,_,_,_,_,.cons _ _ _,.nil,h=>h
 |_,_,_,_,i,.cons x t (vs:=a) (ns:=d) r1,.cons y u (vs:=c) (ns:=f) r2,h=>by
  rw[tN] at h;refine kat_cons (wpAny_eqBool_int (kat_go (λe=>kat_yes ?_) λe=>kat_no ?_))
  ·rw[if_pos (eq_of_beq e)] at h;have q:=Q2 (i+1) r1 r2 h;have g:decide ((Value.int x t::a).length<(Value.int y u::c).length)=decide (a.length<c.length):=by
    rw[dh,dh,kR];simp
   rw[g];exact q
  ·rw[if_neg (pP.mp e)] at h;cases hb:(b&&i==0) with
   |true=>exact oneLt_int h
   |false=>exact kat_one _ _ (PyProof.Rows.lt_int h)
end
end Srt
namespace L2
open Spec PyProof.Rows PySem.W
theorem Sr:∀{b:List Addr}{c:List Value},am (b.map V.ref) c->c=b.map Value.ref
 |[],_,.nil=>rfl
 |a::b,_,.cons r t=>by
  rw[show _=Value.ref a from r,Sr t]
  rfl
def sw(K:Fg) (H:Hp) (a:List (Addr×List Int)):Prop:=∀p∈a,cx K H p.1 (p.2.map V.int)
theorem zm{a b:Type}(f:a->b)(d:b){l:List a}{i:Nat}{x:a}(h:l[i]?=some x):(l.map f).getD i d=f x:=by
 rw[cK,fK,h]
 rfl
end L2
namespace L2
open Spec PyProof.Rows
mutual
inductive kC (K:Fg) (H:Hp):V->PyData->Prop
 |non:kC K H .non .none
 |bl (b:Bool):kC K H (.bl b) (.bool b)
 |int (i:Int):kC K H (.int i) (.int i)
 |str (x:Str):kC K H (.str x) (.str x)
 |lst {a:Addr}{xs:List V}{ds:List PyData}:cV K H a xs->jW K H xs ds->kC K H (.ref a) (.list ds)
 |tup {a:Addr}{xs:List V}{ds:List PyData}:cx K H a xs->jW K H xs ds->kC K H (.ref a) (.tuple ds)
inductive jW (K:Fg) (H:Hp):List V->List PyData->Prop
 |nil:jW K H [] []
 |cons {x:V}{xs:List V}{d:PyData}{ds:List PyData}:kC K H x d->jW K H xs ds->jW K H (x::xs) (d::ds)
end
section
variable {X:Cx}{aU:List (Addr×Obj)}{σ:St}{H:Hp}{s:Shared}
mutual
theorem qv(I:Inv X aU σ H s):∀{v:V}{d:PyData}{u:Value},kC X.K H v d->RelV v u->∃f,Reads s.heap u d f
 |_,_,_,.non,r=>by cases r;exact⟨_,.none⟩
 |_,_,_,.bl b,r=>by cases r;exact⟨_,.bool b⟩
 |_,_,_,.int i,r=>by obtain⟨t,rfl⟩:=r;exact⟨_,.int i t⟩
 |_,_,_,.str x,r=>by obtain⟨t,rfl⟩:=r;exact⟨_,.str x t⟩
 |_,_,_,.lst h all,r=>by
  cases r;obtain⟨g,j,⟨o,n,e,c,_,a⟩,_⟩:=I.list h;obtain⟨f,q⟩:=Fp I all j;exact⟨_,.list e c a q⟩
 |_,_,_,.tup h all,r=>by
  cases r;obtain⟨g,j,⟨o,e,c,n,a⟩,_⟩:=I.tuple h;obtain⟨f,q⟩:=Fp I all j;exact⟨_,.tuple e c a q⟩
theorem Fp(I:Inv X aU σ H s):∀{d:List V}{c:List PyData}{b:List Value},jW X.K H d c->am d b->∃a,ReadsAll s.heap b c a
 |_,_,_,.nil,.nil=>⟨_,.nil⟩
 |_,_,_,.cons h t,.cons r rs=>by
  obtain⟨a,q⟩:=qv I h r;obtain⟨f,e⟩:=Fp I t rs;exact⟨_,.cons q e⟩
end
end
def rZ(K:Fg) (c:Bool):R2:=λx y H Q=>∃b a,kC K H x b/\kC K H y a/\PySem.SeqAt.shaped b=true/\PySem.SeqAt.shaped a=true/\Q (.bl (if c then !PyData.eqv b a else PyData.eqv b a)) H
section
variable {X:Cx}
theorem nv(i:X.A.units+64<cLine):dq X (compareOp .Eq) (rZ X.K false):=by
 intro p s n H x y v u Q I l b h;obtain⟨e,k,d,g,j,c,q⟩:=h;obtain⟨m,a⟩:=qv I d l;obtain⟨o,f⟩:=qv I g b;exact eq_dataH a f j c i ⟨.bl (PyData.eqv e k),H,I,rfl,q⟩
theorem wF(i:X.A.units+64<cLine):dq X (compareOp .NotEq) (rZ X.K true):=by
 intro p s n H x y v u Q I l b h;obtain⟨e,k,d,g,j,c,q⟩:=h;obtain⟨m,a⟩:=qv I d l;obtain⟨o,f⟩:=qv I g b;exact ne_dataH a f j c i ⟨.bl (!PyData.eqv e k),H,I,rfl,q⟩
end
noncomputable def dI(a:List Int):List PyData:=a.map PyData.int
def bU(a:List Int):PyData:=.tuple (dI a)
theorem wh:∀a b:List Int,PyData.eqvAll (dI a) (dI b)=decide (a=b)
 |[],[]=>by rfl
 |[],_::_=>by rfl
 |_::_,[]=>by rfl
 |x::a,y::b=>by
  show(x==y&&PyData.eqvAll (dI a) (dI b))=_;rw[wh a b,kR];simp
theorem uZ(a b:List Int):PyData.eqv (bU a) (bU b)=decide (a=b):=wh a b
theorem RJ:∀a b:List (List Int),PyData.eqvAll (a.map bU) (b.map bU)=decide (a=b)
 |[],[]=>by rfl
 |[],_::_=>by rfl
 |_::_,[]=>by rfl
 |x::a,y::b=>by
  show(PyData.eqv (bU x) (bU y)&&PyData.eqvAll (a.map bU) (b.map bU))=_;rw[RJ a b,uZ,kR];simp
theorem qN:∀a:List Int,PyData.canLayAll0 (dI a)=true/\PyData.depthAll (dI a)=0
 |[]=>⟨rfl,rfl⟩
 |x::a=>by
  obtain⟨b,c⟩:=qN a;refine⟨?_,?_⟩
  ·show(true&&PyData.canLayAll0 (dI a))=true;rw[b];rfl
  ·show max 0 (PyData.depthAll (dI a))=0;rw[c];rfl
theorem S8(a:List Int):PySem.SeqAt.shaped (bU a)=true:=by
 obtain⟨b,c⟩:=qN a;show(PyData.canLayAll0 (dI a)&&decide (PyData.depthAll (dI a)+1<=64))=true;rw[b,c];rfl
theorem RK:∀a:List (List Int),PyData.canLayAll0 (a.map bU)=true/\PyData.depthAll (a.map bU)<=1
 |[]=>⟨rfl,ir _⟩
 |x::a=>by
  obtain⟨b,e⟩:=RK a;obtain⟨d,c⟩:=qN x;refine⟨?_,?_⟩
  ·show(PyData.canLayAll0 (dI x)&&PyData.canLayAll0 (a.map bU))=true;rw[b,d];rfl
  ·show max (PyData.depthAll (dI x)+1) (PyData.depthAll (a.map bU))<=1;rw[c];lia
theorem Cs(a:List (List Int)):PySem.SeqAt.shaped (.tuple (a.map bU))=true:=by
 obtain⟨b,c⟩:=RK a;show(PyData.canLayAll0 (a.map bU)&&decide (PyData.depthAll (a.map bU)+1<=64))=true;rw[b,cC (by lia)];rfl
theorem SV:∀{a:List Bool}{c:List Value},am (a.map V.bl) c->c=a.map Value.bool
 |[],_,.nil=>rfl
 |b::a,_,.cons r t=>by
  rw[show _=Value.bool b from r,SV t]
  rfl
theorem Oh(c:List Bool):((List.range c.length).all λi=>c.getD i false)=c.all id:=by
 rw[kR];simp only[cZ,bB];constructor
 ·intro h b d;obtain⟨i,a,rfl⟩:=nh d;have:=h i a;rw[cK,bS a] at this;exact this
 ·intro h i a;rw[cK,bS a];exact h _ (fZ a)
def zR(K:Fg) (c:Bool):List V->Hp->VK->Prop:=λb H Q=>∃(l:Addr) (a:List Bool),b=[.ref l]/\cV K H l (a.map V.bl)/\Q (.bl (if c then a.all id else a.any id)) H
theorem Vk(c:List Bool):TruthOf prog w A (λi v=>(c.map Value.bool).toArray[i]?=some v) (λi=>c.getD i false):=λi v s Q E f d=>by
 have a:(c.map Value.bool)[i]?=some v:=by simpa using f
 rw[fK] at a;cases e:c[i]? with
 |none=>rw[e] at a;cases a
 |some b=>
  rw[e] at a;cases a;dsimp only at d;rw[cK,e] at d;exact ox d
section
variable {X:Cx}
theorem K1(y:X.calm=true){k:List (Addr×Obj)}{p:St}{H:Hp}{s:Shared}{l:Addr}{c:List Bool}{R:Bool->Prop}(I:Inv X k p H s)(t:cV X.K H l (c.map V.bl)){Q:Value->Shared->Prop}{F:(Nat->Bool)->Nat->Bool}
  (v:∀q,Inv X k p H q->Q (.bool (F (λi=>c.getD i false) c.length)) q):
  wpAny (model X.prog X.w) X.A.in1 (pyIter (.ref l)) (λC a=>∃I u j n P St r,C=.ref I/\Walks X.prog X.w X.A.in1 I u j n P St/\St 0 a.heap/\TruthOf X.prog X.w X.A.in1 P r /\
   ∀d g,(∀b o,b∉j->a.heap.get? b=some o->d.get? b=some o)->Q (.bool (F r n)) {a with heap:=d,toks:=g}) X.xe s:=by
 obtain⟨E,w,h,S⟩:=I.list t;have e:=SV w;subst e;have f:l<s.heap.objs.size:=by obtain⟨o,n,e,_⟩:=h;exact cW e
 refine C5 h.isList ?_;refine⟨s.heap.objs.size,_,[s.heap.objs.size],_,_,_,_,rfl,Walks.list (A:=X.A.in1) (I.ok.hd y) _ l (dO f) (c.map Value.bool).toArray,⟨⟨_,fL _ rfl,rfl,rfl⟩,h.isList.push _⟩,Vk c,λd g x=>?_⟩;have J:(c.map Value.bool).toArray.size=c.length:=by simp
 rw[J];refine v _ ?_;refine I.kept (t':=g) λb o e=>x b o ?_ (dC _ e)
 intro z;have G:b=s.heap.objs.size:=by simpa using z
 have m:=cW e;rw[G] at m;exact absurd m (oi _)
theorem QI(e:X.calm=true):bE X (.builtin "all") (zR X.K true):=by
 intro o s g H k j Q I r h;obtain⟨l,a,rfl,c,q⟩:=h;obtain⟨u,rfl,b⟩:=vals1 r;cases b;refine call_all_walk (K1 (R:=λ_=>True) e I c (F:=λd n=>(List.range n).all d) λm f=>⟨.bl ((List.range a.length).all λi=>a.getD i false),H,f,rfl,?_⟩);rw[Oh];exact q
end
end L2
namespace Dct
open PySem.W PyProof.Rows
noncomputable def lQ(h:Heap) (d:Addr) (b:Array DictEntry) (c:Nat):Prop:=∃a,h.get? d=some a/\a.ExactDict/\a.data=.dict b c
theorem lQ.kept{h':Heap}(x:lQ h d es ep)(k:∀a,h.get? d=some a->h'.get? d=some a):lQ h' d es ep:=
 let ⟨a,e,r⟩:=x;⟨a,k a e,r⟩
theorem lQ.lt(x:lQ h d es ep):d<h.objs.size:=let ⟨_,e,_⟩:=x;cW e
theorem lQ.is{a:Shared}(x:lQ a.heap d es ep):a.TypeIs (.ref d) "dict":=let ⟨ob,e,c,_⟩:=x; ⟨ob,e,c.1⟩
noncomputable def oX(d:Addr) (n a:Nat):Obj:={ cls:=.type "dict_keyiterator",data:=.fields #[.ref d,.int 0 0,.int n 0,.int a 0] }
theorem Rm{au:Shared}{W:Value->Shared->Prop}(g:(d==sysModules)=false)(x:lQ au.heap d es ep)(b:W (.ref au.heap.objs.size) {au with heap:=au.heap.push (oX d es.size ep)}):wpAny (model P w) B (pyIter (.ref d)) W E au:=by
 obtain⟨h,e,c,f⟩:=id x;have a:=x.is;refine OX a F.slot_dict_iter (kS F.slot_dict_iter a F.entry_dict_iter ?body (F.args_dict_iter_1 _))
 case body=>
  unfold Builtin.«dict.__iter__» Builtin.Dict.dictSlotNone Builtin.Dict.showsAll;refine ae (ae (wpAny_notOrdered_dict a (ar ?_)));show wpAny _ _ ((if(d==sysModules)=true then _ else _) >>= _) _ _ au;rw[if_neg (λz=>oB (g.symm.trans z))];refine ae (ar (ae (yH e f (ae (wpAny_dictEpoch e f (ae (jz (ar ⟨_,rfl, "dict_keyiterator",_,⟨_,fL _ rfl,rfl⟩,yU.lookup,?_⟩))))))))
  exact b
theorem Rn{au:Shared}{a:Array DictEntry}{W:Option Value->Shared->Prop}(b:au.heap.IsKeyIter it d k a.size ep)(x:lQ au.heap d a ep)(m:a[k]?=some en)
  (j:∀g:Heap,g.IsKeyIter it d (k+1) a.size ep->Heap.SameBut it au.heap g->W (some en.key) {au with heap:=g}):wpAny (model P w) B (pyNext (.ref it)) W E au:=by
 obtain⟨q,i,o,h⟩:=id b;obtain⟨p,e,c,l⟩:=id x;have lt:k<a.size:=(TX.mp m).1;unfold pyNext;refine ae (yu (wpAny_callSpecial?_slot (name:=Str.ofString "__next__") b.typeIs yU (kS yU b.typeIs F.entry_dict_keyiterator_next ?body (F.args_dict_keyiterator_next_1 _))))
 case body=>
  refine ae (ar (ae (ae (ae (DC b.typeIs (ar (ae (CU i h ?_))))))));simp only[show Builtin.Dict_items.ownsTuple "dict_keyiterator"=false from by decide,jo,ite_false]
  show wpAny _ _ (if(Value.ref d==Value.none)=true then _ else _) _ _ au;have n:¬ (Value.ref d==Value.none)=true:=oB;rw[if_neg n];refine ae (ar (ae (yH e l ?_)));rw[if_neg (by simp)];refine ae (ar (ae (wpAny_dictEpoch e l ?_)));rw[if_neg (by simp)];refine ar ?_;simp only[show ¬ ((k:Int)<0) from by lia,ite_false,j9,m];refine ae (ae (DC b.typeIs (ar (ae (wpAny_isOneOf_keyiter b.typeIs ?_)))));show wpAny _ _ (setField (.ref it) 1 (rawInt ((k:Int)+1)) >>= _) _ _ au;refine ae (ry i h (by simp) ?_);have f:(au.heap.update it (Obj.mapFields (·.setIfInBounds 1 (rawInt ((k:Int)+1))))).IsKeyIter it d (k+1) a.size ep:=
   ⟨_,pV _ i (yQ (rH h _)),(C9 ..).trans o,by rw[rH h];simp[rawInt]⟩
  refine ae (jl (ae (wpAny_isOneOf_keyiter (s:={au with heap:=au.heap.update it (Obj.mapFields (·.setIfInBounds 1 (rawInt ((k:Int)+1))))}) f.typeIs ?_)));show wpAny _ _ (pure en.key) _ _ _;exact ar (ar ⟨_,rfl,ar (j _ f (ng ..))⟩)
theorem xX{B:Around}{au:Shared}{h:Array DictEntry}{W:Option Value->Shared->Prop}(o:B.handled=none)(f:au.heap.IsKeyIter it d k h.size ep)(x:lQ au.heap d h ep)(p:h.size<=k)
  (i:∀g:Heap,Heap.ExtBut it au.heap g->W none {au with heap:=g}):wpAny (model P w) B (pyNext (.ref it)) W E au:=by
 obtain⟨s,n,t,j⟩:=id f;obtain⟨r,e,c,l⟩:=id x;unfold pyNext;refine ae (yu (wpAny_callSpecial?_slot (name:=Str.ofString "__next__") f.typeIs yU (kS yU f.typeIs F.entry_dict_keyiterator_next ?body (F.args_dict_keyiterator_next_1 _))))
 case body=>
  refine ae (ar (ae (ae (ae (DC f.typeIs (ar (ae (CU n j ?_))))))));simp only[show Builtin.Dict_items.ownsTuple "dict_keyiterator"=false from by decide,jo,ite_false]
  show wpAny _ _ (if(Value.ref d==Value.none)=true then _ else _) _ _ au;have q:¬ (Value.ref d==Value.none)=true:=oB;rw[if_neg q];refine ae (ar (ae (yH e l ?_)));rw[if_neg (by simp)];refine ae (ar (ae (wpAny_dictEpoch e l ?_)));rw[if_neg (by simp)];refine ar ?_;simp only[show ¬ ((k:Int)<0) from by lia,ite_false,j9,yR p];refine ae (ae (DC f.typeIs (ar ?_)));show wpAny _ _ (setField (.ref it) 0 .none >>= _) _ _ au;refine ae (ry n j (by simp) ?_);show wpAny _ _ (newExc (.type "StopIteration") [] >>= _) _ _ _
  refine ae ?_;simp only[newExc,newTuple];refine ae (jz (ae (m:=firstArgMember _ _) (wpAny_of_eq (a:=Value.none) (by first|rfl|(simp only[firstArgMember];rfl)) (jz ?_ (by size_fits)))) (by size_fits));simp only[raiseNew];refine ae (wpAny_handled ?_);rw[show B.in1.handled=none from o];refine ae (ar (wpAny_throw ?_));refine ae (wpAny_isInstance (T:="StopIteration") (b:=true) ?_ isSubtype_stop (ar (i _ (((ng ..).extBut.push _).push _))))
  exact⟨_,fL _ rfl,rfl⟩
theorem Oj{B:Around}(x:B.handled=none)(y:d≠it)(f:Array DictEntry)(n:Nat):
  Walks P w B it [it,d] [it] f.size (λi v=>∃m,f[i]?=some m/\v=m.key) (λi h=>h.IsKeyIter it d i f.size n/\lQ h d f n) where
 sub:=λb s=>bZ.mpr (.inl (em.mp s))
 frame:=λ_ _ _ z r=>⟨z.1.at λo e=>r it dk o e,z.2.kept λo e=>r d (bT _ (em.mpr rfl)) o e⟩
 item:=λi l A t u z j=>by
  have p:f[i]?=some f[i]:=mf u;exact Rn z.1 z.2 p λg a b=>j f[i].key g l.toks ⟨_,p,rfl⟩ ⟨a,z.2.kept λo e=>b.extBut d o y e⟩ λc o k e=>b.extBut c o (λq=>k (em.mpr q)) e
 done:=λl A t z j=>xX x z.1 z.2 (bj _) λg b=>j g l.toks λc o k e=>b c o (λq=>k (em.mpr q)) e
 self:=λ_ _ _ _ z j=>wpAny_pyIter_keyiter z.1 j
theorem Kv(g:(d==sysModules)=false)(a:Array DictEntry)(f:Nat):KdlSrc P w "dict" d d a.size (λi v=>∃ c,a[i]?=some c/\v=c.key) (λh=>lQ h d a f) where
 type:=λ_ x=>x.is
 there:=λ_ x=>⟨x.lt,x.lt⟩
 keep:=λ_ _ x j=>x.kept λo e=>j d (.inl rfl) o e
 notList:=by decide
 notTuple:=by decide
 hint:=λ_ _ _ _ x b=>kdl_hint_dict x.is b
 iter:=λ_ l k x=>⟨_,_,λ_ _ b=>Rm g x b,Oj k (dO x.lt) a f,⟨⟨_,fL _ rfl,rfl,rfl⟩,x.kept λo e=>dC _ e⟩⟩
end Dct
namespace Srt
open PySem.W PyProof.Rows
end Srt
namespace L2
open Spec PyProof.Rows
theorem ba.ob(x:ba P w H h a o):∃ob,h.get? a=some ob:=by
 cases o with
 |lst xs=>obtain⟨_,_,_,_,e⟩:=x;exact⟨_,e⟩
 |tup xs=>obtain⟨_,_,_,ob,e,_⟩:=x;exact⟨_,e⟩
 |dK kvs=>obtain⟨_,_,_,_,ob,_,_,e,_⟩:=x;exact⟨_,e⟩
 |dT kvs=>obtain⟨_,_,_,_,ob,_,_,e,_⟩:=x;exact⟨_,e⟩
 |set S n=>obtain⟨ob,_,_,_,e,_⟩:=x;exact⟨_,e⟩
 |ins C dx fs=>obtain⟨_,_,_,e,_⟩:=x;exact⟨_,e⟩
 |own y=>obtain⟨_,e⟩:=x;exact⟨_,e⟩
 |xd fs=>obtain⟨_,⟨_,_,_,e,_⟩,_⟩:=x;exact⟨_,e⟩
 |rng lo hi=>obtain⟨_,_,_,e⟩:=x;exact⟨_,e⟩
 |frz ob u=>obtain⟨e,_⟩:=x;exact⟨_,e⟩
 |tbl ps=>exact⟨_,(show h.get? a=some _ from x)⟩
 |met f y=>exact⟨_,(show h.get? a=some _ from x)⟩
 |ext φ=>obtain⟨_,⟨_,e⟩,_⟩:=x;exact⟨_,e⟩
theorem Inv.away(I:Inv X aU σ H s) (c:∀b a,s.heap.get? b=some a->b≠q):H q=none:=by
 cases e:H q with
 |none=>rfl
 |some o=>
  obtain⟨a,z⟩:=(I.hok q o e).ob;exact absurd rfl (c q a z)
theorem Inv.laidN{g:Heap}(I:Inv X aU σ H s)(k:∀b u,s.heap.get? b=some u->g.get? b=some u)(h:∀b f,s.heap.get? b=some f->b≠q)(d:ba X.prog X.w (aZ H q o) g q o):
  Inv X aU σ (aZ H q o) {s with heap:=g,toks:=t'}:=by
 have i:=I.away h;have a:∀{b:Addr}{u:HO},H b=some u->aZ H q o b=some u:=λ{b u} e=>by rw[zy (zn e i)];exact e
 refine I.un ⟨λb u e _ _ _=>k b u e,λb u e _ _ _=>⟨u.slots,k b u e⟩,λb u e n _=>by rw[zy (h b u e)];exact n,λb u e _=>⟨u,k b u e⟩,λb j e=>a e,λb f u e=>a e,λb l e=>⟨#[],by rw[a e];simp⟩⟩ λb u e=>?_
 by_cases hb:b=q
 ·subst hb;rw[zx] at e;cases e;exact d
 ·rw[zy hb] at e;exact(I.hok b u e).stay (λc v _ z=>k c v z) (λc z=>a z) λc j z=>a z
theorem xB(a:List Int):(a.map (Sum.inl:Int->cy)).map kV=a.map V.int:=by rw[eM];rfl
theorem SB{P:Program}{w:World}{H:Hp}{a:List (List cy×V)}:∀{c:List (List Int)}{f:List (List cy×Addr×Value)},
  Paired (λ(p:List cy×V) (q:List cy×Addr×Value)=>p.1=q.1/\H q.2.1=some (.tup (p.1.map kV))/\RelV p.2 q.2.2) a f->a.map (·.1)=c.map (λg=>g.map Sum.inl) ->
   ∃d:List (Addr×List Int),d.map (·.2)=c/\(∀p∈d,H p.1=some (.tup (p.2.map V.int)))/\f.map (λq=>(entryOfKey (tupleKind (aX P w)) q).key)=d.map λp=>Value.ref p.1:=by
 induction a with
 |nil=>
  intro c f r e;cases r;cases c with
  |nil=>exact⟨[],rfl,λp h=>(nomatch h),rfl⟩
  |cons x c=>cases e
 |cons kv a ih=>
  intro c f r e;cases r with
  |cons r rs=>
   cases c with
   |nil=>cases e
   |cons g c=>
    rw[ce,ce] at e;injection e with l m
    obtain⟨d,j,k,n⟩:=ih rs m;rename_i b _;obtain⟨s,i,o⟩:=r;refine⟨(b.2.1,g)::d,by rw[ce,j],λp h=>?_,by rw[ce,ce,n];rfl⟩;rcases bZ.mp h with z|z
    ·subst z;rw[l,xB] at i;exact i
    ·exact k p z
open PySem.W in
theorem K0{sg:Shared}{a:List (Addr×List Int)}(h2:2<=a.length)
  (b:∀(i:Nat) (p:Addr×List Int),a[i]?=some p->∃(g:List Value) (o:Obj) (n:Nat),IntsAre g p.2/\sg.heap.get? p.1=some o/\o.cls=.type "tuple"/\o.data=.seq g.toArray n/\p.2≠[]):
  Srt.Answers P w B (Srt.dR (a.map (·.2))) (a.map λp=>Value.ref p.1) sg:=by
 refine⟨tuples' true,λR Y=>?_,λi j C d y I=>?_⟩
 ·have Q:∀(l:List (Addr×List Int)),(∀p∈l,∃i:Nat,a[i]?=some p)->∃c:List Value,KatTups sg.heap (l.map λp=>Value.ref p.1) c/\c.length=l.length/\∀v∈c,∃i t,v=Value.int i t:=λl=>by
   induction l with
   |nil=>intro _;exact⟨[],KatTups.nil,rfl,λv e=>(nomatch e)⟩
   |cons p l ih=>
    intro m;obtain⟨c,q,J,H⟩:=ih λS u=>m S (bT _ u)
    obtain⟨i,d⟩:=m p dk;obtain⟨g,o,n,h,k,A,f,G⟩:=b i p d;obtain⟨pa,pn⟩:=p;dsimp only at h k A f G;cases h with
    |nil=>exact absurd rfl G
    |cons x t r=>exact⟨Value.int x t::c,KatTups.cons k A f rfl q,by rw[dh,dh,J],λv e=>(bZ.mp e).elim (λz=>⟨x,t,z⟩) (H v)⟩
  obtain⟨c,q,J,H⟩:=Q a λp m=>List.mem_iff_getElem?.mp m
  exact kat_kind (T:=.type "int") q (by lia) (λv e=>by
   obtain⟨i,t,rfl⟩:=H v e
   exact Looks.of_pure rfl) rfl Y
 ·rw[bh] at d y;have E:a[i]?=some a[i]:=bS d;have s:a[j]?=some a[j]:=bS y;obtain⟨g,o,n,h,k,A,f,G⟩:=b i _ E;obtain⟨a0,o2,n2,X,U,c3,c4,c5⟩:=b j _ s;unfold kas_ask;rw[zm (λp:Addr×List Int=>Value.ref p.1) _ E,zm (λp:Addr×List Int=>Value.ref p.1) _ s];refine kat_lt k f U c4 (Srt.Q2 0 h X ?_);rw[Srt.uP (by rw[bh];exact d) (by rw[bh];exact y),zm (λp:Addr×List Int=>p.2) _ E,zm (λp:Addr×List Int=>p.2) _ s] at I;exact I
theorem Ri{ps:List (Addr×List Int)}{p:Array Nat}(n:p.Perm (List.toArray (List.range ps.length)))(J:Srt.Up (Srt.dR (ps.map (·.2))) p ps.length):
  ∃l:List (Addr×List Int),l.Perm ps/\(l.map (·.2)).Pairwise (λx y=>HT.lexLt y x=false)/\Srt.cQ (ps.map λp=>Value.ref p.1) p=(l.map λp=>Value.ref p.1).toArray:=by
 have I:p.size=ps.length:=by rw[n.size_eq];simp
 have e:∀i∈p.toList,i<ps.length:=λi b=>by
  have P:=(n.mem_iff (a:=i)).mp (by rw[←Pm];exact b);exact bB.mp (List.mem_toArray.mp P)
 refine⟨p.toList.map λi=>ps.getD i (0,[]),?_,?_,?_⟩
 ·have Q:p.toList.Perm (List.range ps.length):=by
   have:=ur.mp n
   simpa using this
  have A:=Q.map λi=>ps.getD i (0,[])
  have H:((List.range ps.length).map λi=>ps.getD i (0,[]))=ps:=by
   apply yG
   ·simp
   ·intro i S C;simp[cK,C]
  rw[H] at A;exact A
 ·rw[eM,uq];intro i j b c m;rw[yF,yF];rw[bh] at b c;have E:i<p.size:=by simpa using b
  have G:j<p.size:=by simpa using c
  have s:=J i j (dg m) (by lia);have g:∀k,(d:k<p.toList.length)->p.getD k 0=p.toList[k]:=λk d=>by
   have h:k<p.size:=by simpa using d
   rw[lM,mf h];simp
  have t:=e _ (fZ b);have u:=e _ (fZ c);have o:=Srt.uP (ks:=ps.map (·.2)) (i:=p.toList[j]) (j:=p.toList[i]) (by rw[bh];exact u) (by rw[bh];exact t);have q:Srt.lt (Srt.dR (ps.map (·.2))) p.toList[j] p.toList[i]=false:=by
   refine cI λz=>?_
   unfold Srt.At at s;rw[g i b,g j c] at s;lia
  rw[q] at o;have v:∀k,k<ps.length->(ps.map (·.2)).getD k []=(ps.getD k (0,[])).2:=λk d=>by
   have r:ps[k]?=some ps[k]:=bS d;rw[zm (λp:Addr×List Int=>p.2) _ r,cK,r]
   rfl
  rw[v _ u,v _ t] at o;exact o.symm
 ·unfold Srt.cQ;rw[eM]
  congr 1
  refine kb λi b=>?_
  have f:=e i b;have w:ps[i]?=some ps[i]:=bS f;rw[zm (λp:Addr×List Int=>Value.ref p.1) _ w];show _=Value.ref (ps.getD i (0,[])).1;rw[cK,w]
  rfl
theorem Inv.freeze(I:Inv X aU σ H s)(h:H a=some (.dT kvs))(e:s.heap.get? a=some ob):Inv X aU σ (aZ H a (.frz ob (.dT kvs))) s:=by
 have d:∀{b:Addr}{u:HO},H b=some u->(∀l,u≠.dT l)->aZ H a (.frz ob (.dT kvs)) b=some u:=λ{b u} q n=>by
  rw[zy (by rintro rfl;rw[h] at q;cases q;exact n _ rfl)];exact q
 have z:=I.un (h':=s.heap) (t':=s.toks) (H':=aZ H a (.frz ob (.dT kvs))) ⟨λb u q _ _ _=>q,λb u q _ _ _=>⟨u.slots,q⟩,λb u q n _=>by
   rw[zy (by rintro rfl;rw[h] at n;cases n)];exact n,λb u q _=>⟨u,q⟩,λb f q=>d q (λl z=>by cases z),λb o u q=>d q (λl z=>by cases z),λb g q=>⟨#[],by rw[d q (λl z=>by cases z)];simp⟩⟩ (λb u q=>by
   by_cases hb:b=a
   ·subst hb;rw[zx] at q;cases q;exact⟨e,(I.hok b _ h).stay (λc v _ r=>r) (λc r=>d r (λl z=>by cases z)) λc f r=>d r (λl z=>by cases z)⟩
   ·rw[zy hb] at q
    exact(I.hok b u q).stay (λc v _ r=>r) (λc r=>d r (λl z=>by cases z)) λc f r=>d r (λl z=>by cases z))
 exact z
def Uf(a:Addr) (d:Obj) (b:List (List cy×V)) (c:List (Addr×List Int)):It:=
 ⟨λi H=>i<c.length/\H a=some (.frz d (.dT b)),λi H x e=>e=H/\∃p,c[i]?=some p/\x=.ref p.1,λi H=>c.length<=i/\H a=some (.frz d (.dT b))⟩
theorem Ov{P:Program}{w:World}{K:Fg}{tg:Expr}{a it:Addr}{n:Obj}{r:List (List cy×V)}{f:List (Addr×List Int)}{m:Array DictEntry}{ep:Nat}(ex:n.ExactDict)(dt:n.data=.dict m ep)
  (X:m.toList.map (·.key)=f.map λp=>Value.ref p.1):jT P w K tg (Uf a n r f) [it] it (λi h=>h.IsKeyIter it a i m.size ep) where
 mem:=em.mpr rfl
 obj:=λi h j b t=>by
  have e:b=it:=em.mp t;subst e;obtain⟨o,e,c,d⟩:=j;exact⟨o,e,λv z=>by rw[d] at z;cases z⟩
 keep:=λi h h' j k=>j.at λo e=>k it (em.mpr rfl) o e
 item:=by
  intro Y G U hK hc i aU s σ H E I C j hg;subst G U hK;obtain⟨hi,J⟩:=hg;have a0:m.size=f.length:=by
   have:=congrArg List.length X
   rwa [bh,bh,fM] at this
  obtain⟨eo,_⟩:=(show ba Y.prog Y.w H s.heap a (.frz n (.dT r)) from I.hok a _ J)
  obtain⟨Q,f1,f2,f3,f4,S⟩:=C it (em.mpr rfl);have u:m[i]?=some m[i]:=mf (by lia);have A:f[i]?=some f[i]:=bS hi;have x:m[i].key=Value.ref f[i].1:=by
   have q:=congrArg (λl=>l[i]?) X;simp only[fK,gR,u,A] at q;exact g7 q
  refine Dct.Rn j ⟨n,eo,ex,dt⟩ u λg y sb=>?_
  have I1:Inv Y aU σ H {s with heap:=g}:=I.turned (t':=s.toks) (λb o t e=>sb.extBut b o t e) Q f1 f3 f4 S;obtain⟨o,e,c,d⟩:=id y;exact⟨_,rfl,nL (s:={s with heap:=g}) e c d (by decide) ⟨.ref f[i].1,H,I1,x,⟨rfl,f[i],A,rfl⟩,y,λb t=>(C b t).1⟩⟩
 done:=by
  intro Y G U hK hc i aU s σ H E I C j hg;subst G U hK;obtain⟨hi,J⟩:=hg;have a0:m.size=f.length:=by
   have:=congrArg List.length X
   rwa [bh,bh,fM] at this
  obtain⟨eo,_⟩:=(show ba Y.prog Y.w H s.heap a (.frz n (.dT r)) from I.hok a _ J)
  obtain⟨Q,f1,f2,f3,f4,S⟩:=C it (em.mpr rfl);exact Dct.xX (I.ok.hd hc) j ⟨n,eo,ex,dt⟩ (by lia) λg eb=>⟨rfl,I.turned (t':=s.toks) (λb o t e=>eb b o t e) Q f1 f3 f4 S⟩
 self:=λ_ _ _ _ _ j h=>wpAny_pyIter_keyiter j h
def Qc(f:TE):TI:=λh H R=>f h H λx H1=>∃(a:Addr) (b:List (List cy×V)) (e:List (List Int)),x=.ref a/\H1 a=some (.dT b)/\b.map (·.1)=e.map (λg=>g.map Sum.inl) /\
 ∀(d:Obj) (c:List (Addr×List Int)),c.map (·.2)=e->(∀p∈c,H1 p.1=some (.tup (p.2.map V.int)))->R (Uf a d b c) (aZ H1 a (.frz d (.dT b)))
theorem Ki{X:Cx}{S l:Expr}{r:TE}(J:PE X l r):PI X S l (Qc r):=by
 intro Y s σ H R I h;refine bu (J Y s σ H _ I h) λv c i=>?_
 obtain⟨x,H1,t,U,q1⟩:=i;obtain⟨a,f,ks,rfl,u,G,q⟩:=q1;cases U;obtain⟨z,C,ys,d,k,E,ep,y,A,n,Q,e5⟩:=(show ba X.prog X.w H1 c.heap a (.dT f) from t.hok a _ u)
 obtain⟨m,a1,a2,a3⟩:=SB (P:=X.prog) (w:=X.w) d G;have g:E.toList.map (·.key)=m.map λp=>Value.ref p.1:=by rw[Q,eM];exact a3
 refine Dct.Rm C ⟨k,y,A,n⟩ ?_;have j:=t.freeze u y;refine⟨c.heap.objs.size,[c.heap.objs.size],_,_,_,rfl,j.kept (t':=c.toks) λb o e=>dC _ e,Ov A n g,⟨_,fL _ rfl,rfl,rfl⟩,λb hb=>?_,q k m a1 a2⟩;have e:b=c.heap.objs.size:=em.mp hb;subst e;exact j.fpOk (bj _) (j.hok.fresh (bj _))
end L2
namespace L2
open Spec PyProof.Rows PySem.W
noncomputable def fH(g:Heap) (b:List (Addr×List Int)):Prop:=∀ p∈b,∃(a:List Value) (o:Obj) (n:Nat),IntsAre a p.2/\g.get? p.1=some o/\o.cls=.type "tuple"/\o.data=.seq a.toArray n
theorem RS{a:Shared}:∀{ps:List (Addr×List Int)},fH a.heap ps->∃b:List (Option Value),b.map Option.isSome=ps.map (λp=>!p.2.isEmpty)/\∀(W:List (Option Value)->Shared->Prop),W b a->wpAny (model P w) B ((ps.map λp=>Value.ref p.1).mapM firstOfTuple') W E a
 |[],_=>⟨[],rfl,λW h=>by rw[CN,List.mapM_nil];exact ar h⟩
 |p::ps,h=>by
  obtain⟨b,m,j⟩:=RS (ps:=ps) λq k=>h q (bT _ k)
  obtain⟨f,o,n,c,d,l,g⟩:=h p dk;refine⟨f.toArray[0]?::b,?_,λW i=>?_⟩
  ·rw[ce,ce,m]
   congr 1
   obtain⟨s,u⟩:=p;dsimp only at c ⊢;cases c with
   |nil=>rfl
   |cons x t r=>rfl
  ·rw[ce,List.mapM_cons];have e:Looks (model P w) a.heap (typeOf (.ref p.1)) o.cls:=(Looks.ld d).andThen .now;refine ae ?_;rw[kas_first_eq];refine ae (Looks.here e ?_);rw[l,if_neg (by first|decide|simp)];exact ae (listItems_at d g (ar (ae (j _ (ar i)))))
theorem UB(x y:Value):keyLt' general' x y=oneLt' false x y:=rfl
theorem K2{B:Around}{sg:Shared}(h:κ=general'\/κ=oneType')(p:B.units<cLine) (y:fH sg.heap [a])(A:fH sg.heap [b]) (r:C (HT.lexLt a.2 b.2) sg):
  wpAny (model P w) B (keyLt' κ (.ref a.1) (.ref b.1)) C E sg:=by
 obtain⟨u,o,n,v,e,d,g⟩:=y a dk;obtain⟨c,x,q,m,s,j,k⟩:=A b dk;rcases h with rfl|rfl
 ·rw[UB];exact kat_one _ _ (HT.SL (items:=u.toArray) (items2:=c.toArray) ⟨o,e,d,n,g⟩ ⟨x,s,j,q,k⟩ v m p r)
 ·rw[keyLt'_oneType,oneLt'_eq];simp only[ite_true];refine ae (wpAny_cRoomFor p (ae (wpAny_callSpecialIfBound?_slot (T:="tuple") ⟨o,e,d⟩ Po ?_)))
  obtain⟨H,z,l,G⟩:=o;obtain⟨t,i,data2,f⟩:=x;dsimp only at d g j k;subst d g j k;exact rh Po ⟨_,e,rfl⟩ F.entry_tuple_lt (F.args_tuple_lt_2 _ _) (HT.TD a.1 b.1 u.toArray c.toArray n q z i G f a.2 b.2 v m) ⟨e,s,ox r⟩
theorem KZ{B:Around}{sg:Shared}(hu:B.units<cLine)(c:fH sg.heap a)(h:∃p∈a,p.2=[]):Srt.Answers P w B (Srt.dR (a.map (·.2))) (a.map λp=>Value.ref p.1) sg:=by
 obtain⟨G,f1,f2⟩:=RS (P:=P) (w:=w) (B:=B) (E:=λ_ _=>False) c;have b:¬ (G.toArray.all λx=>x.isSome)=true:=λz=>by
  have z':G.all (λx=>x.isSome)=true:=by simpa using z
  obtain⟨p,t,he⟩:=h;have m:(!p.2.isEmpty)∈G.map Option.isSome:=by rw[f1];exact List.mem_map_of_mem (f:=λp:Addr×List Int=>!p.2.isEmpty) t
  obtain⟨o,ho,e⟩:=bQ.mp m;have:=cZ.mp z' o ho;rw[e,he] at this;cases this
 have g:∀{A:SortKind},A=general'\/A=oneType'->∀i j C,i<(a.map λp=>Value.ref p.1).length->j<(a.map λp=>Value.ref p.1).length->C (Srt.lt (Srt.dR (a.map (·.2))) i j) sg->kas_ask P w B A (a.map λp=>Value.ref p.1) i j C sg:=λ{A} I i j C u y S=>by
  rw[bh] at u y;have X:a[i]?=some a[i]:=bS u;have Q:a[j]?=some a[j]:=bS y;unfold kas_ask;rw[zm (λp:Addr×List Int=>Value.ref p.1) _ X,zm (λp:Addr×List Int=>Value.ref p.1) _ Q];rw[Srt.uP (by rw[bh];exact u) (by rw[bh];exact y),zm (λp:Addr×List Int=>p.2) _ X,zm (λp:Addr×List Int=>p.2) _ Q] at S;have l:∀k,(U:k<a.length)->fH sg.heap [a[k]]:=λk U q hq=>by
   rw[em.mp hq];exact c _ (fZ U)
  exact K2 I hu (l i u) (l j y) S
 by_cases fst:(G.toArray[0]?.bind id).isSome=true
 ·refine⟨general',λR J=>?_,g (.inl rfl)⟩;rw[kat_kind_eq,O6,OR];refine ae (ae (f2 _ (ar ?_)));rw[if_neg b,if_pos fst];exact ar J
 ·refine⟨oneType',λR J=>?_,g (.inr rfl)⟩;rw[kat_kind_eq,O6,OR];refine ae (ae (f2 _ (ar ?_)));rw[if_neg b,if_neg fst,oneTypeOnly'_eq,O6,OR];have ty:∀ v∈(a.map λp=>Value.ref p.1),∀ W:Value->Shared->Prop,W (.type "tuple") sg->wpAny (model P w) B (typeOf v) W (λ_ _=>False) sg:=λv hv W hW=>by
   obtain⟨p,t,rfl⟩:=bQ.mp hv;obtain⟨us,o,n,a1,a2,a3,a4⟩:=c p t;have Y:Looks (model P w) sg.heap (typeOf (.ref p.1)) o.cls:=(Looks.ld a2).andThen .now;rw[a3] at Y;exact Y.here hW
  refine ae (ae (ae (kas_mapM (r:=Value.type "tuple") _ ty (ar ?_))))
  obtain⟨p,t,_⟩:=h;obtain⟨d,rest,rfl⟩:∃d rest,a=d::rest:=by
   cases a with
   |nil=>exact nomatch t
   |cons d rest=>exact⟨d,rest,rfl⟩
  have H:((List.map (λ_=>Value.type "tuple") ((d::rest).map λp=>Value.ref p.1)).toArray.all λx=>x==Value.type "tuple")=true:=by
   rw[List.all_toArray,cZ];intro x hx;obtain⟨_,_,rfl⟩:=bQ.mp hx
   rfl
  have s:(List.map (λ_=>Value.type "tuple") ((d::rest).map λp=>Value.ref p.1)).toArray[0]?=some (Value.type "tuple"):=by simp
  rw[s];simp only[H,ite_true];exact ar (ar J)
theorem xa{B:Around}{sg:Shared}{b:List (Addr×List Int)}(l:B.units<cLine)(g:2<=b.length)(a:fH sg.heap b):Srt.Answers P w B (Srt.dR (b.map (·.2))) (b.map λp=>Value.ref p.1) sg:=by
 by_cases c:∃p∈b,p.2=[]
 ·exact KZ l a c
 ·refine K0 g λi p j=>?_
  have d:=dY j;obtain⟨e,o,n,h,k,m,f⟩:=a p d;exact⟨e,o,n,h,k,m,f,λz=>c ⟨p,d,z⟩⟩
theorem Tv(z:List (Addr×List Int)):am (z.map λp=>V.ref p.1) (z.map λp=>Value.ref p.1):=by
 induction z with
 |nil=>exact .nil
 |cons x z ih=>exact .cons rfl ih
end L2
namespace TS
open PyProof.Rows
noncomputable def kA(R:Keyed->Nat) (a:Array Keyed) (i:Nat):Nat:=match a[i]? with
 |some p=>R p
 |none=>0
theorem nD(h:xs[i]?=ys[j]?):kA R xs i=kA R ys j:=by unfold kA;rw[h]
theorem iN(h:xs[i]?=some x):kA R xs i=R x:=by unfold kA;rw[h]
def eT(R:Keyed->Nat) (c:Array Keyed) (a b:Nat):Prop:=∀i j,a<=i->i<=j->j<b->kA R c i<=kA R c j
def sJ(R:Keyed->Nat) (c:Array Keyed) (a b:Nat):Prop:=∀i j,a<=i->i<=j->j<b->kA R c j<=kA R c i
noncomputable def kB(b:Program) (w:World) (A:Around) (s:Shared) (c:SortKind) (a:Array Keyed) (R:Keyed->Nat):Prop:=
 ∀x,x∈a.toList->∀y,y∈a.toList->∀(C:Bool->Shared->Prop),C (decide (R x<R y)) s->wpAny (model b w) A (keyLt' c x.1 y.1) C (λ_ _=>False) s
structure B (κ:SortKind) (a₀:Array Keyed) (au:SortSt):Prop where
 perm:(arrOf au).Perm a₀
 kind:kindOf au=κ
 failed:failedOf au=none
section
variable {κ:SortKind}{a₀:Array Keyed}
theorem B.size{a:SortSt}(h:B κ a₀ a):(arrOf a).size=a₀.size:=h.perm.size_eq
theorem B.set{a:SortSt}(h:B κ a₀ a){b:Array Keyed}(c:b.Perm (arrOf a)):B κ a₀ (setArr a b):=⟨c.trans h.perm,h.kind,h.failed⟩
theorem B.mem{b:SortSt}(h:B κ a₀ b){i:Nat}(c:i<a₀.size):∃x,(arrOf b)[i]?=some x/\x∈a₀.toList:=by
 have a:i<(arrOf b).size:=by rw[h.size];exact c
 exact⟨_,getElem?_pos _ i a,(ur.mp h.perm).mem_iff.mp (by simp)⟩
end
section
variable {prog:Program}{w:World}{A:Around}{E:Value->Shared->Prop}{s:Shared}{κ:SortKind}{a₀:Array Keyed}{R:Keyed->Nat}
theorem w_lt{x y:Keyed}{au:SortSt}{Q:Option Bool->SortSt->Prop}(O:kB prog w A s κ a₀ R)(g:kindOf au=κ)(d:x∈a₀.toList)(e:y∈a₀.toList)(h:Q (some (decide (R x<R y))) au):wpS (model prog w) A E s (lt' x y) Q au:=by
 rw[lt'_eq];refine bg (kQ ?_);rw[g];refine bg (pA (yu (iq (O x d y e (λb a=>a=s/\b=decide (R x<R y)) ⟨rfl,rfl⟩) (λb a c=>?_) λ_ _ f=>f.elim)));obtain⟨rfl,rfl⟩:=c;exact⟨rfl,bp h⟩
end
section
variable {prog:Program}{w:World}{A:Around}{E:Value->Shared->Prop}{s:Shared}
theorem ph{a:Array Keyed}{i:Nat}{x:Keyed}{au:SortSt}{Q:Keyed->SortSt->Prop}(e:a[i]?=some x)(h:Q x au):wpS (model prog w) A E s (elem' a i) Q au:=by
 rw[elem'_eq,e];exact bp h
end
section
variable {prog:Program}{w:World}{A:Around}{E:Value->Shared->Prop}{s:Shared}{κ:SortKind}{a₀:Array Keyed}{R:Keyed->Nat}
theorem qk{i j:Nat}{au:SortSt}{Q:Option Bool->SortSt->Prop}(O:kB prog w A s κ a₀ R)(b:B κ a₀ au)(f:i<a₀.size)(e:j<a₀.size)(h:Q (some (decide (kA R (arrOf au) i<kA R (arrOf au) j))) au):wpS (model prog w) A E s (ltAt' i j) Q au:=by
 obtain⟨x,a,d⟩:=b.mem f;obtain⟨y,c,g⟩:=b.mem e;rw[iN a,iN c] at h;rw[ltAt'_eq];exact bg (kQ (bg (ph a (bg (ph c (w_lt O b.kind d g h))))))
end
section
variable {prog:Program}{w:World}{A:Around}{E:Value->Shared->Prop}{s:Shared}
theorem io{i j:Nat}{au:SortSt}{Q:Unit->SortSt->Prop}(h:Q () (setArr au (mirror (arrOf au) i j ((j-i)/2)))):wpS (model prog w) A E s (reverseSlice' i j) Q au:=by
 rw[reverseSlice'_eq];exact l4 h
theorem ID{i j:Nat}{au:SortSt}{Q:Unit->SortSt->Prop}(h:Q () (setArr au (bubble (arrOf au) i (i-j)))):wpS (model prog w) A E s (moveDown' i j) Q au:=by
 rw[moveDown'_eq];exact l4 h
end
theorem kH{lo x n N:Nat}(h:x<n)(a:lo+n<=N):lo+x<N:=da (nc h lo) a
theorem kI{lo x n N:Nat}(h:x<n)(a:lo+n<=N):lo+x-1<N:=iZ (lD _ _) (kH h a)
theorem D8{lo n:Nat}(h:1<=n):lo+n-1<lo+n:=oh (da h (OP _ _)) Nat.one_pos
theorem nN{j lo n:Nat}(h:j<lo+(n+1))(e:¬j=lo+n):j<lo+n:=jC (hX h) e
theorem wx(a:k<j):i<=i+j-1-k:=Nat.le_sub_of_add_le (kW (nc a i))
theorem ww(a:i<=k)(b:k<j):i+j-1-k<j:=iZ (uh a _) (by rw[Nat.sub_right_comm,lL];exact oh (C8 b) Nat.one_pos)
theorem EX{a:Array Keyed}(b:j<=a.size)(k:Nat):kA R (mirror a i j ((j-i)/2)) k=if i<=k/\k<j then kA R a (i+j-1-k) else kA R a k:=by
 have e:=getElem?_mirror_all (i:=i) b k;split
 ·rename_i c;rw[if_pos c] at e;exact nD e
 ·rename_i c;rw[if_neg c] at e;exact nD e
noncomputable def dZ(c d:Array Keyed) (a b:Nat):Prop:=∀k,k<a\/b<=k->c[k]?=d[k]?
theorem dZ.refl(c:Array Keyed)(a b:Nat):dZ c c a b:=λ_ _=>rfl
theorem dZ.trans(d:dZ xs ys a b)(e:dZ ys zs a b):dZ xs zs a b:=λk c=>(d k c).trans (e k c)
theorem dZ.mirror{c:Array Keyed}(e:j<=c.size)(f:a<=i)(d:j<=b):dZ (mirror c i j ((j-i)/2)) c a b:=λk g=>by
 rw[getElem?_mirror_all (i:=i) e k,if_neg λz=>g.elim (λh=>md (ax f z.1) h) λh=>md (ax d h) z.2]
theorem dZ.bubble{c:Array Keyed}(i:src<c.size)(j:d<=src)(f:a<=src-d)(e:src<b):dZ (bubble c src d) c a b:=λk g=>by
 rw[getElem?_bubble i d j k,if_neg λz=>g.elim (λh=>md (ax f (gO z.symm)) h) λh=>md h (iZ (ax (gO z) (lD _ _)) e),if_neg λz=>g.elim (λh=>md (ax f (dg z.1)) h) λh=>md h (iZ z.2 e)]
structure Sm (au st':SortSt) (a b:Nat):Prop where
 out:dZ (arrOf st') (arrOf au) a b
 pend:pendingOf st'=pendingOf au
section
variable {prog:Program}{w:World}{A:Around}{E:Value->Shared->Prop}{s:Shared}{κ:SortKind}{a₀:Array Keyed}{R:Keyed->Nat}
theorem lZ{lo a d:Nat}{au:SortSt}{Q:Option (Option Nat)×Nat->SortSt->Prop}(O:kB prog w A s κ a₀ R)(b:B κ a₀ au)(o:lo+d<=a₀.size)(u:1<=a)(k:a<=d)(v:eT R (arrOf au) lo (lo+a))
  (h:∀n,a<=n->n<=d->eT R (arrOf au) lo (lo+n)->(n=d\/kA R (arrOf au) (lo+n)<kA R (arrOf au) (lo+n-1))->Q (none,n) au):
  wpS (model prog w) A E s (forIn [a:d] ((none,a):Option (Option Nat)×Nat) λ_ r=>do
   let x ←ltAt' (lo+r.2) (lo+r.2-1)
   match x with
   |some smaller=>if smaller=true then pure (ForInStep.done (none,r.2)) else pure (ForInStep.yield (none,r.2+1))
   |_=>pure (ForInStep.done (some none,r.2))) Q au:=by
 refine iu (I:=λx c f=>f=au/\c=(none,x)/\eT R (arrOf au) lo (lo+x)) ?_ ?_ ⟨rfl,rfl,v⟩
 ·rintro x c f q m ⟨rfl,rfl,g⟩;dsimp only;refine bg (qk O b (kH m o) (kI m o) ?_);by_cases c:kA R (arrOf f) (lo+x)<kA R (arrOf f) (lo+x-1)
  ·simp only[c,pB,gt];exact bp (h x q (dg m) g (.inr c))
  ·simp only[c,pD,jo,gj];refine bp ⟨rfl,rfl,λi j p l t=>?_⟩;by_cases e:j=lo+x
   ·subst e;by_cases e2:i=lo+x
    ·rw[e2];exact bj _
    ·exact ax (g i (lo+x-1) p (kW (jC l e2)) (D8 (ax u q))) (fJ c)
   ·exact g i j p l (nN t e)
 ·rintro c f ⟨rfl,rfl,g⟩;rw[OW k] at g ⊢;exact h d k (bj _) g (.inl rfl)
end
theorem Tr{xs:Array Keyed}{i j:Nat}(b:j<=xs.size)(a:∀k,i<=k->k<j->kA R xs k=kA R xs (j-1))(k:Nat):kA R (mirror xs i j ((j-i)/2)) k=kA R xs k:=by
 rw[EX b];split
 ·rename_i c;rw[a _ (wx c.2) (ww c.1 c.2),a k c.1 c.2]
 ·rfl
structure Fl (κ:SortKind) (a₀:Array Keyed) (R:Keyed->Nat) (st₀ au:SortSt) (lo n neq b:Nat):Prop where
 base:B κ a₀ au
 same:Sm st₀ au lo b
 dn:sJ R (arrOf au) lo (lo+n)
 hq:neq+1<=n
 eqs:∀i,lo+n-(neq+1)<=i->i<lo+n->kA R (arrOf au) i=kA R (arrOf au) (lo+n-1)
section
variable {κ:SortKind}{a₀:Array Keyed}{R:Keyed->Nat}
theorem Fl.turn{c d:SortSt}{lo n a b:Nat}(h:Fl κ a₀ R c d lo n a b)(m:lo+n<=b)(o:b<=a₀.size):
  Fl κ a₀ R c (setArr d (mirror (arrOf d) (lo+n-(a+1)) (lo+n) ((lo+n-(lo+n-(a+1)))/2))) lo n a b/\∀k,kA R (mirror (arrOf d) (lo+n-(a+1)) (lo+n) ((lo+n-(lo+n-(a+1)))/2)) k=kA R (arrOf d) k:=by
 have r:=h.base.size;have p:=h.hq;have f:lo+n<=(arrOf d).size:=by rw[r];exact ax m o
 have e:=Tr (R:=R) (xs:=arrOf d) (i:=lo+n-(a+1)) (j:=lo+n) f h.eqs;refine⟨⟨h.base.set (mirror_perm _ _ _ _),⟨(dZ.mirror f (Nat.le_sub_of_add_le (g8 p lo)) m).trans h.same.out,h.same.pend⟩,λi j g l q=>?_,h.hq,λi g l=>?_⟩,e⟩
 ·show kA R (mirror _ _ _ _) j<=kA R (mirror _ _ _ _) i;rw[e,e];exact h.dn i j g l q
 ·show kA R (mirror _ _ _ _) i=kA R (mirror _ _ _ _) _;rw[e,e];exact h.eqs i g l
theorem Fl.less{a f:SortSt}{lo n d b:Nat}(h:Fl κ a₀ R a f lo n d b)(c:kA R (arrOf f) (lo+n)<=kA R (arrOf f) (lo+n-1)):sJ R (arrOf f) lo (lo+(n+1)):=λi j g k m=>by
 have l:=h.hq;by_cases e:j=lo+n
 ·subst e;by_cases e2:i=lo+n
  ·rw[e2];exact bj _
  ·exact ax c (h.dn i (lo+n-1) g (kW (jC k e2)) (D8 (ax (OP 1 d) l)))
 ·exact h.dn i j g k (nN m e)
theorem Fl.fresh{a d:SortSt}{lo n e b:Nat}(h:Fl κ a₀ R a d lo n e b)(c:kA R (arrOf d) (lo+n)<=kA R (arrOf d) (lo+n-1)):Fl κ a₀ R a d lo (n+1) 0 b:=⟨h.base,h.same,h.less c,ot (ir _),λi f g=>by
 have:i=lo+(n+1)-1:=j7 (hX g) f
 rw[this]⟩
theorem Fl.more{a f:SortSt}{lo n d b:Nat}(h:Fl κ a₀ R a f lo n d b)(c:kA R (arrOf f) (lo+n)=kA R (arrOf f) (lo+n-1)):Fl κ a₀ R a f lo (n+1) (d+1) b:=by
 have j:=h.hq;refine⟨h.base,h.same,h.less (gO c),ot j,λi g k=>?_⟩;rw[show lo+(n+1)-1=lo+n from rfl];by_cases e:i=lo+n
 ·rw[e]
 ·rw[c];exact h.eqs i (ax (gO (Nat.succ_sub_succ (lo+n) (d+1)).symm) g) (nN k e)
end
section
variable {prog:Program}{w:World}{A:Around}{E:Value->Shared->Prop}{s:Shared}{κ:SortKind}{a₀:Array Keyed}{R:Keyed->Nat}
theorem KL{lo nrem:Nat}{au:SortSt}{Q:Option Nat->SortSt->Prop}(O:kB prog w A s κ a₀ R)(b:B κ a₀ au)(p:lo+nrem<=a₀.size)(h1:1<=nrem)
  (h:∀m a,1<=m->m<=nrem->B κ a₀ a->Sm au a lo (lo+nrem)->eT R (arrOf a) lo (lo+m)->Q (some m) a):wpS (model prog w) A E s (countRun' lo nrem) Q au:=by
 have a0:Sm au au lo (lo+nrem):=⟨dZ.refl _ _ _,rfl⟩
 have a7:∀S:Array Keyed,eT R S lo (lo+1):=λS i j l g H=>by
  have:i=j:=j7 g (ax (hX H) l);subst this;exact bj _
 have a9:∀S:Array Keyed,sJ R S lo (lo+1):=λS i j l g H=>by
  have:i=j:=j7 g (ax (hX H) l);subst this;exact bj _
 rw[countRun'_eq];dsimp only;refine bg (lZ O b p (bj _) h1 (a7 _) λn n1 n2 hu a4=>?_);dsimp only;split
 ·exact bp (h n au n1 n2 b a0 hu)
 rename_i a6;have U:n≠nrem:=λz=>a6 (by simp[z])
 have v:n<nrem:=jC n2 U;have hl:kA R (arrOf au) (lo+n)<kA R (arrOf au) (lo+n-1):=by
  rcases a4 with z|z
  ·exact absurd z U
  ·exact z
 have hz:=b.size;have P:∀(n:Nat) (o:SortSt),B κ a₀ o->Sm au o lo (lo+nrem)->1<=n->n<=nrem->sJ R (arrOf o) lo (lo+n) ->
   B κ a₀ (setArr o (mirror (arrOf o) lo (lo+n) ((lo+n-lo)/2)))/\Sm au (setArr o (mirror (arrOf o) lo (lo+n) ((lo+n-lo)/2))) lo (lo+nrem)/\eT R (mirror (arrOf o) lo (lo+n) ((lo+n-lo)/2)) lo (lo+n):=λn o Y q X J t=>by
  have hz:=Y.size;have hm:=g8 J lo;have u:lo+n<=(arrOf o).size:=by rw[hz];exact ax hm p
  refine⟨Y.set (mirror_perm _ _ _ _),⟨(dZ.mirror u (bj _) hm).trans q.out,q.pend⟩,λi j l g H=>?_⟩;have hi:=iZ g H;rw[EX u,EX u,if_pos ⟨l,hi⟩,if_pos ⟨ax l g,H⟩];exact t _ _ (wx H) (uh g _) (ww l hi)
 have G:¬ kA R (arrOf au) lo<kA R (arrOf au) (lo+n-1)->∀k,lo<=k->k<lo+n->kA R (arrOf au) k=kA R (arrOf au) (lo+n-1):=λc k k1 k2=>by
  have g1:=hu lo k (bj _) k1 k2;have g2:=hu k (lo+n-1) k1 (kW k2) (D8 n1);exact j7 g2 (ax (fJ c) g1)
 have a5:∀S:Array Keyed,(∀k,kA R S k=kA R (arrOf au) k)->¬ kA R (arrOf au) lo<kA R (arrOf au) (lo+n-1)->sJ R S lo (lo+(n+1)):=λS e c i j l g H=>by
  rw[e,e];by_cases e2:j=lo+n
  ·subst e2;by_cases e3:i=lo+n
   ·rw[e3];exact bj _
   ·rw[G c i l (jC g e3)];exact dg hl
  ·have jn:=nN H e2;rw[G c i l (iZ g jn),G c j (ax l g) jn];exact bj _
 split
 ·have u:lo+n<=(arrOf au).size:=by rw[hz];exact ax (g8 n2 lo) p
  refine bg (qk O b (da (Dx h1) p) (kI v p) ?_);by_cases c:kA R (arrOf au) lo<kA R (arrOf au) (lo+n-1)
  ·simp only[c,pB,gt];exact bp (h n au n1 n2 b a0 hu)
  ·simp only[c,pD,jo,gj];refine bg (io ?_);have Y:B κ a₀ (setArr au (mirror (arrOf au) lo (lo+n) ((lo+n-lo)/2))):=b.set (mirror_perm _ _ _ _);have q:Sm au (setArr au (mirror (arrOf au) lo (lo+n) ((lo+n-lo)/2))) lo (lo+nrem):=⟨dZ.mirror u (bj _) (g8 n2 lo),rfl⟩
   have t:sJ R (arrOf (setArr au (mirror (arrOf au) lo (lo+n) ((lo+n-lo)/2)))) lo (lo+(n+1)):=a5 _ (Tr u (G c)) c;generalize (setArr au (mirror (arrOf au) lo (lo+n) ((lo+n-lo)/2)))=o at Y q t ⊢;refine bg (pA (og ⟨rfl,?_⟩));refine bg (iS (iu (I:=λx c a=>∃d,c=(none,x,d)/\Fl κ a₀ R au a lo x d (lo+nrem)) (Q:=λc a=>∃m d,c=(none,m,d)/\n+1<=m/\m<=nrem/\Fl κ a₀ R au a lo m d (lo+nrem)) ?_ ?_ ?_) ?_)
   ·rintro x c a l g ⟨d,rfl,f⟩;dsimp only;refine bg (qk O f.base (kH g p) (kI g p) ?_);by_cases c:kA R (arrOf a) (lo+x)<kA R (arrOf a) (lo+x-1)
    ·simp only[c,pB,gt];split
     ·obtain⟨y,e⟩:=f.turn (g8 (dg g) lo) p;refine bg (io (bp ⟨0,rfl,y.fresh ?_⟩));refine dg (?_:kA R (mirror _ _ _ _) _<kA R (mirror _ _ _ _) _);rw[e,e];exact c
     ·exact bp ⟨0,rfl,f.fresh (dg c)⟩
    ·simp only[c,pD,jo,gj];refine bg (qk O f.base (kI g p) (kH g p) ?_);by_cases c2:kA R (arrOf a) (lo+x-1)<kA R (arrOf a) (lo+x)
     ·simp only[c2,pB,gt];exact bp ⟨x,d,rfl,l,dg g,f⟩
     ·simp only[c2,pD,jo,gj];exact bp ⟨d+1,rfl,f.more (j7 (fJ c2) (fJ c))⟩
   ·rintro c a ⟨d,rfl,f⟩;rw[OW v] at f ⊢;exact⟨nrem,d,rfl,v,bj _,f⟩
   ·exact⟨0,rfl,Y,q,t,ot (ir _),λi g1 g2=>by
     have:i=lo+(n+1)-1:=j7 (hX g2) g1
     rw[this]⟩
   ·rintro c a ⟨m,d,rfl,l,g,f⟩;dsimp only;split
    ·obtain⟨y,e⟩:=f.turn (g8 g lo) p;refine bg (io (bg (io ?_)));obtain⟨C,s3,u3⟩:=P m _ y.base y.same (lJ l) g y.dn;exact bg (lZ O C p (lJ l) g u3 λm' X J r _=>bp (h m' _ (ax (lJ l) X) J C s3 r))
    ·refine bg (io ?_);obtain⟨C,s3,u3⟩:=P m _ f.base f.same (lJ l) g f.dn;exact bg (lZ O C p (lJ l) g u3 λm' X J r _=>bp (h m' _ (ax (lJ l) X) J C s3 r))
 ·rename_i a8;have Y:=b;have q:=a0
  have t:sJ R (arrOf au) lo (lo+(n+1)):=a5 _ (λ_=>rfl) (by
   have:n=1:=j7 (fJ a8) n1;subst this
   simp)
  refine bg (pA (og ⟨rfl,?_⟩));refine bg (iS (iu (I:=λx c a=>∃d,c=(none,x,d)/\Fl κ a₀ R au a lo x d (lo+nrem)) (Q:=λc a=>∃m d,c=(none,m,d)/\n+1<=m/\m<=nrem/\Fl κ a₀ R au a lo m d (lo+nrem)) ?_ ?_ ?_) ?_)
  ·rintro x c a l g ⟨d,rfl,f⟩;dsimp only;refine bg (qk O f.base (kH g p) (kI g p) ?_);by_cases c:kA R (arrOf a) (lo+x)<kA R (arrOf a) (lo+x-1)
   ·simp only[c,pB,gt];split
    ·obtain⟨y,e⟩:=f.turn (g8 (dg g) lo) p;refine bg (io (bp ⟨0,rfl,y.fresh ?_⟩));refine dg (?_:kA R (mirror _ _ _ _) _<kA R (mirror _ _ _ _) _);rw[e,e];exact c
    ·exact bp ⟨0,rfl,f.fresh (dg c)⟩
   ·simp only[c,pD,jo,gj];refine bg (qk O f.base (kI g p) (kH g p) ?_);by_cases c2:kA R (arrOf a) (lo+x-1)<kA R (arrOf a) (lo+x)
    ·simp only[c2,pB,gt];exact bp ⟨x,d,rfl,l,dg g,f⟩
    ·simp only[c2,pD,jo,gj];exact bp ⟨d+1,rfl,f.more (j7 (fJ c2) (fJ c))⟩
  ·rintro c a ⟨d,rfl,f⟩;rw[OW v] at f ⊢;exact⟨nrem,d,rfl,v,bj _,f⟩
  ·exact⟨0,rfl,Y,q,t,ot (ir _),λi g1 g2=>by
    have:i=lo+(n+1)-1:=j7 (hX g2) g1
    rw[this]⟩
  ·rintro c a ⟨m,d,rfl,l,g,f⟩;dsimp only;split
   ·obtain⟨y,e⟩:=f.turn (g8 g lo) p;refine bg (io (bg (io ?_)));obtain⟨C,s3,u3⟩:=P m _ y.base y.same (lJ l) g y.dn;exact bg (lZ O C p (lJ l) g u3 λm' X J r _=>bp (h m' _ (ax (lJ l) X) J C s3 r))
   ·refine bg (io ?_);obtain⟨C,s3,u3⟩:=P m _ f.base f.same (lJ l) g f.dn;exact bg (lZ O C p (lJ l) g u3 λm' X J r _=>bp (h m' _ (ax (lJ l) X) J C s3 r))
end
theorem RW{a:Array Keyed}(g:src<a.size)(f:d<=src)(k:Nat):kA R (bubble a src d) k=if k=src-d then kA R a src else if src-d<k/\k<=src then kA R a (k-1) else kA R a k:=by
 have e:=getElem?_bubble g d f k;split
 ·rename_i c;rw[if_pos c] at e;exact nD e
 ·rename_i c;rw[if_neg c] at e;split
  ·rename_i b;rw[if_pos b] at e;exact nD e
  ·rename_i b;rw[if_neg b] at e;exact nD e
theorem E1(c:a<=b)(h:b-a<=n-max 0 n):b=a:=by
 rw[Nat.zero_max,rm] at h;exact j7 (Nat.le_of_sub_eq_zero (Nat.le_zero.mp h)) c
theorem qF(h:¬l ≥ r):l<=(l+r)/2:=(Nat.le_div_iff_mul_le CG).mpr (by rw[Nat.mul_two];exact g8 (dg (pL h)) l)
theorem nM(h:¬l ≥ r):(l+r)/2<r:=(Nat.div_lt_iff_lt_mul CG).mpr (by rw[Nat.mul_two];exact Nat.add_lt_add_right (pL h) r)
theorem Qe(h:¬l ≥ r)(g:r-l<=k-x):(l+r)/2-l<=k-(x+1):=ax (kW (oC (qF h) (nM h))) (rK g 1)
theorem Qd(h:¬l ≥ r)(g:r-l<=k-x):r-((l+r)/2+1)<=k-(x+1):=ax (uh (ot (qF h)) r) (rK g 1)
theorem qX(h:p<j)(a:j<=q):j-1<q:=da (oh (C8 h) Nat.one_pos) a
section
variable {prog:Program}{w:World}{A:Around}{E:Value->Shared->Prop}{s:Shared}{κ:SortKind}{a₀:Array Keyed}{R:Keyed->Nat}
theorem Gp{lo n H:Nat}{au:SortSt}{Q:Bool->SortSt->Prop}(O:kB prog w A s κ a₀ R)(b:B κ a₀ au)(hn:lo+n<=a₀.size)(h1:1<=H)(h2:H<=n)(up:eT R (arrOf au) lo (lo+H))
  (h:∀a,B κ a₀ a->Sm au a lo (lo+n)->eT R (arrOf a) lo (lo+n)->Q true a):wpS (model prog w) A E s (binarySort' lo n H) Q au:=by
 rw[binarySort'_eq]
 refine bg (iS (iu (I:=λk c a=>c=(none,())/\B κ a₀ a/\Sm au a lo (lo+n)/\eT R (arrOf a) lo (lo+min k n))
  (Q:=λc a=>c=(none,())/\B κ a₀ a/\Sm au a lo (lo+n)/\eT R (arrOf a) lo (lo+n)) ?_ ?_ ?_) ?_)
 ·rintro k c a k1 S ⟨rfl,p,f,up1⟩;rw[j6 (dg S)] at up1;have hz:=p.size;have hk:lo+k<a₀.size:=da (nc S lo) hn
  refine bg (iS (iu (I:=λx c d=>d=a/\∃l r,c=(none,l,r)/\l<=r/\r<=k/\r-l<=k-x/\(∀i,i<l->kA R (arrOf a) (lo+i)<=kA R (arrOf a) (lo+k))/\(∀i,r<=i->i<k->kA R (arrOf a) (lo+k)<=kA R (arrOf a) (lo+i)))
   (Q:=λc d=>d=a/\∃l r,c=(none,l,r)/\l<=k/\(∀i,i<l->kA R (arrOf a) (lo+i)<=kA R (arrOf a) (lo+k))/\(∀i,l<=i->i<k->kA R (arrOf a) (lo+k)<=kA R (arrOf a) (lo+i))) ?_ ?_ ?_) ?_)
  ·rintro x c d x1 x2 ⟨rfl,l,r,rfl,y,o,v,J,P⟩;dsimp only;by_cases hge:l ≥ r
   ·rw[if_pos hge];have e:l=r:=j7 y hge;subst e;exact bp ⟨rfl,l,l,rfl,o,J,P⟩
   ·have hm:lo+(l+r)/2<lo+k:=nc (da (nM hge) o) lo;rw[if_neg hge];refine bg (qk O p hk (ro hm hk) ?_);by_cases c:kA R (arrOf d) (lo+k)<kA R (arrOf d) (lo+(l+r)/2)
    ·simp only[c,pB,gt];exact bp ⟨rfl,l,(l+r)/2,rfl,qF hge,ax (dg (nM hge)) o,Qe hge v,J,λi g m=>ax (dg c) (up1 _ _ (fe _ _) (g8 g lo) (nc m lo))⟩
    ·simp only[c,pD,jo,gj];exact bp ⟨rfl,(l+r)/2+1,r,rfl,nM hge,o,Qd hge v,λi g=>ax (up1 (lo+i) (lo+(l+r)/2) (fe _ _) (g8 (hX g) lo) hm) (fJ c),P⟩
  ·rintro c d ⟨rfl,l,r,rfl,y,o,v,J,P⟩;have e:=E1 y v;subst e;exact⟨rfl,_,_,rfl,o,J,P⟩
  ·exact⟨rfl,0,k,rfl,ir _,bj _,bj _,λi hi=>absurd hi (OO _),λi g m=>absurd m (md g)⟩
  ·rintro c d ⟨rfl,l,r,rfl,y,o,v⟩;dsimp only;have hd:lo+k-(lo+k-(lo+l))=lo+l:=Nat.sub_sub_self (g8 y lo);have U:lo+k<(arrOf d).size:=by rw[hz];exact hk
   refine bg (ID (bp ⟨rfl,p.set (bubble_perm _ _ _),⟨(dZ.bubble U (lD _ _) (by rw[hd];exact fe _ _) (nc S lo)).trans f.out,f.pend⟩,λi j g m G=>?_⟩));show kA R (bubble (arrOf d) (lo+k) (lo+k-(lo+l))) i<=kA R (bubble (arrOf d) (lo+k) (lo+k-(lo+l))) j;rw[RW U (lD _ _),RW U (lD _ _),hd];rw[j6 S] at G;have t:j<=lo+k:=hX G;have X:∀q,lo<=q->q<lo+l->kA R (arrOf d) q<=kA R (arrOf d) (lo+k):=λq C Y=>by
    have:=o (q-lo) (oE C Y);rw[gQ C] at this;exact this
   have a0:∀q,lo+l<=q->q<lo+k->kA R (arrOf d) (lo+k)<=kA R (arrOf d) q:=λq C Y=>by
    have q0:=ax (fe _ _) C;have:=v (q-lo) (pT C) (oE q0 Y);rw[gQ q0] at this;exact this
   by_cases i1:i=lo+l
   ·rw[if_pos i1];by_cases j1:j=lo+l
    ·rw[if_pos j1];exact bj _
    ·have u:=jC (i1 ▸ m) (fO j1);rw[if_neg j1,if_pos ⟨u,t⟩];exact a0 _ (kW u) (qX u t)
   ·rw[if_neg i1];by_cases i2:lo+l<i/\i<=lo+k
    ·have u:=da i2.1 m;rw[if_pos i2,if_neg (yt u),if_pos ⟨u,t⟩];exact up1 _ _ (ax (fe lo l) (kW i2.1)) (rK m 1) (qX u t)
    ·have il:i<lo+l:=jC (fJ λz=>i2 ⟨z,ax m t⟩) i1;rw[if_neg i2];by_cases j1:j=lo+l
     ·rw[if_pos j1];exact X i g il
     ·rw[if_neg j1];by_cases j2:lo+l<j/\j<=lo+k
      ·rw[if_pos j2];exact up1 _ _ g (kW (ro il j2.1)) (qX j2.1 t)
      ·rw[if_neg j2];exact up1 _ _ g m (da (jC (fJ λz=>j2 ⟨z,t⟩) j1) (g8 y lo))
 ·rintro c a ⟨rfl,p,f,up1⟩;rw[yE (Nat.le_max_right _ _)] at up1;exact⟨rfl,p,f,up1⟩
 ·refine⟨rfl,b,⟨dZ.refl _ _ _,rfl⟩,λi j g m G=>up i j g m (da G (g8 (ax (rB _ _) (gO (Nat.max_eq_left h1))) lo))⟩
 ·rintro c a ⟨rfl,p,f,up1⟩;exact bp (h a p f up1)
end
noncomputable def oY:Bool->Keyed->Array Keyed->Nat->Nat->Nat->StateT SortSt Sem (Option Nat):=sortPriv% PySem.Builtin.gallop
def nq(left:Bool) (R:Keyed->Nat) (b:Keyed) (c:Array Keyed) (a n h:Nat):Prop:=h<=n/\(∀i,i<h->if left then kA R c (a+i)<R b else kA R c (a+i)<=R b)/\(∀i,h<=i->i<n->if left then R b<=kA R c (a+i) else R b<kA R c (a+i))
def ahead(left:Bool) (R:Keyed->Nat) (b:Keyed) (c:Array Keyed) (a i:Nat):Bool:=if left then decide (kA R c (a+i)<R b) else decide (kA R c (a+i)<=R b)
section
variable {prog:Program}{w:World}{A:Around}{E:Value->Shared->Prop}{s:Shared}{κ:SortKind}{a₀:Array Keyed}{R:Keyed->Nat}
theorem uT{left:Bool}{a:Keyed}{d:Array Keyed}{b i:Nat}{au:SortSt}{Q:Option Bool->SortSt->Prop}(O:kB prog w A s κ a₀ R)(g:kindOf au=κ)(f:a∈a₀.toList)(j:∃x,d[b+i]?=some x/\x∈a₀.toList)(h:Q (some (ahead left R a d b i)) au):
  wpS (model prog w) A E s (do
   let x ←elem' d (b+i)
   if left=true then lt' x a else do
    let y ←lt' a x
    pure (Option.map (λx=>!x) y)) Q au:=by
 obtain⟨x,e,m⟩:=j;refine bg (ph e ?_);unfold ahead at h;rw[iN e] at h;cases left with
 |true=>
  rw[if_pos rfl] at h ⊢;exact w_lt O g m f h
 |false=>
  rw[if_neg (by decide)] at h ⊢;refine bg (w_lt O g f m (bp ?_));have q:(!decide (R a<R x))=decide (R x<=R a):=by
   by_cases c:R a<R x
   ·rw[cC c,cI (Nat.not_le_of_lt c)];rfl
   ·rw[cI c,cC (fJ c)];rfl
  show Q (some (!decide (R a<R x))) au;rw[q];exact h
end
theorem Uh(up:eT R arr base (base+n))(a:i<=j)(b:j<n)(h:ahead left R key arr base j=true):ahead left R key arr base i=true:=by
 have:=up (base+i) (base+j) (fe _ _) (g8 a _) (nc b _);unfold ahead at h ⊢;cases left with
 |true=>rw[if_pos rfl] at h ⊢;exact cC (iZ this (gP h))
 |false=>rw[if_neg (by decide)] at h ⊢;exact cC (ax this (gP h))
theorem wg(c:h<=n)(f:∀i,i<h->ahead left R key arr base i=true)(a:∀i,h<=i->i<n->ahead left R key arr base i=false):nq left R key arr base n h:=by
 refine⟨c,λi e=>?_,λi b d=>?_⟩
 ·have:=f i e;unfold ahead at this;cases left with
  |true=>rw[if_pos rfl] at this ⊢;exact gP this
  |false=>rw[if_neg (by decide)] at this ⊢;exact gP this
 ·have:=a i b d;unfold ahead at this;cases left with
  |true=>rw[if_pos rfl] at this ⊢;exact fJ (O8 this)
  |false=>rw[if_neg (by decide)] at this ⊢;exact pL (O8 this)
theorem xx(c:¬a ≥ b):(b-a)/2<b-a:=Nat.div_lt_self (pO (pL c)) (bj 2)
theorem qG(c:¬a ≥ b):a+(b-a)/2<b:=nj (xx c)
theorem kN(c:¬a ≥ b)(h:b<=n):a+(b-a)/2<n:=da (qG c) h
theorem wu(h:b-a<=n-x):b-(a+(b-a)/2+1)<=n-(x+1):=ax (uh (ot (fe a _)) b) (rK h 1)
theorem wv(c:¬a ≥ b)(h:b-a<=n-x):a+(b-a)/2-a<=n-(x+1):=by
 rw[lL];exact ax (kW (xx c)) (rK h 1)
theorem wl(o:Nat):o<2*o+1:=O7 (Pp o CG)
theorem wj(h:x+1<=o):x+1+1<=2*o+1:=ot (ax h (Pp o CG))
theorem wQ{a b n:Nat}(h:a+b<n):b<n-a:=Nat.lt_sub_of_add_lt (CM a b ▸ h)
inductive GI (f:Nat->Bool) (n:Nat) (au:SortSt) (x:Nat):Option (Option Nat)×Nat×Nat->SortSt->Prop where
 |mk {a b:Nat}(q1:a<=b) (q2:b<=n) (q3:b-a<=n-x) (q4:∀i,i<a->f i=true) (q5:∀i,b<=i->i<n->f i=false):GI f n au x (none,a,b) au
inductive GE (f:Nat->Bool) (n:Nat) (au:SortSt):Option (Option Nat)×Nat×Nat->SortSt->Prop where
 |mk {b:Nat}(q2:b<=n) (q4:∀i,i<b->f i=true) (q5:∀i,b<=i->i<n->f i=false):GE f n au (none,b,b) au
inductive GU (f:Nat->Bool) (n hint:Nat) (P:Nat->Prop) (au:SortSt):Option (Option Nat)×Nat×Nat->SortSt->Prop where
 |mk {l o:Nat}(g1:l<o) (g2:hint+l<n) (g3:f (hint+l)=true) (g4:P o):GU f n hint P au (none,l,o) au
inductive GD (f:Nat->Bool) (hint:Nat) (P:Nat->Prop) (au:SortSt):Option (Option Nat)×Nat×Nat->SortSt->Prop where
 |mk {l o:Nat}(g1:l<o) (g2:l<=hint) (g3:f (hint-l)=false) (g4:P o):GD f hint P au (none,l,o) au
section
variable {prog:Program}{w:World}{A:Around}{E:Value->Shared->Prop}{s:Shared}{κ:SortKind}{a₀:Array Keyed}{R:Keyed->Nat}
theorem tw{left:Bool}{p:Keyed}{m:Array Keyed}{f n d:Nat}{au:SortSt}{Q:Option Nat->SortSt->Prop}(O:kB prog w A s κ a₀ R)(hk:kindOf au=κ)(q:p∈a₀.toList)(ma:∀i,i<n->∃x,m[f+i]?=some x/\x∈a₀.toList)(hh:d<n)
  (up:eT R m f (f+n))(h:∀k,nq left R p m f n k->Q (some k) au):wpS (model prog w) A E s (oY left p m f n d) Q au:=by
 have u:∀i j,i<=j->j<n->ahead left R p m f j=true->ahead left R p m f i=true:=λi j y S=>Uh up y S
 have r:∀i j,i<=j->j<n->ahead left R p m f i=false->ahead left R p m f j=false:=λi j y S e=>by
  cases c:ahead left R p m f j with
  |false=>rfl
  |true=>rw[u i j y S c] at e;cases e
 refine bg (uT O hk q (ma d hh) ?_);dsimp only;cases hr:ahead left R p m f d with
 |true=>
  rw[if_pos rfl];refine bg (iS (iu (I:=λx=>GU (ahead left R p m f) n d (x+1<=·) au) (Q:=GU (ahead left R p m f) n d (λo=>n-d<=o\/(d+o<n/\ahead left R p m f (d+o)=false)) au) ?_ ?_ ?_) ?_)
  ·rintro x c X x1 x2 @⟨l,o,J,v,G,H⟩;dsimp only;by_cases c:o ≥ n-d
   ·rw[if_pos c];exact bp (.mk J v G (.inl c))
   ·have c3:d+o<n:=nj (pL c);rw[if_neg c];refine bg (uT O hk q (ma (d+o) c3) ?_);dsimp only;cases c2:ahead left R p m f (d+o) with
    |true=>exact bp (.mk (wl o) c3 c2 (wj H))
    |false=>exact bp (.mk J v G (.inr ⟨c3,c2⟩))
  ·rintro c X @⟨l,o,J,v,G,H⟩;rw[Nat.zero_max] at H;exact .mk J v G (.inl (ax (lD _ _) (jA H)))
  ·exact .mk Nat.one_pos hh hr (bj _)
  ·rintro c X @⟨l,o,J,v,G,H⟩;dsimp only;have f1:∀i,i<d+l+1->ahead left R p m f i=true:=λi P=>u i (d+l) (hX P) v G
   have f2:∀i,d+min o (n-d)<=i->i<n->ahead left R p m f i=false:=λi y S=>by
    rcases H with g|⟨ga,gb⟩
    ·rw[yE g,gQ (dg hh)] at y;exact absurd S (md y)
    ·rw[j6 (dg (wQ ga))] at y;exact r (d+o) i y S gb
   have f3:d+l+1<=d+min o (n-d):=g8 (Nat.le_min.mpr ⟨J,wQ v⟩) d;have f4:d+min o (n-d)<=n:=ax (g8 (rD _ _) d) (gO (gQ (dg hh)));generalize d+l+1=lo at f1 f3 ⊢;generalize d+min o (n-d)=P at f2 f3 f4 ⊢;refine bg (iS (iu (I:=GI (ahead left R p m f) n au) (Q:=GE (ahead left R p m f) n au) ?_ ?_ (.mk f3 f4 (ax (lD _ _) f4) f1 f2)) ?_)
   ·rintro x c U x1 x2 @⟨a,b,q1,t,Y,z,C⟩;dsimp only;by_cases c:a ≥ b
    ·rw[if_pos c];have e:b=a:=j7 c q1;subst e;exact bp (.mk t z C)
    ·rw[if_neg c];refine bg (uT O hk q (ma (a+(b-a)/2) (kN c t)) ?_);dsimp only;cases c2:ahead left R p m f (a+(b-a)/2) with
     |true=>exact bp (.mk (qG c) t (wu Y) (λi P=>u i (a+(b-a)/2) (hX P) (kN c t) c2) C)
     |false=>exact bp (.mk (fe _ _) (dg (kN c t)) (wv c Y) z λi y S=>r (a+(b-a)/2) i y S c2)
   ·rintro c U @⟨a,b,q1,t,Y,z,C⟩;have e:=E1 q1 Y;subst e;exact .mk t z C
   ·rintro c U @⟨b,t,z,C⟩;exact bp (h b (wg t z C))
 |false=>
  rw[if_neg (by decide)];refine bg (iS (iu (I:=λx=>GD (ahead left R p m f) d (x+1<=·) au) (Q:=GD (ahead left R p m f) d (λo=>d+1<=o\/(o<=d/\ahead left R p m f (d-o)=true)) au) ?_ ?_ ?_) ?_)
  ·rintro x c X x1 x2 @⟨l,o,J,v,G,H⟩;dsimp only;by_cases c:o ≥ d+1
   ·rw[if_pos c];exact bp (.mk J v G (.inl c))
   ·rw[if_neg c];refine bg (uT O hk q (ma (d-o) (iZ (lD _ _) hh)) ?_);dsimp only;cases c2:ahead left R p m f (d-o) with
    |true=>exact bp (.mk J v G (.inr ⟨hX (pL c),c2⟩))
    |false=>exact bp (.mk (wl o) (hX (pL c)) c2 (wj H))
  ·rintro c X @⟨l,o,J,v,G,H⟩;rw[Nat.zero_max] at H;exact .mk J v G (.inl (ax hh (jA H)))
  ·exact .mk Nat.one_pos (ir _) hr (bj _)
  ·rintro c X @⟨l,o,J,v,G,H⟩;dsimp only;have f1:∀i,i<d+1-min o (d+1)->ahead left R p m f i=true:=λi P=>by
    rcases H with g|⟨ga,gb⟩
    ·rw[yE g,rm] at P;exact absurd P (OO _)
    ·rw[j6 (oz ga),Nat.succ_sub ga] at P;exact u i (d-o) (hX P) (iZ (lD _ _) hh) gb
   have f2:∀i,d-l<=i->i<n->ahead left R p m f i=false:=λi y S=>r (d-l) i y S G
   have f3:d+1-min o (d+1)<=d-l:=ax (uh (Nat.le_min.mpr ⟨J,ot v⟩) _) (gO (Nat.succ_sub_succ d l));have f4:d-l<=n:=ax (lD _ _) (dg hh);generalize d+1-min o (d+1)=lo at f1 f3 ⊢;generalize d-l=P at f2 f3 f4 ⊢;refine bg (iS (iu (I:=GI (ahead left R p m f) n au) (Q:=GE (ahead left R p m f) n au) ?_ ?_ (.mk f3 f4 (ax (lD _ _) f4) f1 f2)) ?_)
   ·rintro x c U x1 x2 @⟨a,b,q1,t,Y,z,C⟩;dsimp only;by_cases c:a ≥ b
    ·rw[if_pos c];have e:b=a:=j7 c q1;subst e;exact bp (.mk t z C)
    ·rw[if_neg c];refine bg (uT O hk q (ma (a+(b-a)/2) (kN c t)) ?_);dsimp only;cases c2:ahead left R p m f (a+(b-a)/2) with
     |true=>exact bp (.mk (qG c) t (wu Y) (λi P=>u i (a+(b-a)/2) (hX P) (kN c t) c2) C)
     |false=>exact bp (.mk (fe _ _) (dg (kN c t)) (wv c Y) z λi y S=>r (a+(b-a)/2) i y S c2)
   ·rintro c U @⟨a,b,q1,t,Y,z,C⟩;have e:=E1 q1 Y;subst e;exact .mk t z C
   ·rintro c U @⟨b,t,z,C⟩;exact bp (h b (wg t z C))
end
noncomputable abbrev Ord(R:Keyed->Nat) (l:List Keyed):Prop:=l.Pairwise λx y=>R x<=R y
structure jf (au st':SortSt):Prop where
 arr:arrOf st'=arrOf au
 pend:pendingOf st'=pendingOf au
 kind:kindOf st'=kindOf au
 failed:failedOf st'=failedOf au
theorem jf.refl(au:SortSt):jf au au:=⟨rfl,rfl,rfl,rfl⟩
theorem jf.trans(x:jf a b)(y:jf b c):jf a c:=⟨y.arr.trans x.arr,y.pend.trans x.pend,y.kind.trans x.kind,y.failed.trans x.failed⟩
noncomputable def mD:Array Keyed->Array Keyed->StateT SortSt Sem (Array Keyed):=sortPriv% PySem.Builtin.mergeLo
noncomputable def mE:Array Keyed->Array Keyed->StateT SortSt Sem (Array Keyed):=sortPriv% PySem.Builtin.mergeHi
structure ML (R:Keyed->Nat) (all out rest:List Keyed):Prop where
 perm:(out++rest).Perm all
 ord:Ord R out
 le:∀x∈out,∀y∈rest,R x<=R y
theorem ML.grow{a:List Keyed}(m:ML R all out a)(p:a.Perm (c++rest'))(o:Ord R c)(h:∀x∈c,∀y∈rest',R x<=R y):ML R all (out++c) rest':=by
 refine⟨?_,rJ.mpr ⟨m.ord,o,λx hx y b=>m.le x hx y (p.mem_iff.mpr (ul _ b))⟩,λx hx y b=>?_⟩
 ·rw[eE];exact(uo out p.symm).trans m.perm
 ·rcases dB.mp hx with hx|hx
  ·exact m.le x hx y (p.mem_iff.mpr (lK _ b))
  ·exact h x hx y b
theorem ML.fin{b a:List Keyed}(m:ML R all out b)(p:a.Perm b)(o:Ord R a):(out++a).Perm all/\Ord R (out++a):=
 ⟨(uo out p).trans m.perm,rJ.mpr ⟨m.ord,o,λx c y d=>m.le x c y (p.mem_iff.mp d)⟩⟩
theorem Ord.at(h:Ord R l){i j:Nat}(g:l[i]?=some x)(e:l[j]?=some y)(a:i<=j):R x<=R y:=by
 obtain⟨k,b⟩:=cU.mp g;obtain⟨f,d⟩:=cU.mp e;by_cases c:i=j
 ·subst c;rw[←b,←d];exact bj _
 ·rw[←b,←d];exact uq.mp h i j k f (jC a c)
theorem Ord.drop(h:Ord R l)(n:Nat):Ord R (l.drop n):=um (O5 _ _) h
theorem Ord.take(h:Ord R l)(n:Nat):Ord R (l.take n):=um (Da _ _) h
theorem nS{l:List Keyed}(h:y∈l.drop n):∃j,n<=j/\l[j]?=some y:=by
 obtain⟨i,a,e⟩:=nh h;refine⟨n+i,fe _ _,?_⟩;rw[←e,O4];exact bS _
theorem zt{l:List Keyed}(h:y∈l.take n):∃j,j<n/\l[j]?=some y:=by
 obtain⟨i,b,e⟩:=nh h;have a:i<n/\i<l.length:=by rw[gw] at b;exact Nat.lt_min.mp b
 refine⟨i,a.1,?_⟩;rw[←e,O3];exact bS _
theorem To{l:List Keyed}{i:Nat}{x:Keyed}(h:l[i]?=some x):l.drop i=x::l.drop (i+1):=by
 obtain⟨a,rfl⟩:=cU.mp h;exact kY a
theorem SC(l:List Keyed)(i k:Nat):l.drop i=(l.drop i).take k++l.drop (i+k):=by
 rw[←CY,kc]
structure su (R:Keyed->Nat) (la lb:List Keyed):Prop where
 oa:Ord R la
 ob:Ord R lb
 last:∀x,la[la.length-1]?=some x->∀y∈lb,R y<=R x
def Fin(R:Keyed->Nat) (b a:List Keyed) (r:Array Keyed):Prop:=r.toList.Perm (b++a)/\Ord R r.toList
section
variable {la:List Keyed}{lb:List Keyed}{out:Array Keyed}{ia:Nat}{ib:Nat}
theorem ML.pushB{R:Keyed->Nat}{a:List Keyed}(T:su R la lb)(m:ML R a out.toList (la.drop ia++lb.drop ib)){y:Keyed}(b:lb[ib]?=some y)(h:∀z∈la.drop ia,R y<=R z):ML R a (out.push y).toList (la.drop ia++lb.drop (ib+1)):=by
 rw[m9];refine m.grow ?_ (Pv _ _) λx c z hz=>?_
 ·rw[To b];exact OV
 ·simp at c;subst c
  rcases dB.mp hz with hz|hz
  ·exact h z hz
  ·obtain⟨j,d,e⟩:=nS hz;exact T.ob.at b e (jA d)
end
section
variable {w:World}{la:List Keyed}{lb:List Keyed}{out:Array Keyed}{ia:Nat}{ib:Nat}
theorem ML.pushA{R:Keyed->Nat}{a:List Keyed}(T:su R la lb)(m:ML R a out.toList (la.drop ia++lb.drop ib)){x:Keyed}(c:la[ia]?=some x)(h:∀z∈lb.drop ib,R x<=R z):ML R a (out.push x).toList (la.drop (ia+1)++lb.drop ib):=by
 rw[m9];refine m.grow ?_ (Pv _ _) λw b z hz=>?_
 ·rw[To c];exact .refl _
 ·simp at b;subst b
  rcases dB.mp hz with hz|hz
  ·obtain⟨j,d,e⟩:=nS hz;exact T.oa.at c e (jA d)
  ·exact h z hz
end
theorem kE(a:Array Keyed)(i j:Nat):(a.extract i j).toList=(a.toList.drop i).take (j-i):=by
 rw[Pk,List.extract_eq_take_drop]
theorem BA(a:Array Keyed)(i:Nat):(a.extract i).toList=a.toList.drop i:=by
 rw[kE];exact jD (by simp)
theorem ij{a:Array Keyed}(h:a.toList[i]?=some x):kA R a i=R x:=iN (by rw[←gR];exact h)
section
variable {a:Array Keyed}{b:Array Keyed}{out:Array Keyed}{ia:Nat}{ib:Nat}{k:Nat}
theorem ML.galA(T:su R a.toList b.toList)(m:ML R all out.toList (a.toList.drop ia++b.toList.drop ib))(n:b.toList[ib]?=some y)(c:nq false R y a ia (a.size-ia) k):ML R all (out++a.extract ia (ia+k)).toList (a.toList.drop (ia+k)++b.toList.drop ib)/\∀z∈a.toList.drop (ia+k),R y<=R z:=by
 have up:∀z∈a.toList.drop (ia+k),R y<=R z:=λz f=>by
  obtain⟨j,d,e⟩:=nS f;have i:j<a.size:=by have:=(cU.mp e).1;simpa using this
  have l:=ax (fe _ _) d;have:=c.2.2 (j-ia) (pT d) (oC l i);rw[gQ l,ij e] at this;exact dg this
 have g:∀z∈(a.toList.drop ia).take k,R z<=R y:=λz f=>by
  obtain⟨j,d,e⟩:=zt f;rw[oA] at e;have:=c.2.1 j d;rw[ij e] at this;exact this
 refine⟨?_,up⟩;rw[kU,kE,lL];refine m.grow ?_ ((T.oa.drop ia).take k) λz f v hv=>?_
 ·conv=>lhs;rw[SC a.toList ia k]
  rw[eE]
 ·rcases dB.mp hv with hv|hv
  ·exact ax (g z f) (up v hv)
  ·obtain⟨j,d,e⟩:=nS hv;exact ax (g z f) (T.ob.at n e d)
theorem ML.galB(T:su R a.toList b.toList)(m:ML R all out.toList (a.toList.drop ia++b.toList.drop ib))(n:a.toList[ia]?=some x)(c:nq true R x b ib (b.size-ib) k):ML R all (out++b.extract ib (ib+k)).toList (a.toList.drop ia++b.toList.drop (ib+k))/\∀z∈b.toList.drop (ib+k),R x<=R z:=by
 have up:∀z∈b.toList.drop (ib+k),R x<=R z:=λz f=>by
  obtain⟨j,d,e⟩:=nS f;have i:j<b.size:=by have:=(cU.mp e).1;simpa using this
  have l:=ax (fe _ _) d;have:=c.2.2 (j-ib) (pT d) (oC l i);rw[gQ l,ij e] at this;exact this
 have g:∀z∈(b.toList.drop ib).take k,R z<=R x:=λz f=>by
  obtain⟨j,d,e⟩:=zt f;rw[oA] at e;have:=c.2.1 j d;rw[ij e] at this;exact dg this
 refine⟨?_,up⟩;rw[kU,kE,lL];refine m.grow ?_ ((T.ob.drop ib).take k) λz f v hv=>?_
 ·conv=>lhs;rw[SC b.toList ib k]
  rw[←eE,←eE];exact Dw _ yP
 ·rcases dB.mp hv with hv|hv
  ·obtain⟨j,d,e⟩:=nS hv;exact ax (g z f) (T.oa.at n e d)
  ·exact ax (g z f) (up v hv)
end
theorem ML.done{a:Array Keyed}{b:Array Keyed}{c:Array Keyed}{e:Nat}{d:Nat}(T:su R a.toList b.toList)(m:ML R (a.toList++b.toList) c.toList (a.toList.drop e++b.toList.drop d))(h:e=a.size\/d=b.size):Fin R a.toList b.toList (c++a.extract e++b.extract d):=by
 unfold Fin;rw[kU,kU,BA,BA,eE];refine m.fin (.refl _) ?_;rcases h with rfl|rfl
 ·rw[Dv (by simp),ON];exact T.ob.drop _
 ·rw[Dv (as:=b.toList) (by simp),jy];exact T.oa.drop _
theorem ML.lastA{a:Array Keyed}{b:Array Keyed}{c:Array Keyed}{d:Nat}{g:Nat}(T:su R a.toList b.toList)(m:ML R (a.toList++b.toList) c.toList (a.toList.drop d++b.toList.drop g))(h:d+1=a.size):Fin R a.toList b.toList (c++b.extract g++a.extract d):=by
 unfold Fin;rw[kU,kU,BA,BA,eE];refine m.fin yP (rJ.mpr ⟨T.ob.drop _,T.oa.drop _,λv k z l=>?_⟩);obtain⟨j,i,e⟩:=nS l;have f:j<a.size:=by have:=(cU.mp e).1;simpa using this
 have:j=a.toList.length-1:=j7 (kW (by rw[fM];exact f)) (by rw[fM,←h];exact i);subst this;exact T.last z e v (pR k)
noncomputable def zC:Nat->StateT SortSt Sem Unit:=sortPriv% PySem.Builtin.setMinGallop
section
variable {prog:Program}{w:World}{A:Around}{E:Value->Shared->Prop}{s:Shared}
theorem n5{g:Nat}{au:SortSt}{Q:Unit->SortSt->Prop}(h:∀a,jf au a->Q () a):wpS (model prog w) A E s (zC g) Q au:=
 l4 (h _ ⟨rfl,rfl,rfl,rfl⟩)
end
section
variable {prog:Program}{w:World}{A:Around}{E:Value->Shared->Prop}{s:Shared}{y:Keyed}{x:Keyed}
theorem vR{a:Type}{K:Nat->StateT SortSt Sem a}{Q:a->SortSt->Prop}{au:SortSt}(h:∀v,wpS (model prog w) A E s (K v) Q au):∀y x:Nat,wpS (model prog w) A E s (if y > 1 then K x else K y) Q au:=λy x=>by
 by_cases e:y > 1
 ·rw[if_pos e];exact h x
 ·rw[if_neg e];exact h y
end
section
variable {prog:Program}{w:World}{A:Around}{E:Value->Shared->Prop}{s:Shared}
theorem vP{f:Type}{c a:Prop}[Decidable c][Decidable a]{X Y d:StateT SortSt Sem f}{Q:f->SortSt->Prop}{au:SortSt}(g:¬c->d=Y)(h:c->a->wpS (model prog w) A E s X Q au)(b:(c->¬a)->wpS (model prog w) A E s Y Q au):wpS (model prog w) A E s (if c then(if a then X else Y) else d) Q au:=by
 by_cases e:c
 ·rw[if_pos e];by_cases e2:a
  ·rw[if_pos e2];exact h e e2
  ·rw[if_neg e2];exact b λ_=>e2
 ·rw[if_neg e,g e];exact b λz=>absurd z e
theorem wT{h:Type}{c a b:Prop}[Decidable c][Decidable a][Decidable b]{X g Y f:StateT SortSt Sem h}{Q:h->SortSt->Prop}{au:SortSt}(i:¬c->f=Y)(j:c->a->wpS (model prog w) A E s X Q au)(k:c->b->wpS (model prog w) A E s g Q au)(d:(c->¬a/\¬b)->wpS (model prog w) A E s Y Q au):wpS (model prog w) A E s (if c then(if a then X else if b then g else Y) else f) Q au:=by
 by_cases e:c
 ·rw[if_pos e];by_cases e2:a
  ·rw[if_pos e2];exact j e e2
  ·rw[if_neg e2];by_cases e3:b
   ·rw[if_pos e3];exact k e e3
   ·rw[if_neg e3];exact d λ_=>⟨e2,e3⟩
 ·rw[if_neg e,i e];exact d λz=>absurd z e
theorem vQ{d:Type}{c a:Prop}[Decidable c][Decidable a]{X b Y:StateT SortSt Sem d}{Q:d->SortSt->Prop}{au:SortSt}(g:c->wpS (model prog w) A E s X Q au)(f:a->wpS (model prog w) A E s b Q au)(h:¬c->¬a->wpS (model prog w) A E s Y Q au):wpS (model prog w) A E s (if c then X else if a then b else Y) Q au:=by
 by_cases e:c
 ·rw[if_pos e];exact g e
 ·rw[if_neg e];by_cases e2:a
  ·rw[if_pos e2];exact f e2
  ·rw[if_neg e2];exact h e e2
theorem fx{a:Type}{c:Prop}[Decidable c]{X Y:StateT SortSt Sem a}{Q:a->SortSt->Prop}{au:SortSt}(b:c->wpS (model prog w) A E s X Q au)(d:¬c->wpS (model prog w) A E s Y Q au):wpS (model prog w) A E s (if c then X else Y) Q au:=by
 by_cases e:c
 ·rw[if_pos e];exact b e
 ·rw[if_neg e];exact d e
theorem eP{b:Type}{a:Array Keyed}{i:Nat}{x:Keyed}{f:Keyed->StateT SortSt Sem b}{Q:b->SortSt->Prop}{au:SortSt}(e:a[i]?=some x)(h:wpS (model prog w) A E s (f x) Q au):wpS (model prog w) A E s (elem' a i >>= f) Q au:=bg (ph e h)
end
section
variable {prog:Program}{w:World}{A:Around}{E:Value->Shared->Prop}{s:Shared}{κ:SortKind}{a₀:Array Keyed}{R:Keyed->Nat}
theorem wU{a:Type}{x y:Keyed}{f:Option Bool->StateT SortSt Sem a}{Q:a->SortSt->Prop}{au:SortSt}(O:kB prog w A s κ a₀ R)(g:kindOf au=κ)(e:x∈a₀.toList)(d:y∈a₀.toList)(h:R x<R y->wpS (model prog w) A E s (f (some true)) Q au)(b:R y<=R x->wpS (model prog w) A E s (f (some false)) Q au):wpS (model prog w) A E s (lt' x y >>= f) Q au:=by
 refine bg (w_lt O g e d ?_);by_cases c:R x<R y
 ·rw[cC c];exact h c
 ·rw[cI c];exact b (fJ c)
end
inductive Dn {β:Type}(R:Keyed->Nat) (a b:Array Keyed) (au:SortSt):Option (Array Keyed)×β->SortSt->Prop where
 |mk {r:Array Keyed}{z:β}{st':SortSt}(sm:jf au st') (f:Fin R a.toList b.toList r):Dn R a b au (some r,z) st'
section
variable {out:Array Keyed}{ia:Nat}{ib:Nat}
inductive L1 (R:Keyed->Nat) (a b:Array Keyed) (au:SortSt) (x:Nat):Option (Array Keyed)×Array Keyed×Nat×Nat×Nat->SortSt->Prop where
 |mk {out:Array Keyed}{ia ib g:Nat}{st':SortSt}(sm:jf au st') (m:ML R (a.toList++b.toList) out.toList (a.toList.drop ia++b.toList.drop ib)) (ha:ia+1<a.size) (hb:ib<b.size) (hx:x<ia+ib):L1 R a b au x (none,out,ia,ib,g) st'
inductive Qx (R:Keyed->Nat) (a b:Array Keyed) (au:SortSt) (x:Nat):Option (Array Keyed)×Array Keyed×Nat×Nat×Nat×Nat->SortSt->Prop where
 |mk {out:Array Keyed}{ia ib ac bc:Nat}{st':SortSt}(sm:jf au st') (m:ML R (a.toList++b.toList) out.toList (a.toList.drop ia++b.toList.drop ib)) (ha:ia+1<a.size) (hb:ib<b.size) (hx:x<=ia+ib):Qx R a b au x (none,out,ia,ib,ac,bc) st'
inductive L3 (R:Keyed->Nat) (a b:Array Keyed) (au:SortSt) (x:Nat):Option (Array Keyed)×Array Keyed×Nat×Nat×Nat×Nat×Nat->SortSt->Prop where
 |mk {out:Array Keyed}{ia ib g ac bc:Nat}{st':SortSt}(sm:jf au st') (m:ML R (a.toList++b.toList) out.toList (a.toList.drop ia++b.toList.drop ib)) (ha:ia+1<a.size) (hb:ib<b.size) (hx:x<=ia+ib):L3 R a b au x (none,out,ia,ib,g,ac,bc) st'
end
section
variable {prog:Program}{w:World}{A:Around}{E:Value->Shared->Prop}{s:Shared}{κ:SortKind}{a₀:Array Keyed}{R:Keyed->Nat}{a:Array Keyed}{b:Array Keyed}{out:Array Keyed}{ia:Nat}{ib:Nat}{k:Nat}{y:Keyed}{x:Keyed}
theorem OC{au:SortSt}{Q:Array Keyed->SortSt->Prop}(O:kB prog w A s κ a₀ R)(hk:kindOf au=κ)(ma:∀x∈a.toList,x∈a₀.toList)(mb:∀x∈b.toList,x∈a₀.toList)(T:su R a.toList b.toList)(ha:1<=a.size)(hb:1<=b.size)
  (b8:∀y,b.toList[0]?=some y->∀x∈a.toList,R y<=R x)(h:∀r C,jf au C->Fin R a.toList b.toList r->Q r C):wpS (model prog w) A E s (mD a b) Q au:=by
 have u:∀(i:Nat) (H:i<a.size),a[i]?=some a[i]/\a.toList[i]?=some a[i]/\a[i]∈a₀.toList:=λi H=>⟨getElem?_pos a i H,by rw[gR];exact getElem?_pos a i H,ma _ (by simp)⟩
 have o:∀(i:Nat) (H:i<b.size),b[i]?=some b[i]/\b.toList[i]?=some b[i]/\b[i]∈a₀.toList:=λi H=>⟨getElem?_pos b i H,by rw[gR];exact getElem?_pos b i H,mb _ (by simp)⟩
 have b6:∀i,eT R a i (i+(a.size-i)):=λi p q a1 a2 a3=>by
  have hq:q<a.size:=by lia
  have e1:=(u p (by lia)).2.1;have e2:=(u q hq).2.1;rw[ij e1,ij e2];exact T.oa.at e1 e2 a2
 have c0:∀i,eT R b i (i+(b.size-i)):=λi p q a1 a2 a3=>by
  have hq:q<b.size:=by lia
  have e1:=(o p (by lia)).2.1;have e2:=(o q hq).2.1;rw[ij e1,ij e2];exact T.ob.at e1 e2 a2
 obtain⟨y0,f0,f1⟩:∃x,b[0]?=some x/\b.toList[0]?=some x:=⟨_,(o 0 hb).1,(o 0 hb).2.1⟩
 have start:ML R (a.toList++b.toList) (#[y0]:Array Keyed).toList (a.toList.drop 0++b.toList.drop 1):=by
  have z:ML R (a.toList++b.toList) (#[]:Array Keyed).toList (a.toList.drop 0++b.toList.drop 0):=⟨by simp,List.Pairwise.nil,by simp⟩
  exact z.pushB T f1 λx hx=>b8 y0 f1 x (pR hx)
 refine bg (pA (og ⟨rfl,bg (ph f0 (vQ (λc1=>?_) (λc2=>?_) λc1 c2=>?_))⟩))
 ·exact bp (h _ _ (.refl _) (start.done T (.inr (by simpa using c1))))
 ·exact bp (h _ _ (.refl _) (start.lastA T (by simpa using c2)))
 simp only[l5] at c1 c2;refine bg (kQ ?_);refine bg (iS (iu (I:=L1 R a b au) (Q:=Dn R a b au) ?_ ?_ (.mk (.refl _) start (by lia) (by lia) (by lia))) ?_)
 ·rintro x c a0 x1 x2 @⟨out,ia,ib,g,a0,a5,m,b3,b1,hx⟩;dsimp only;refine bg (iS (iu (I:=λ_=>Qx R a b au (ia+ib)) (Q:=λc C=>Dn R a b au c C\/Qx R a b au (ia+ib) c C) ?_ ?_ (.mk a5 m b3 b1 (bj _))) ?_)
  ·rintro x' c a4 _ _ @⟨out,l,ib',ac,bc,a4,t,m,n,d,hp⟩;dsimp only;have ea:=(u l (oy n)).1;have J:=(u l (oy n)).2.1;have a7:=(u l (oy n)).2.2;have eb:=(o ib' d).1;have P:=(o ib' d).2.1;have a6:=(o ib' d).2.2;refine eP eb (eP ea (wU O (t.kind.trans hk) a6 a7 (λcw=>eP eb ?_) λcw=>eP ea ?_))
   ·skip
    have m2:=m.pushB T P λz hz=>by
     obtain⟨j,hj,e⟩:=nS hz;exact ax (dg cw) (T.oa.at J e hj)
    refine fx (λc5=>bp (.inl (.mk t (m2.done T (.inr (eq_of_beq c5)))))) λc5=>?_
    rw[l5] at c5;have b0:ib'+1<b.size:=jC d c5;have Y:ia+ib<=l+(ib'+1):=oz hp;exact fx (λ_=>bp (.inr (.mk t m2 n b0 Y))) λ_=>bp (.mk t m2 n b0 Y)
   ·skip
    have m2:=m.pushA T J λz hz=>by
     obtain⟨j,hj,e⟩:=nS hz;exact ax cw (T.ob.at P e hj)
    refine fx (λc5=>bp (.inl (.mk t (m2.lastA T (eq_of_beq c5))))) λc5=>?_
    rw[l5] at c5;have b2:l+1+1<a.size:=jC n c5;have Y:ia+ib<=l+1+ib':=Nat.succ_add l ib' ▸ oz hp
    exact fx (λ_=>bp (.inr (.mk t m2 b2 d Y))) λ_=>bp (.mk t m2 b2 d Y)
  ·exact λc a4 k=>.inr k
  ·rintro c a4 (⟨t,f⟩|@⟨out,l,ib',ac,bc,a4,t,m,n,d,hp⟩)
   ·exact bp (.mk t f)
   ·dsimp only;refine bg (pA (og ⟨rfl,?_⟩));refine bg (iS (iu (I:=λx'=>L3 R a b au (ia+ib+x')) (Q:=λc C=>Dn R a b au c C\/L3 R a b au (ia+ib+1) c C) ?_ ?_ (.mk t m n d hp)) ?_)
    ·rintro x' c a8 _ c3 @⟨out,l,ib',g',ac,bc,a8,G,m,n,d,hp⟩;dsimp only;have eb:=(o ib' d).1;have P:=(o ib' d).2.1;have a6:=(o ib' d).2.2;generalize g'-1=g1;generalize g'=y;revert g1;revert y
     refine vR ?_;intro gg;refine bg (n5 λb7 sg=>?_);have v:=G.trans sg;refine eP eb (bg (tw O (v.kind.trans hk) a6 (λi H=>⟨_,(u (l+i) (nj H)).1,(u (l+i) (nj H)).2.2⟩) (pO (oy n)) (b6 l) λk1 S=>?_));have m5:=(m.galA T P S).1;have u5:=(m.galA T P S).2;have d0:=S.1;dsimp only;refine wT (λc6=>?_) (λc6 c7=>?_) (λc6 c8=>?_) λhh=>?_
     ·have z:k1=0:=Nat.le_zero.mp (fJ c6);subst z;simp only[tW,PD (rB _ _),Pc]
     ·exact bp (.inl (.mk v (m5.lastA T (eq_of_beq c7))))
     ·exact bp (.inl (.mk v (m5.done T (.inl (eq_of_beq c8)))))
     have U:l+k1+1<a.size:=by
      by_cases c6:k1 > 0
      ·have:=hh c6;simp at this;lia
      ·lia
     have b9:ia+ib+x'<=l+k1+ib':=ax hp (Nat.add_le_add_right (fe _ _) _);clear hh;generalize l+k1=ia5 at m5 u5 U b9 ⊢;generalize out++a.extract l ia5=out5 at m5 ⊢;have m6:=m5.pushB T P u5;have ea:=(u _ (oy U)).1;have J:=(u _ (oy U)).2.1;have a7:=(u _ (oy U)).2.2;refine eP eb (fx (λc9=>bp (.inl (.mk v (m6.done T (.inr (eq_of_beq c9)))))) λc9=>eP ea ?_);rw[l5] at c9;refine bg (tw O (v.kind.trans hk) a7 (λi H=>⟨_,(o (ib'+1+i) (nj H)).1,(o (ib'+1+i) (nj H)).2.2⟩) (pO (jC d c9)) (c0 (ib'+1)) λk2 X=>?_);have m7:=(m6.galB T J X).1;have u7:=(m6.galB T J X).2;have d1:=X.1;dsimp only;refine vP (λd6=>?_) (λd6 d7=>?_) λhh=>?_
     ·have z2:k2=0:=Nat.le_zero.mp (fJ d6);subst z2;simp only[tW,PD (rB _ _),Pc]
     ·exact bp (.inl (.mk v (m7.done T (.inr (eq_of_beq d7)))))
     have c4:ib'+1+k2≠b.size:=by
      by_cases d6:k2 > 0
      ·have:=hh d6;simp at this;lia
      ·lia
     have m8:=m7.pushA T J u7;refine eP ea (fx (λd8=>bp (.inl (.mk v (m8.lastA T (eq_of_beq d8))))) λd8=>?_);rw[l5] at d8;have a9:ia5+1+1<a.size:=jC U d8;have b5:ib'+1+k2<b.size:=by lia
     have b4:ia+ib+(x'+1)<=ia5+1+(ib'+1+k2):=by lia
     exact fx (λ_=>bp (.inr (.mk v m8 a9 b5 (ax (g8 (OP 1 x') _) b4)))) λ_=>bp (.mk v m8 a9 b5 b4)
    ·rintro c a8 ⟨G,m,n,d,hp⟩;exact .inr (.mk G m n d (by lia))
    ·rintro c a8 (⟨G,f⟩|⟨G,m,n,d,hp⟩)
     ·exact bp (.mk G f)
     ·exact bg (n5 λb7 sg=>bp (.mk (G.trans sg) m n d (da (Nat.succ_lt_succ hx) hp)))
 ·rintro c a0 ⟨a5,m,b3,b1,hx⟩;lia
 ·rintro c a0 ⟨a5,f⟩;exact bp (h _ a0 a5 f)
end
structure MH (R:Keyed->Nat) (all out rest:List Keyed):Prop where
 perm:(rest++out.reverse).Perm all
 ord:Ord R out.reverse
 le:∀x∈rest,∀y∈out,R x<=R y
theorem MH.grow{a b:List Keyed}(m:MH R all out a)(p:a.Perm (rest'++b.reverse))(o:Ord R b.reverse)(h:∀x∈rest',∀y∈b,R x<=R y):MH R all (out++b) rest':=by
 refine⟨?_,?_,λx c y hy=>?_⟩
 ·rw[List.reverse_append,←eE];exact(Dw _ p.symm).trans m.perm
 ·rw[List.reverse_append];exact rJ.mpr ⟨o,m.ord,λx c y hy=>m.le x (p.mem_iff.mpr (lK _ c)) y (C2.mp hy)⟩
 ·rcases dB.mp hy with hy|hy
  ·exact m.le x (p.mem_iff.mpr (ul _ c)) y hy
  ·exact h x c y hy
theorem MH.fin{b a:List Keyed}(m:MH R all out b)(p:a.Perm b)(o:Ord R a):(a++out.reverse).Perm all/\Ord R (a++out.reverse):=
 ⟨(Dw _ p).trans m.perm,rJ.mpr ⟨o,m.ord,λx c y d=>m.le x (p.mem_iff.mp c) y (C2.mp d)⟩⟩
theorem Tu{l:List Keyed}{i:Nat}{x:Keyed}(h:l[i]?=some x):l.take (i+1)=l.take i++[x]:=by
 obtain⟨a,rfl⟩:=cU.mp h;exact PH a
structure jS (R:Keyed->Nat) (la lb:List Keyed):Prop where
 oa:Ord R la
 ob:Ord R lb
 first:∀y,lb[0]?=some y->∀x∈la,R y<=R x
section
variable {R:Keyed->Nat}{la:List Keyed}{lb:List Keyed}{all:List Keyed}{out:Array Keyed}{na:Nat}{nb:Nat}
theorem MH.pushB(T:jS R la lb)(m:MH R all out.toList (la.take na++lb.take (nb+1))){y:Keyed}(b:lb[nb]?=some y)(h:∀z∈la.take na,R z<=R y):MH R all (out.push y).toList (la.take na++lb.take nb):=by
 rw[m9];refine m.grow ?_ (by simp) λz hz w a=>?_
 ·rw[Tu b];simp
 ·simp at a;subst a
  rcases dB.mp hz with hz|hz
  ·exact h z hz
  ·obtain⟨j,c,e⟩:=zt hz;exact T.ob.at e b (by lia)
theorem MH.pushA(T:jS R la lb)(m:MH R all out.toList (la.take (na+1)++lb.take nb)){x:Keyed}(b:la[na]?=some x)(h:∀z∈lb.take nb,R z<=R x):MH R all (out.push x).toList (la.take na++lb.take nb):=by
 rw[m9];refine m.grow ?_ (by simp) λz hz w a=>?_
 ·rw[Tu b];simp only[List.reverse_singleton,eE];exact uo _ yP
 ·simp at a;subst a
  rcases dB.mp hz with hz|hz
  ·obtain⟨j,c,e⟩:=zt hz;exact T.oa.at e b (by lia)
  ·exact h z hz
end
theorem QM(l:List Keyed) (h:k<=n):l.take n=l.take k++(l.drop k).take (n-k):=by
 conv=>lhs;rw[show n=k+(n-k) by lia,List.take_add]
section
variable {a:Array Keyed}{b:Array Keyed}{out:Array Keyed}{na:Nat}{nb:Nat}{k:Nat}
theorem MH.galA(T:jS R a.toList b.toList)(m:MH R all out.toList (a.toList.take na++b.toList.take (nb+1)))(i:b.toList[nb]?=some y)(l:na<=a.size)(c:nq false R y a 0 na k):MH R all (out++(a.extract k na).reverse).toList (a.toList.take k++b.toList.take (nb+1))/\∀z∈a.toList.take k,R z<=R y:=by
 have f:∀z∈a.toList.take k,R z<=R y:=λz d=>by
  obtain⟨j,h,e⟩:=zt d;have:=c.2.1 j h;rw[iT,ij e] at this;exact this
 have up:∀z∈(a.toList.drop k).take (na-k),R y<=R z:=λz d=>by
  obtain⟨j,h,e⟩:=zt d;rw[oA] at e;have:=c.2.2 (k+j) (by lia) (by lia);rw[iT,ij e] at this;exact dg this
 refine⟨?_,f⟩;rw[kU,Dq,kE];refine m.grow ?_ (by rw[Dp];exact(T.oa.drop k).take _) λv hv z d=>?_
 ·rw[Dp,QM a.toList c.1,eE,eE];exact uo _ yP
 ·have d:=up z (C2.mp d);rcases dB.mp hv with hv|hv
  ·exact ax (f v hv) d
  ·obtain⟨j,h,e⟩:=zt hv;exact ax (T.ob.at e i (by lia)) d
theorem MH.galB(T:jS R a.toList b.toList)(m:MH R all out.toList (a.toList.take (na+1)++b.toList.take nb))(i:a.toList[na]?=some x)(l:nb<=b.size)(c:nq true R x b 0 nb k):MH R all (out++(b.extract k nb).reverse).toList (a.toList.take (na+1)++b.toList.take k)/\∀z∈b.toList.take k,R z<=R x:=by
 have f:∀z∈b.toList.take k,R z<=R x:=λz d=>by
  obtain⟨j,h,e⟩:=zt d;have:=c.2.1 j h;rw[iT,ij e] at this;exact dg this
 have up:∀z∈(b.toList.drop k).take (nb-k),R x<=R z:=λz d=>by
  obtain⟨j,h,e⟩:=zt d;rw[oA] at e;have:=c.2.2 (k+j) (by lia) (by lia);rw[iT,ij e] at this;exact this
 refine⟨?_,f⟩;rw[kU,Dq,kE];refine m.grow ?_ (by rw[Dp];exact(T.ob.drop k).take _) λv hv z d=>?_
 ·rw[Dp,QM b.toList c.1,eE]
 ·have d:=up z (C2.mp d);rcases dB.mp hv with hv|hv
  ·obtain⟨j,h,e⟩:=zt hv;exact ax (T.oa.at e i (by lia)) d
  ·exact ax (f v hv) d
end
theorem BU(a:Array Keyed)(n:Nat):(a.extract 0 n).toList=a.toList.take n:=by
 rw[kE,OI,CL]
theorem MH.done{a:Array Keyed}{b:Array Keyed}{c:Array Keyed}{d:Nat}{nb:Nat}(T:jS R a.toList b.toList)(m:MH R (a.toList++b.toList) c.toList (a.toList.take d++b.toList.take nb))(h:d=0\/nb=0):Fin R a.toList b.toList (a.extract 0 d++b.extract 0 nb++c.reverse):=by
 unfold Fin;rw[kU,kU,BU,BU,Dq];refine m.fin (.refl _) ?_;rcases h with rfl|rfl
 ·rw[CW,ON];exact T.ob.take _
 ·rw[CW,jy];exact T.oa.take _
theorem MH.firstB{a:Array Keyed}{b:Array Keyed}{c:Array Keyed}{d:Nat}{nb:Nat}(T:jS R a.toList b.toList)(m:MH R (a.toList++b.toList) c.toList (a.toList.take d++b.toList.take nb))(h:nb=1):Fin R a.toList b.toList (b.extract 0 nb++a.extract 0 d++c.reverse):=by
 unfold Fin;rw[kU,kU,BU,BU,Dq];refine m.fin yP (rJ.mpr ⟨T.ob.take _,T.oa.take _,λv f z g=>?_⟩);obtain⟨j,i,e⟩:=zt f;have:j=0:=by lia
 subst this;exact T.first v e z (me g)
section
variable {out:Array Keyed}{na:Nat}{nb:Nat}
inductive H1 (R:Keyed->Nat) (a b:Array Keyed) (au:SortSt) (x:Nat):Option (Array Keyed)×Nat×Nat×Array Keyed×Nat->SortSt->Prop where
 |mk {na nb:Nat}{out:Array Keyed}{g:Nat}{st':SortSt}(sm:jf au st') (m:MH R (a.toList++b.toList) out.toList (a.toList.take na++b.toList.take nb)) (a1:1<=na) (a2:na<=a.size) (b1:2<=nb) (b2:nb<=b.size) (hx:x+na+nb<a.size+b.size):H1 R a b au x (none,na,nb,out,g) st'
inductive H2 (R:Keyed->Nat) (a b:Array Keyed) (au:SortSt) (x:Nat):Option (Array Keyed)×Nat×Nat×Array Keyed×Nat×Nat->SortSt->Prop where
 |mk {na nb:Nat}{out:Array Keyed}{ac bc:Nat}{st':SortSt}(sm:jf au st') (m:MH R (a.toList++b.toList) out.toList (a.toList.take na++b.toList.take nb)) (a1:1<=na) (a2:na<=a.size) (b1:2<=nb) (b2:nb<=b.size) (hx:na+nb<=x):H2 R a b au x (none,na,nb,out,ac,bc) st'
inductive H3 (R:Keyed->Nat) (a b:Array Keyed) (au:SortSt) (x y:Nat):Option (Array Keyed)×Nat×Nat×Array Keyed×Nat×Nat×Nat->SortSt->Prop where
 |mk {na nb:Nat}{out:Array Keyed}{g ac bc:Nat}{st':SortSt}(sm:jf au st') (m:MH R (a.toList++b.toList) out.toList (a.toList.take na++b.toList.take nb)) (a1:1<=na) (a2:na<=a.size) (b1:2<=nb) (b2:nb<=b.size) (hx:y+na+nb<=x):H3 R a b au x y (none,na,nb,out,g,ac,bc) st'
end
section
variable {prog:Program}{w:World}{A:Around}{E:Value->Shared->Prop}{s:Shared}{κ:SortKind}{a₀:Array Keyed}{R:Keyed->Nat}{a:Array Keyed}{b:Array Keyed}{out:Array Keyed}{na:Nat}{nb:Nat}{k:Nat}{y:Keyed}{x:Keyed}
theorem OB{au:SortSt}{Q:Array Keyed->SortSt->Prop}(O:kB prog w A s κ a₀ R)(hk:kindOf au=κ)(ma:∀x∈a.toList,x∈a₀.toList)(mb:∀x∈b.toList,x∈a₀.toList)(T:jS R a.toList b.toList)(ha:1<=a.size)(hb:1<=b.size)
  (b9:∀x,a.toList[a.size-1]?=some x->∀y∈b.toList,R y<=R x)(h:∀r C,jf au C->Fin R a.toList b.toList r->Q r C):wpS (model prog w) A E s (mE a b) Q au:=by
 have d:∀(i:Nat) (hi:i<a.size),a[i]?=some a[i]/\a.toList[i]?=some a[i]/\a[i]∈a₀.toList:=λi hi=>⟨getElem?_pos a i hi,by rw[gR];exact getElem?_pos a i hi,ma _ (by simp)⟩
 have o:∀(i:Nat) (hi:i<b.size),b[i]?=some b[i]/\b.toList[i]?=some b[i]/\b[i]∈a₀.toList:=λi hi=>⟨getElem?_pos b i hi,by rw[gR];exact getElem?_pos b i hi,mb _ (by simp)⟩
 have b7:∀n,n<=a.size->eT R a 0 (0+n):=λn hn p q a1 a2 U=>by
  have hq:q<a.size:=da U (ax (gO (iT n)) hn);have e1:=(d p (iZ a2 hq)).2.1;have e2:=(d q hq).2.1;rw[ij e1,ij e2];exact T.oa.at e1 e2 a2
 have c3:∀n,n<=b.size->eT R b 0 (0+n):=λn hn p q a1 a2 U=>by
  have hq:q<b.size:=da U (ax (gO (iT n)) hn);have e1:=(o p (iZ a2 hq)).2.1;have e2:=(o q hq).2.1;rw[ij e1,ij e2];exact T.ob.at e1 e2 a2
 obtain⟨x0,f0,f1⟩:∃x,a[a.size-1]?=some x/\a.toList[a.size-1]?=some x:=⟨_,(d (a.size-1) (oh ha Nat.one_pos)).1,(d (a.size-1) (oh ha Nat.one_pos)).2.1⟩
 have start:MH R (a.toList++b.toList) (#[x0]:Array Keyed).toList (a.toList.take (a.size-1)++b.toList.take b.size):=by
  have z:MH R (a.toList++b.toList) (#[]:Array Keyed).toList (a.toList.take (a.size-1+1)++b.toList.take b.size):=by
   refine⟨?_,List.Pairwise.nil,by simp⟩;rw[ug ha,jD (by simp),jD (by simp)];simp
  exact z.pushA T f1 λy hy=>b9 x0 f1 y (me hy)
 refine bg (pA (og ⟨rfl,bg (ph f0 (vQ (λc1=>?_) (λc2=>?_) λc1 c2=>?_))⟩))
 ·exact bp (h _ _ (.refl _) (start.done T (.inl (by simpa using c1))))
 ·exact bp (h _ _ (.refl _) (start.firstB T (by simpa using c2)))
 simp only[l5] at c1 c2;refine bg (kQ ?_);refine bg (iS (iu (I:=H1 R a b au) (Q:=Dn R a b au) ?_ ?_ (.mk (.refl _) start (by lia) (by lia) (by lia) (bj _) (by lia))) ?_)
 ·rintro x c a7 x1 x2 @⟨na,nb,out,g,a7,a9,m,a1,a2,b1,b2,hx⟩;dsimp only;refine bg (iS (iu (I:=λ_=>H2 R a b au (na+nb)) (Q:=λc C=>Dn R a b au c C\/H2 R a b au (na+nb) c C) ?_ ?_ (.mk a9 m a1 a2 b1 b2 (bj _))) ?_)
  ·rintro x' c a8 _ _ @⟨na',v,out,ac,bc,a8,l,m,Y,G,X,t,hp⟩;obtain⟨p,rfl⟩:∃p,na'=p+1:=⟨na'-1,(ug Y).symm⟩
   obtain⟨q,rfl⟩:∃q,v=q+1:=⟨v-1,(ug (jA X)).symm⟩
   dsimp only;have ea:=(d p G).1;have P:=(d p G).2.1;have b4:=(d p G).2.2;have eb:=(o q t).1;have S:=(o q t).2.1;have b3:=(o q t).2.2;refine eP eb (eP ea (wU O (l.kind.trans hk) b3 b4 (λcw=>eP ea ?_) λcw=>eP eb ?_))
   ·skip
    have m2:=m.pushA T P λz hz=>by
     obtain⟨j,hj,e⟩:=zt hz;exact ax (T.ob.at e S (hX hj)) (dg cw)
    refine fx (λc5=>bp (.inl (.mk l (m2.done T (.inl (eq_of_beq c5)))))) λc5=>?_
    rw[l5] at c5;have U:1<=p:=Pb c5;have a4:p<=a.size:=jA G;have a5:p+(q+1)<=na+nb:=ax (Nat.add_le_add_right (tU p) _) hp;exact fx (λ_=>bp (.inr (.mk l m2 U a4 X t a5))) λ_=>bp (.mk l m2 U a4 X t a5)
   ·skip
    have m2:=m.pushB T S λz hz=>by
     obtain⟨j,hj,e⟩:=zt hz;exact ax (T.oa.at e P (hX hj)) cw
    refine fx (λc5=>bp (.inl (.mk l (m2.firstB T (eq_of_beq c5))))) λc5=>?_
    rw[l5] at c5;have U:2<=q:=jC (Nat.le_of_succ_le_succ X) (fO c5);have a4:q<=b.size:=jA t;have a5:p+1+q<=na+nb:=jA hp;exact fx (λ_=>bp (.inr (.mk l m2 Y G U a4 a5))) λ_=>bp (.mk l m2 Y G U a4 a5)
  ·exact λc a8 k=>.inr k
  ·rintro c a8 (⟨l,f⟩|@⟨na',v,out,ac,bc,a8,l,m,Y,G,X,t,hp⟩)
   ·exact bp (.mk l f)
   ·dsimp only;refine bg (pA (og ⟨rfl,?_⟩));refine bg (iS (iu (I:=H3 R a b au (na+nb)) (Q:=λc C=>Dn R a b au c C\/H3 R a b au (na+nb) 1 c C) ?_ ?_ (.mk l m Y G X t (by rw[iT];exact hp))) ?_)
    ·rintro x' c b0 _ c4 @⟨na',v,out,g',ac,bc,b0,H,m,Y,G,X,t,hp⟩;obtain⟨q,rfl⟩:∃q,v=q+1:=⟨v-1,(ug (jA X)).symm⟩
     dsimp only;have eb:=(o q t).1;have S:=(o q t).2.1;have b3:=(o q t).2.2;generalize g'-1=Y;generalize g'=y;revert Y;revert y
     refine vR ?_;intro gg;refine bg (n5 λb8 sg=>?_);have u:=H.trans sg;refine eP eb (bg (tw O (u.kind.trans hk) b3 (λi hi=>⟨_,(d (0+i) (by lia)).1,(d (0+i) (by lia)).2.2⟩) (by lia) (b7 na' G) λk1 J=>?_));have m5:=(m.galA T S G J).1;have u5:=(m.galA T S G J).2;have b6:=J.1;dsimp only;refine vP (λc6=>?_) (λc6 c7=>?_) λhh=>?_
     ·have z:k1=na':=by lia
      subst z;rw[show out++(a.extract k1 k1).reverse=out by simp[rB]]
     ·exact bp (.inl (.mk u (m5.done T (.inl (eq_of_beq c7)))))
     have g5:1<=k1:=by
      by_cases c6:na'-k1 > 0
      ·have:=hh c6;simp at this;lia
      ·lia
     have g6:k1<=a.size:=ax b6 G;have c8:x'+k1+(q+1)<=na+nb:=by lia
     clear hh b6 J;generalize out++(a.extract k1 na').reverse=out5 at m5 ⊢;obtain⟨p,rfl⟩:∃p,k1=p+1:=⟨k1-1,(ug g5).symm⟩
     simp only[Nat.add_sub_cancel];have m6:=m5.pushB T S u5;have ea:=(d p g6).1;have P:=(d p g6).2.1;have b4:=(d p g6).2.2;refine eP eb (fx (λc9=>bp (.inl (.mk u (m6.firstB T (eq_of_beq c9))))) λc9=>eP ea ?_);rw[l5] at c9;refine bg (tw O (u.kind.trans hk) b4 (λi hi=>⟨_,(o (0+i) (by lia)).1,(o (0+i) (by lia)).2.2⟩) (by lia) (c3 q (jA t)) λk2 a0=>?_);have m7:=(m6.galB T P (jA t) a0).1;have u7:=(m6.galB T P (jA t) a0).2;have c0:=a0.1;dsimp only;refine wT (λd6=>?_) (λd6 d7=>?_) (λd6 d9=>?_) λhh=>?_
     ·have z2:k2=q:=by lia
      subst z2;simp only[PD (ax (rB _ _) (bj _)),Array.reverse_empty,Pc]
     ·exact bp (.inl (.mk u (m7.firstB T (eq_of_beq d7))))
     ·exact bp (.inl (.mk u (m7.done T (.inr (eq_of_beq d9)))))
     have b5:2<=k2:=by
      by_cases d6:q-k2 > 0
      ·have:=hh d6;simp at this;lia
      ·lia
     have m8:=m7.pushA T P u7;refine eP ea (fx (λd8=>bp (.inl (.mk u (m8.done T (.inl (eq_of_beq d8)))))) λd8=>?_);rw[l5] at d8;have U:1<=p:=Pb d8;have a4:p<=a.size:=jA g6;have a5:k2<=b.size:=ax c0 (jA t);have a6:x'+1+p+k2<=na+nb:=by lia
     exact fx (λ_=>bp (.inr (.mk u m8 U a4 b5 a5 (by lia)))) λ_=>bp (.mk u m8 U a4 b5 a5 a6)
    ·rintro c b0 ⟨H,m,Y,G,X,t,hp⟩;exact .inr (.mk H m Y G X t (by lia))
    ·rintro c b0 (⟨H,f⟩|@⟨na',v,out,g',ac,bc,b0,H,m,Y,G,X,t,hp⟩)
     ·exact bp (.mk H f)
     ·have h9:x+1+na'+v<a.size+b.size:=by lia
      exact bg (n5 λb8 sg=>bp (.mk (H.trans sg) m Y G X t h9))
 ·rintro c a7 ⟨a9,m,a1,a2,b1,b2,hx⟩;lia
 ·rintro c a7 ⟨a9,f⟩;exact bp (h _ a7 a9 f)
end
theorem Ej:∀(l:List Keyed) (n b:Nat) (d:Array Keyed),b+n+l.length<=d.size->∀i,((l.zipIdx n).foldl (λa p=>a.setIfInBounds (b+p.2) p.1) d)[i]?=if b+n<=i/\i<b+n+l.length then l[i-(b+n)]? else d[i]?
 |[],n,b,d,h,i=>by
  rw[if_neg (by simp)]
  rfl
 |x::l,n,b,d,h,i=>by
  rw[List.zipIdx_cons,lE];rw[dh] at h;have e:b+(n+1)+l.length=b+n+(l.length+1):=Nat.succ_add_eq_add_succ (b+n) l.length;rw[Ej l (n+1) b _ (by rw[Array.size_setIfInBounds];exact ax (gO e) h) i];rw[dh];by_cases c:b+(n+1)<=i/\i<b+(n+1)+l.length
  ·rw[if_pos c,if_pos ⟨jA c.1,rG c.2 e⟩,show i-(b+n)=i-(b+(n+1))+1 from(ug (pO c.1)).symm,yT]
  ·rw[if_neg c];by_cases c2:i=b+n
   ·rw[if_pos ⟨gO c2.symm,iZ (gO c2) (Dx (Nat.succ_pos _))⟩,c2,rm,Pu];exact T1 (da (Dx (Nat.succ_pos l.length)) h)
   ·rw[if_neg λz=>c ⟨jC z.1 (fO c2),rG z.2 e.symm⟩];exact T0 (λz=>c2 z.symm)
theorem MO{m b:Array Keyed}(h:off+m.size<=b.size):(m.toList.zipIdx.foldl (λa p=>a.setIfInBounds (off+p.2) p.1) b).toList=b.toList.take off++m.toList++b.toList.drop (off+m.size):=by
 apply ue;intro i;rw[gR,Ej m.toList 0 off b (by simpa using h) i];simp only[tW,fM];have d:(b.toList.take off).length=off:=by rw[gw,fM];exact j6 (ax (fe _ _) h)
 by_cases c:off<=i/\i<off+m.size
 ·rw[if_pos c,eE,kZ (ax (gO d) c.1),d,gx (by rw[fM];exact oE c.1 c.2)]
 ·rw[if_neg c];by_cases c2:i<off
  ·rw[eE,gx (rG c2 d.symm),List.getElem?_take,if_pos c2,gR]
  ·have e:off+m.size<=i:=fJ λz=>c ⟨fJ c2,z⟩
   rw[kZ (by rw[cJ,d,fM];exact e),oA];simp only[cJ,d,fM];rw[gQ e,gR]
theorem xS(up:eT R xs i j)(d:j<=xs.size):Ord R (xs.extract i j).toList:=by
 rw[kE];refine uq.mpr λp q c a b=>?_
 simp only[gw,mZ,fM] at c a;simp only[O3,O4,Array.getElem_toList];have:=up (i+p) (i+q) (fe _ _) (g8 (dg b) i) (nj (da a (rB _ _)));rw[iN (getElem?_pos xs (i+p) (nj (da c (rD _ _)))),iN (getElem?_pos xs (i+q) (nj (da a (rD _ _))))] at this;exact this
theorem sT{a:Array Keyed}(h:x∈(a.extract i j).toList):∃q,i<=q/\q<j/\a[q]?=some x:=by
 rw[kE] at h;obtain⟨q,b,e⟩:=zt h;rw[oA,gR] at e;exact⟨i+q,fe _ _,nj b,e⟩
theorem wo{a:Array Keyed}(h:q<j-i):(a.extract i j).toList[q]?=a[i+q]?:=by
 rw[kE,List.getElem?_take,if_pos h,oA,gR]
structure Mg (R:Keyed->Nat) (xs ys:Array Keyed) (lo hi:Nat):Prop where
 perm:ys.Perm xs
 out:dZ ys xs lo hi
 up:eT R ys lo hi
theorem NU{d:Array Keyed}{b sb ea k nb':Nat}(a5:sb<=ea)(t:ea<=d.size)(w:b+k<sb)(l:sb+nb'<=ea)(a6:1<=nb')(y:eT R d b sb)(H:eT R d sb ea)
  (e0:d[sb]?=some y0)(el:d[sb-1]?=some xl)(c1:nq false R y0 d b (sb-b) k)(c2:nq true R xl d sb (ea-sb) nb')
  (f:Fin R (d.extract (b+k) sb).toList (d.extract sb (sb+nb')).toList m):Mg R d (m.toList.zipIdx.foldl (λa p=>a.setIfInBounds (b+k+p.2) p.1) d) b ea:=by
 have lx:(d.extract (b+k) sb).toList.length=sb-(b+k):=by rw[kE,gw,mZ,fM];exact j6 (rK (ax a5 t) _)
 have ly:(d.extract sb (sb+nb')).toList.length=nb':=by rw[kE,gw,mZ,fM,lL];exact j6 (pT (ax l t))
 have P:m.size=sb+nb'-(b+k):=by
  have:=f.1.length_eq;rw[cJ,lx,ly,fM] at this;exact this.trans (Nat.sub_add_comm (dg w)).symm
 have he:b+k+m.size=sb+nb':=by rw[P];exact gQ (ax (dg w) (fe _ _))
 have I:b+k+m.size<=d.size:=by rw[he];exact ax l t
 have J:=kW w;have s1:sb-1<sb:=oh (C8 w) Nat.one_pos;have g:∀i,(m.toList.zipIdx.foldl (λa p=>a.setIfInBounds (b+k+p.2) p.1) d)[i]?=if b+k<=i/\i<sb+nb' then m.toList[i-(b+k)]? else d[i]?:=λi=>by
  have:=Ej m.toList 0 (b+k) d (by simpa using I) i;simp only[tW,fM] at this;rw[he] at this;exact this
 have C:∀v∈m.toList,R y0<=R v/\R v<=R xl:=λv hv=>by
  rcases dB.mp (f.1.mem_iff.mp hv) with hv|hv
  ·obtain⟨q,x,E,e⟩:=sT hv;have X:=ax (fe _ _) x;have r:=c1.2.2 (q-b) (pT x) (oC X E);rw[gQ X,iN e] at r;have s:=y q (sb-1) X (kW E) s1;rw[iN e,iN el] at s;have a4:R y0<R v:=r;exact⟨dg a4,s⟩
  ·obtain⟨q,x,E,e⟩:=sT hv;have r:=H sb q (bj _) x (da E l);rw[iN e,iN e0] at r;have s:=c2.2.1 (q-sb) (oE x E);rw[gQ x,iN e] at s;have a0:R v<R xl:=s;exact⟨r,dg a0⟩
 have U:∀i,b<=i->i<b+k->kA R d i<=R y0:=λi o n=>by
  have:=c1.2.1 (i-b) (oE o n);rw[gQ o] at this;exact this
 have G:∀i,sb+nb'<=i->i<ea->R xl<=kA R d i:=λi o n=>by
  have i0:=ax (fe _ _) o;have:=c2.2.2 (i-sb) (pT o) (oC i0 n);rw[gQ i0] at this;exact this
 have kk:∀i,kA R (m.toList.zipIdx.foldl (λa p=>a.setIfInBounds (b+k+p.2) p.1) d) i=if b+k<=i/\i<sb+nb' then kA R m (i-(b+k)) else kA R d i:=λi=>by
  have:=g i;split
  ·rename_i c;rw[if_pos c,gR] at this;exact nD this
  ·rename_i c;rw[if_neg c] at this;exact nD this
 have mm:∀i,i<m.size->∃v,m.toList[i]?=some v/\v∈m.toList:=λi S=>⟨m.toList[i]'(by simpa using S),bS _,fZ _⟩
 refine⟨?_,λi S=>?_,λi j o n Y=>?_⟩
 ·refine ur.mpr ?_;rw[MO I,he];have split:d.toList=d.toList.take (b+k)++((d.extract (b+k) sb).toList++(d.extract sb (sb+nb')).toList)++d.toList.drop (sb+nb'):=by
   rw[kE,kE];rw[lL]
   conv=>lhs;rw[←kc (b+k) d.toList,←kc (sb-(b+k)) (d.toList.drop (b+k)),CY,gQ (dg w),←kc nb' (d.toList.drop sb),CY]
   simp only[eE]
  conv=>rhs;rw[split]
  exact Dw _ (uo _ f.1)
 ·rw[g i,if_neg λz=>S.elim (λh=>md (ax (fe b k) z.1) h) λh=>md h (da z.2 l)]
 ·rw[kk,kk];by_cases ci:b+k<=i/\i<sb+nb'
  ·rw[if_pos ci];obtain⟨v,ev,mv⟩:=mm (i-(b+k)) (by rw[P];exact oC ci.1 ci.2);rw[ij ev];by_cases cj:b+k<=j/\j<sb+nb'
   ·rw[if_pos cj];obtain⟨u,Q,mu⟩:=mm (j-(b+k)) (by rw[P];exact oC cj.1 cj.2);rw[ij Q];exact f.2.at ev Q (rK n _)
   ·rw[if_neg cj];exact ax (C v mv).2 (G j (fJ λz=>cj ⟨ax ci.1 n,z⟩) Y)
  ·rw[if_neg ci];by_cases ci2:i<b+k
   ·have r:=U i o ci2;by_cases cj:b+k<=j/\j<sb+nb'
    ·rw[if_pos cj];obtain⟨u,Q,mu⟩:=mm (j-(b+k)) (by rw[P];exact oC cj.1 cj.2);rw[ij Q];exact ax r (C u mu).1
    ·rw[if_neg cj];by_cases cj2:j<b+k
     ·exact y i j o n (ro cj2 w)
     ·have s:=G j (fJ λz=>cj ⟨fJ cj2,z⟩) Y;have h3:R y0<=R xl:=by
       have s0:=ax (fe _ _) J;have h4:=c1.2.2 (sb-1-b) (pT J) (oC s0 s1);rw[gQ s0,iN el] at h4;exact dg h4
      exact ax r (ax h3 s)
   ·have A:sb+nb'<=i:=fJ λz=>ci ⟨fJ ci2,z⟩
    rw[if_neg λz=>md (ax A n) z.2];exact H i j (ax (fe _ _) A) n Y
section
variable {prog:Program}{w:World}{A:Around}{E:Value->Shared->Prop}{s:Shared}
theorem Gq{x au:SortSt}{Q:Unit->SortSt->Prop}(h:Q () x):wpS (model prog w) A E s (set x:StateT SortSt Sem PUnit) Q au:=by
 unfold wpS;rw[StateT.run_set];exact ar ⟨rfl,h⟩
end
section
variable {prog:Program}{w:World}{A:Around}{E:Value->Shared->Prop}{s:Shared}{κ:SortKind}{a₀:Array Keyed}{R:Keyed->Nat}
theorem OA{i d S pw sb nb b0:Nat}{au:SortSt}{Q:Bool->SortSt->Prop}(O:kB prog w A s κ a₀ R)(b:B κ a₀ au)(p1:(pendingOf au)[i]?=some (d,S,pw))(p2:(pendingOf au)[i+1]?=some (sb,nb,b0))(l:sb=d+S)(b2:1<=S)(a5:1<=nb)(hz:sb+nb<=a₀.size)
  (o:eT R (arrOf au) d sb)(r:eT R (arrOf au) sb (sb+nb))
  (h:∀v,B κ a₀ v->pendingOf v=((pendingOf au).setIfInBounds i (d,S+nb,pw)).eraseIdxIfInBounds (i+1)->dZ (arrOf v) (arrOf au) d (sb+nb)->eT R (arrOf v) d (sb+nb)->Q true v):wpS (model prog w) A E s (mergeAt' i) Q au:=by
 have a8:=b.size;have bs:sb<a₀.size:=da (Dx a5) hz;refine bg (kQ ?_);dsimp only;have P:(sortPriv% PySem.Builtin.SortState.pending) au=pendingOf au:=rfl;rw[P,p1,p2];dsimp only;refine bg (Gq ?_);obtain⟨y0,e0,b3⟩:=b.mem (i:=sb) bs;have C:∀q,q<a₀.size->∃x,(arrOf au)[q]?=some x/\x∈a₀.toList:=λq hq=>b.mem hq
 refine bg (ph e0 ?_);refine bg (tw O b.kind b3 (λq hq=>C (d+q) (ro (rG (nc hq d) l.symm) bs)) b2 (by rw[←l];exact o) λk c1=>?_);dsimp only;have hk:=c1.1;have b5:nq false R y0 (arrOf au) d (sb-d) k:=by rw[show sb-d=S from by rw[l,lL]];exact c1
 by_cases d1:S-k=0
 ·rw[if_pos (by simpa using d1)];refine bp (h _ ⟨b.perm,b.kind,b.failed⟩ rfl (dZ.refl _ _ _) λp q G t H=>?_);by_cases z1:q<sb
  ·exact o p q G t z1
  ·by_cases z2:p<sb
   ·have h1:=c1.2.1 (p-d) (da (oE G (rG z2 l)) (Nat.le_of_sub_eq_zero d1));rw[gQ G] at h1;have h2:=r sb q (bj _) (fJ z1) H;rw[iN e0] at h2;exact ax h1 h2
   ·exact r p q (fJ z2) t H
 ·rw[if_neg (by simpa using d1)];have j:d+k<sb:=rG (nc (pL λz=>d1 (Nat.sub_eq_zero_of_le z)) d) l.symm;have s1:sb-1<sb:=oh (C8 j) Nat.one_pos;obtain⟨xl,el,a9⟩:=C (sb-1) (ro s1 bs);have b4:(arrOf au)[d+k+(S-k)-1]?=some xl:=by rw[CT,gQ hk,←l];exact el
  refine bg (ph b4 ?_);refine bg (tw O b.kind a9 (λq hq=>C (sb+q) (da (nc hq sb) hz)) (oh a5 Nat.one_pos) r λnb' c2=>?_);dsimp only;have b1:=c2.1;have b6:nq true R xl (arrOf au) sb (sb+nb-sb) nb':=by rw[lL];exact c2
  by_cases d2:nb'=0
  ·rw[if_pos (by simpa using d2)];refine bp (h _ ⟨b.perm,b.kind,b.failed⟩ rfl (dZ.refl _ _ _) λp q G t H=>?_);subst d2;by_cases z1:q<sb
   ·exact o p q G t z1
   ·by_cases z2:p<sb
    ·have h1:=o p (sb-1) G (kW z2) s1;rw[iN el] at h1;have h2:=c2.2.2 (q-sb) (ir _) (oE (fJ z1) H);rw[gQ (fJ z1)] at h2;exact ax h1 h2
    ·exact r p q (fJ z2) t H
  ·rw[if_neg (by simpa using d2)];have J:1<=nb':=Pb d2;have a6:sb<=(arrOf au).size:=by rw[a8];exact dg bs
   have a0:sb+nb<=(arrOf au).size:=by rw[a8];exact hz
   have u:sb+nb'<=sb+nb:=g8 b1 sb;have oa:Ord R ((arrOf au).extract (d+k) sb).toList:=xS (λp q G t H=>o p q (ax (fe _ _) G) t H) a6;have ob:Ord R ((arrOf au).extract sb (sb+nb')).toList:=xS (λp q G t H=>r p q G t (da H u)) (ax u a0);have ma:∀x∈((arrOf au).extract (d+k) sb).toList,x∈a₀.toList:=λx n=>by
    obtain⟨q,P,X,e⟩:=sT n;obtain⟨x',e',m'⟩:=C q (ro X bs);rw[e] at e';cases e';exact m'
   have mb:∀x∈((arrOf au).extract sb (sb+nb')).toList,x∈a₀.toList:=λx n=>by
    obtain⟨q,P,X,e⟩:=sT n;obtain⟨x',e',m'⟩:=C q (da X (ax u hz));rw[e] at e';cases e';exact m'
   have sx:((arrOf au).extract (d+k) sb).size=sb-(d+k):=by rw[Array.size_extract,j6 a6]
   have sy:((arrOf au).extract sb (sb+nb')).size=nb':=by rw[Array.size_extract,j6 (ax u a0),lL]
   have a4:∀y,((arrOf au).extract sb (sb+nb')).toList[0]?=some y->∀x∈((arrOf au).extract (d+k) sb).toList,R y<=R x:=λy hy x n=>by
    rw[wo (by rw[lL];exact J),tW,e0] at hy;cases hy;obtain⟨q,P,X,e⟩:=sT n;have q0:=ax (fe _ _) P;have:=c1.2.2 (q-d) (pT P) (oE q0 (rG X l));rw[gQ q0,iN e] at this;exact dg this
   have a7:∀x,((arrOf au).extract (d+k) sb).toList[sb-(d+k)-1]?=some x->∀y∈((arrOf au).extract sb (sb+nb')).toList,R y<=R x:=λx n y hy=>by
    rw[wo (oh (pO j) Nat.one_pos),show d+k+(sb-(d+k)-1)=sb-1 from by rw[←Nat.add_sub_assoc (pO j),gQ (dg j)],el] at n;cases n;obtain⟨q,P,X,e⟩:=sT hy;have:=c2.2.1 (q-sb) (oE P X);rw[gQ P,iN e] at this;exact dg this
   have U:∀m g,jf au g\/True->Fin R ((arrOf au).extract (d+k) sb).toList ((arrOf au).extract sb (sb+nb')).toList m->Mg R (arrOf au) (m.toList.zipIdx.foldl (λa p=>a.setIfInBounds (d+k+p.2) p.1) (arrOf au)) d (sb+nb):=λm _ _ f=>
    NU (fe _ _) a0 j u J o r e0 el b5 b6 f
   by_cases d3:S-k<=nb'
   ·rw[if_pos d3];refine bg (OC O b.kind ma mb ⟨oa,ob,λx n=>a7 x (by rw[fM,sx] at n;exact n)⟩ (by show 1<=((arrOf au).extract (d+k) sb).size;rw[sx];exact pO j) (by show 1<=((arrOf au).extract sb (sb+nb')).size;rw[sy];exact J) a4 λm g I f=>?_);have Y:=U m g (.inr trivial) f;refine bg (l4 (bg (kQ ?_)));have t:arrOf g=arrOf au:=I.arr;have f2:failedOf g=none:=I.failed.trans b.failed;refine bp (?_:Q ((failedOf g).isNone) (setArr g (m.toList.zipIdx.foldl (λa p=>a.setIfInBounds (d+k+p.2) p.1) (arrOf g))));rw[f2,t];exact h _ ⟨Y.perm.trans b.perm,I.kind.trans b.kind,f2⟩ I.pend Y.out Y.up
   ·rw[if_neg d3];refine bg (OB O b.kind ma mb ⟨oa,ob,a4⟩ (by show 1<=((arrOf au).extract (d+k) sb).size;rw[sx];exact pO j) (by show 1<=((arrOf au).extract sb (sb+nb')).size;rw[sy];exact J) (λx n=>a7 x (by rw[sx] at n;exact n)) λm g I f=>?_);have Y:=U m g (.inr trivial) f;refine bg (l4 (bg (kQ ?_)));have t:arrOf g=arrOf au:=I.arr;have f2:failedOf g=none:=I.failed.trans b.failed;refine bp (?_:Q ((failedOf g).isNone) (setArr g (m.toList.zipIdx.foldl (λa p=>a.setIfInBounds (d+k+p.2) p.1) (arrOf g))));rw[f2,t];exact h _ ⟨Y.perm.trans b.perm,I.kind.trans b.kind,f2⟩ I.pend Y.out Y.up
end
def br(R:Keyed->Nat) (a:Array Keyed):Nat->List (Nat×Nat×Nat)->Nat->Prop
 |s,[],e=>s=e
 |s,p::r,e=>p.1=s/\1<=p.2.1/\eT R a s (s+p.2.1)/\br R a (s+p.2.1) r e
theorem br.le:∀{l:List (Nat×Nat×Nat)}{s e:Nat},br R xs s l e->s+l.length<=e
 |[],s,e,h=>by cases h;simp
 |p::r,s,e,h=>by
  have:=br.le h.2.2.2;have:=h.2.1;simp;lia
theorem br.append:∀{l m:List (Nat×Nat×Nat)}{s e:Nat},br R xs s (l++m) e↔∃k,br R xs s l k/\br R xs k m e
 |[],m,s,e=>⟨λh=>⟨s,rfl,h⟩,λ⟨k,b,a⟩=>by cases b;exact a⟩
 |p::r,m,s,e=>by
  constructor
  ·rintro⟨b,a,f,d⟩;obtain⟨k,g,c⟩:=br.append.mp d;exact⟨k,⟨b,a,f,g⟩,c⟩
  ·rintro⟨k,⟨b,a,f,d⟩,c⟩;exact⟨b,a,f,br.append.mpr ⟨k,d,c⟩⟩
theorem eT.same(h:eT R xs a b)(e:∀i,a<=i->i<b->ys[i]?=xs[i]?):eT R ys a b:=λi j d f c=>by
 rw[nD (e i d (iZ f c)),nD (e j (ax d f) c)];exact h i j d f c
theorem br.same:∀{l:List (Nat×Nat×Nat)}{s e:Nat},br R xs s l e->(∀i,s<=i->i<e->ys[i]?=xs[i]?)->br R ys s l e
 |[],s,e,h,_=>h
 |p::r,s,e,h,k=>by
  have:=br.le h.2.2.2;exact⟨h.1,h.2.1,h.2.2.1.same λi a b=>k i a (da b (ax (fe _ _) this)),br.same h.2.2.2 λi a b=>k i (ax (fe _ _) a) b⟩
theorem br.power:∀{l m:List (Nat×Nat×Nat)},l.map (λp=>(p.1,p.2.1))=m.map (λp=>(p.1,p.2.1))->br R xs s l e->br R xs s m e:=by
 intro l
 induction l generalizing s with
 |nil=>intro m h k;cases m with
  |nil=>exact k
  |cons=>cases h
 |cons p r ih=>intro m h k;cases m with
  |nil=>cases h
  |cons q t=>
   rw[ce,ce] at h;obtain⟨j,d⟩:=List.cons.inj h;obtain⟨f,g⟩:=Prod.mk.inj j;obtain⟨i,b,a,c⟩:=k;rw[g] at b a c;exact⟨f.symm.trans i,b,a,ih d c⟩
theorem L5{l:List (Nat×Nat×Nat)}(h:i+1<l.length):∃b p q a,l=b++p::q::a/\b.length=i:=by
 refine⟨l.take i,l[i],l[i+1],l.drop (i+2),?_,by rw[gw];exact j6 (dg (oy h))⟩
 conv=>lhs;rw[←kc i l,kY (oy h),kY h]
section
variable {prog:Program}{w:World}{A:Around}{E:Value->Shared->Prop}{s:Shared}{κ:SortKind}{a₀:Array Keyed}{R:Keyed->Nat}
theorem rP{i e:Nat}{au:SortSt}{Q:Bool->SortSt->Prop}(O:kB prog w A s κ a₀ R)(b:B κ a₀ au)(C:br R (arrOf au) 0 (pendingOf au).toList e)(he:e<=a₀.size)(P:i+1<(pendingOf au).size)
  (h:∀a,B κ a₀ a->br R (arrOf a) 0 (pendingOf a).toList e->(pendingOf a).size+1=(pendingOf au).size->(∀k,e<=k->(arrOf a)[k]?=(arrOf au)[k]?)->Q true a):wpS (model prog w) A E s (mergeAt' i) Q au:=by
 obtain⟨r,p,q,post,m,f⟩:=L5 (l:=(pendingOf au).toList) (i:=i) (by simpa using P);obtain⟨d,g,v⟩:=p;obtain⟨sb,nb,o⟩:=q;rw[m] at C;obtain⟨k,G,g2⟩:=br.append.mp C;obtain⟨J,u,z,n,H,x,t⟩:=g2;dsimp only at J u z n H x t;subst J;have l7:=br.le t;have l1:=br.le G;have X:(pendingOf au)[i]?=some (d,g,v):=by rw[←gR,m,kZ (gO f),f,rm];rfl
 have Y:(pendingOf au)[i+1]?=some (sb,nb,o):=by rw[←gR,m,kZ (ax (gO f) (fe i 1)),f,lL];rfl
 refine OA O b X Y n u H (by lia) (by rw[n];exact z) (by rw[n];exact x) λa S U ou up=>?_
 have y:(pendingOf a).toList=r++(d,g+nb,v)::post:=by
  rw[U];rw[Array.toList_eraseIdxIfInBounds,Array.toList_setIfInBounds,m];rw[List.set_append_right _ _ (gO f),f,rm,List.set_cons_zero,List.eraseIdx_append_of_length_le (ax (gO f) (fe i 1)),f,lL]
  rfl
 have c:∀j,j<d\/sb+nb<=j->(arrOf a)[j]?=(arrOf au)[j]?:=ou
 refine h a S ?_ ?_ λj hj=>c j (.inr (by lia))
 ·rw[y];refine br.append.mpr ⟨d,G.same λj a1 I=>c j (.inl I),rfl,by show 1<=g+nb;lia,?_,?_⟩
  ·show eT R (arrOf a) d (d+(g+nb));rw[show d+(g+nb)=sb+nb by lia];exact up
  ·show br R (arrOf a) (d+(g+nb)) post e;rw[show d+(g+nb)=d+g+nb by lia];exact t.same λj a1 I=>c j (.inr (by lia))
 ·have e1:(pendingOf a).size=(pendingOf a).toList.length:=by simp
  have e2:(pendingOf au).size=(pendingOf au).toList.length:=by simp
  rw[e1,e2,y,m];simp only[cJ,dh];lia
end
theorem Ht [Decidable c] (d:a+1<n)(e:b+1<n):(if c then a else b)+1<n:=by split<;>assumption
theorem xG(h:∀x,g (f x)=g x):∀(l:List (Nat×Nat×Nat)) (i:Nat),(l.modify i f).map g=l.map g
 |[],i=>by simp
 |x::l,0=>by simp[h]
 |x::l,i+1=>by simp[xG h l i]
theorem br.mod(h:br R xs s l e)(i c:Nat):br R xs s (l.modify i λx=>(x.1,x.2.1,c)) e:=
 h.power (xG (g:=λp=>(p.1,p.2.1)) (f:=λx=>(x.1,x.2.1,c)) (λ_=>rfl) l i).symm
section
variable {prog:Program}{w:World}{A:Around}{E:Value->Shared->Prop}{s:Shared}{κ:SortKind}{a₀:Array Keyed}{R:Keyed->Nat}
theorem IE{au:SortSt}{Q:Unit->SortSt->Prop}(O:kB prog w A s κ a₀ R)(b:B κ a₀ au)(pe:pendingOf au=#[])(h2:2<=a₀.size)
  (h:∀a,B κ a₀ a->eT R (arrOf a) 0 a₀.size->Q () a):wpS (model prog w) A E s sortRuns' Q au:=by
 have hz:=b.size;rw[sortRuns'_eq];refine bg (kQ ?_);dsimp only;rw[hz]
 refine bg (iS (iu (I:=λx c a=>∃lo,c=(none,lo)/\B κ a₀ a/\br R (arrOf a) 0 (pendingOf a).toList lo/\lo<=a₀.size/\x<=lo)
  (Q:=λc a=>c=(none,a₀.size)/\B κ a₀ a/\br R (arrOf a) 0 (pendingOf a).toList a₀.size) ?_ ?_ ⟨0,rfl,b,by rw[pe];rfl,by lia,by lia⟩) ?_)
 ·rintro x c S x1 x2 ⟨lo,rfl,J,t,H,hx⟩;dsimp only;by_cases c1:lo ≥ a₀.size
  ·rw[if_pos c1];have:lo=a₀.size:=by lia
   subst this;exact bp ⟨rfl,J,t⟩
  rw[if_neg c1];refine bg (KL O J (by lia) (by lia) λm f m1 m2 z P U=>?_);dsimp only;have e:br R (arrOf f) 0 (pendingOf f).toList lo:=by
   rw[P.pend];exact t.same λi X Y=>P.out i (.inl Y)
  by_cases c2:m<minRun' a₀.size a₀.size 0
  ·rw[if_pos c2];refine bg (pA (og ⟨rfl,?_⟩));refine bg (Gp O z (by lia) m1 (by lia) U λk y G o=>?_);have l:br R (arrOf k) 0 (pendingOf k).toList lo:=by
    rw[G.pend];exact e.same λi X Y=>G.out i (.inl Y)
   have u:1<=min (a₀.size-lo) (minRun' a₀.size a₀.size 0):=by lia
   have q:lo+min (a₀.size-lo) (minRun' a₀.size a₀.size 0)<=a₀.size:=by lia
   simp only[Bool.not_true,jo,gj];generalize min (a₀.size-lo) (minRun' a₀.size a₀.size 0)=n at o u q G ⊢;refine bg (kQ ?_);cases hb:(pendingOf k).back? with
   |none=>
    dsimp only;refine bg (l4 (bp ⟨lo+n,rfl,⟨y.perm,y.kind,y.failed⟩,?_,q,by lia⟩));show br R (arrOf k) 0 ((pendingOf k).push (lo,n,0)).toList (lo+n);rw[m9];exact br.append.mpr ⟨lo,l,rfl,u,o,rfl⟩
   |some p=>
    obtain⟨s1,n1,p1⟩:=p;dsimp only;refine bg (iS (iu (I:=λ_ c a=>c=(none,())/\B κ a₀ a/\br R (arrOf a) 0 (pendingOf a).toList lo/\eT R (arrOf a) lo (lo+n)) (Q:=λc a=>c=(none,())/\B κ a₀ a/\br R (arrOf a) 0 (pendingOf a).toList lo/\eT R (arrOf a) lo (lo+n)) ?_ (λ_ _ hh=>hh) ⟨rfl,y,l,o⟩) ?_)
    ·rintro x' c d _ _ ⟨rfl,v,j,g⟩;refine bg (kQ ?_);by_cases hs:(pendingOf d).size > 1
     ·rw[if_pos hs,getElem?_pos (pendingOf d) ((pendingOf d).size-2) (by lia)];obtain⟨s2,n2,p2⟩:=(pendingOf d)[(pendingOf d).size-2]'(by lia);dsimp only;split
      ·exact bp ⟨rfl,v,j,g⟩
      ·refine bg (rP O v j H (by lia) λa3 b5 C _ k5=>?_);exact bp ⟨rfl,b5,C,g.same λi X Y=>k5 i X⟩
     ·rw[if_neg hs];exact bp ⟨rfl,v,j,g⟩
    ·rintro c d ⟨rfl,v,j,g⟩;dsimp only;refine bg (l4 (bg (l4 (bp ⟨lo+n,rfl,⟨v.perm,v.kind,v.failed⟩,?_,q,by lia⟩))));refine(?_:br R (arrOf d) 0 (((pendingOf d).modify ((pendingOf d).size-1) λx=>(x.1,x.2.1,_)).push (lo,n,0)).toList (lo+n));rw[m9,Array.toList_modify];exact br.append.mpr ⟨lo,j.mod _ _,rfl,u,g,rfl⟩
  ·rw[if_neg c2];have y:=z;have l:=e;have o:=U;have u:=m1;have q:lo+m<=a₀.size:=by lia
   generalize f=k at y l o ⊢;generalize m=n at o u q ⊢;refine bg (kQ ?_);cases hb:(pendingOf k).back? with
   |none=>
    dsimp only;refine bg (l4 (bp ⟨lo+n,rfl,⟨y.perm,y.kind,y.failed⟩,?_,q,by lia⟩));show br R (arrOf k) 0 ((pendingOf k).push (lo,n,0)).toList (lo+n);rw[m9];exact br.append.mpr ⟨lo,l,rfl,u,o,rfl⟩
   |some p=>
    obtain⟨s1,n1,p1⟩:=p;dsimp only;refine bg (iS (iu (I:=λ_ c a=>c=(none,())/\B κ a₀ a/\br R (arrOf a) 0 (pendingOf a).toList lo/\eT R (arrOf a) lo (lo+n)) (Q:=λc a=>c=(none,())/\B κ a₀ a/\br R (arrOf a) 0 (pendingOf a).toList lo/\eT R (arrOf a) lo (lo+n)) ?_ (λ_ _ hh=>hh) ⟨rfl,y,l,o⟩) ?_)
    ·rintro x' c d _ _ ⟨rfl,v,j,g⟩;refine bg (kQ ?_);by_cases hs:(pendingOf d).size > 1
     ·rw[if_pos hs,getElem?_pos (pendingOf d) ((pendingOf d).size-2) (by lia)];obtain⟨s2,n2,p2⟩:=(pendingOf d)[(pendingOf d).size-2]'(by lia);dsimp only;split
      ·exact bp ⟨rfl,v,j,g⟩
      ·refine bg (rP O v j H (by lia) λa3 b5 C _ k5=>?_);exact bp ⟨rfl,b5,C,g.same λi X Y=>k5 i X⟩
     ·rw[if_neg hs];exact bp ⟨rfl,v,j,g⟩
    ·rintro c d ⟨rfl,v,j,g⟩;dsimp only;refine bg (l4 (bg (l4 (bp ⟨lo+n,rfl,⟨v.perm,v.kind,v.failed⟩,?_,q,by lia⟩))));refine(?_:br R (arrOf d) 0 (((pendingOf d).modify ((pendingOf d).size-1) λx=>(x.1,x.2.1,_)).push (lo,n,0)).toList (lo+n));rw[m9,Array.toList_modify];exact br.append.mpr ⟨lo,j.mod _ _,rfl,u,g,rfl⟩
 ·rintro c S ⟨lo,rfl,J,t,H,hx⟩;have:lo=a₀.size:=by lia
  subst this;exact⟨rfl,J,t⟩
 ·rintro c S ⟨rfl,J,t⟩;dsimp only
  refine bg (iS (iu (I:=λx c a=>c=(none,())/\B κ a₀ a/\br R (arrOf a) 0 (pendingOf a).toList a₀.size/\(pendingOf a).size+x<=a₀.size)
   (Q:=λc a=>c=(none,())/\B κ a₀ a/\br R (arrOf a) 0 (pendingOf a).toList a₀.size/\(pendingOf a).size<=1) ?_ ?_ ⟨rfl,J,t,by have:=t.le;simp at this;lia⟩) ?_)
  ·rintro x c f x1 x2 ⟨rfl,z,e,hp⟩;refine bg (kQ ?_);by_cases c1:(pendingOf f).size<=1
   ·rw[if_pos c1];exact bp ⟨rfl,z,e,c1⟩
   rw[if_neg c1];refine bg (rP O z e (bj _) ?_ λk y l p3 _=>bp ⟨rfl,y,l,by lia⟩);exact Ht (by lia) (by lia)
  ·rintro c f ⟨rfl,z,e,hp⟩;exact⟨rfl,z,e,by lia⟩
  ·rintro c f ⟨rfl,z,e,hp⟩;refine bp (h f z ?_);cases hl:(pendingOf f).toList with
   |nil=>rw[hl] at e;have:0=a₀.size:=e;lia
   |cons p r=>
    have:r=[]:=by
     have e2:(pendingOf f).size=(pendingOf f).toList.length:=by simp
     rw[e2,hl,dh] at hp;exact yS.mp (by lia)
    subst this;rw[hl] at e;obtain⟨_,_,g3,g4⟩:=e;have a0:0+p.2.1=a₀.size:=g4;rw[a0] at g3;exact g3
end
end TS
namespace Srt
open PySem.W PyProof.Rows
theorem Vg{k n:Type}(f:k->n):∀{l j:List n},l.Perm j->∀m:List k,j=m.map f->∃p:List k,p.Perm m/\l=p.map f:=by
 intro l j h
 induction h with
 |nil=>exact λm e=>⟨[],by rw[List.map_eq_nil_iff.mp e.symm],rfl⟩
 |cons x _ ih=>
  intro m e;cases m with
  |nil=>cases e
  |cons y m=>
   rw[ce] at e;injection e with i c
   obtain⟨p,d,g⟩:=ih m c;exact⟨y::p,d.cons y,by rw[ce,←g,i]⟩
 |swap x y l=>
  intro m e
  match m,e with
  |a::b::m,e=>
   rw[ce,ce] at e;injection e with i c
   injection c with c s
   exact⟨b::a::m,.swap _ _ _,by rw[ce,ce,i,c,s]⟩
 |trans _ _ ih1 ih2=>
  intro m e;obtain⟨p,d,g⟩:=ih2 m e;obtain⟨q,o,r⟩:=ih1 p g;exact⟨q,o.trans d,r⟩
noncomputable def sK(r:Nat->Nat) (a:List Value):Prop:=∀i j,i<a.length->j<a.length->a.getD i Value.none=a.getD j Value.none->r i=r j
open Classical in
noncomputable def kh(r:Nat->Nat) (a:List Value) (x:Keyed):Nat:=if h:∃i,i<a.length/\a.getD i Value.none=x.1 then r h.choose else 0
theorem EK(a:sK r xs) (b:i<xs.length)(e:xs.getD i Value.none=x.1):kh r xs x=r i:=by
 have h:∃i,i<xs.length/\xs.getD i Value.none=x.1:=⟨i,b,e⟩
 unfold kh;rw[dif_pos h];exact a _ _ h.choose_spec.1 b (h.choose_spec.2.trans e.symm)
theorem Ry(a:List Value):(a.toArray.zip a.toArray).toList=(List.range a.length).map λi=>((a.getD i Value.none,a.getD i Value.none):Keyed):=by
 rw[Array.toList_zip];apply yG
 ·simp
 ·intro i d c;have b:i<a.length:=by simpa using c
  simp[cK,b]
theorem L6{xs:List Value}(J:2<=xs.length)(f:sK r xs)
  (n:∀i j C,i<xs.length->j<xs.length->C (lt r i j) sg->kas_ask P w B κ xs i j C sg):
  wpAny (model P w) B ((sortRuns').run (SortSt.mk' κ (xs.toArray.zip xs.toArray) #[] 7 none)) (λy z=>∃p:Array Nat,(p.Perm (List.toArray (List.range xs.length))/\Up r p xs.length)/\(arrOf y.2).map (·.2)=cQ xs p/\failedOf y.2=none/\z=sg) E sg:=by
 have G:(xs.toArray.zip xs.toArray).size=xs.length:=by simp
 have O:TS.kB P w B sg κ (xs.toArray.zip xs.toArray) (kh r xs):=λx u y v C H=>by
  rw[Ry] at u v;obtain⟨i,o,rfl⟩:=bQ.mp u;obtain⟨j,g,rfl⟩:=bQ.mp v;rw[bB] at o g;rw[EK f o rfl,EK f g rfl] at H;exact n i j C o g H
 have run:=TS.IE (E:=E) (Q:=λ_ y=>∃p:Array Nat,(p.Perm (List.toArray (List.range xs.length))/\Up r p xs.length)/\(arrOf y).map (·.2)=cQ xs p/\failedOf y=none) O (au:=SortSt.mk' κ (xs.toArray.zip xs.toArray) #[] 7 none) ⟨.refl _,rfl,rfl⟩ rfl (by rw[G];exact J) λy b up=>by
  obtain⟨l,q,A⟩:=Vg (λi=>((xs.getD i Value.none,xs.getD i Value.none):Keyed)) (ur.mp b.perm) _ (Ry xs);have S:l.length=xs.length:=by rw[q.length_eq,pN]
  have s:∀k,(m:k<l.length)->l[k]<xs.length:=λk m=>bB.mp (q.mem_iff.mp (fZ m))
  have h:∀k,k<xs.length->TS.kA (kh r xs) (arrOf y) k=At r l.toArray k:=λk m=>by
   have d:k<l.length:=by lia
   have e:(arrOf y)[k]?=some (xs.getD l[k] Value.none,xs.getD l[k] Value.none):=by
    rw[←gR,A,fK,bS d]
    rfl
   rw[TS.iN e,EK f (s k d) rfl];unfold At;simp[d]
  refine⟨l.toArray,⟨?_,λi j t g=>?_⟩,?_,b.failed⟩
  ·exact ur.mpr (by simpa using q)
  ·rw[←h i (by lia),←h j g];exact up i j (ir _) t (by rw[G];exact g)
  ·unfold cQ;apply Array.toList_inj.mp;rw[Array.toList_map,A,eM]
   rfl
 exact iq run (λy z I=>by
  obtain⟨rfl,p,a,b,c⟩:=I
  exact⟨p,a,b,c,rfl⟩) λ_ _ x=>x
theorem SR{au:Shared}(r:Nat->Nat) {a:List Value}{W:Fin->Shared->Prop}(s:au.heap.get? d=some (seqObj "list" a.toArray k))(b:a.length<=sizeLine)(q:sK r a)
  (ask:2<=a.length->Answers P w B r a {au with heap:=eN au.heap d a})
  (g:∀p:Array Nat,p.Perm (List.toArray (List.range a.length))->Up r p a.length->W (.done (.ret .none)) {au with heap:=sortedHeap au.heap d a (cQ a p)}):
  wpAny (model P w) B (Builtin.«list.sort» ⟨[.ref d],[]⟩) W E au:=by
 obtain⟨c,t⟩:∃ c,(au.heap.update d (Obj.mapSeq λ_=>(#[]:Array Value))).get? d=some (seqObj "list" #[] c):=⟨_,get?_update_seq s λ_=>#[]⟩
 have h:(eN au.heap d a).get? d=some (seqObj "list" #[] c):=dC _ (dC _ t)
 have f:a.toArray.size=a.length:=dQ;rw[list_sort_plain];refine ae (listItems_at s rfl (ae (listUpdate_at s rfl (ae (seqEpoch_at t rfl (ae (wpAny_newTuple (ae (wpAny_newList (jl ?_) (ir _))) (b))))) (by rw[f];exact b) (ir _))));show wpAny (model P w) B _ W E {au with heap:=eN au.heap d a};dsimp only;by_cases two:a.toArray.size<2
 ·rw[if_pos two,if_pos two];rw[f] at two;have A:((arrOf (SortSt.mk' general' (a.toArray.zip a.toArray) #[] 7 none)).map (·.2))=cQ a (List.toArray (List.range a.length)):=Oo two
  refine ae (ar (by
   rw[StateT.run_pure];refine ae (ar (ae (seqEpoch_at h rfl (ae (listUpdate_at h rfl ?_ (ir _) ?_)))))
   ·rw[if_neg (by simp)];refine ar ?_;rw[A];exact g _ (.refl _) λi j C I=>gO (congrArg (At r _) (by lia))
   ·rw[A];refine oz (ax (gO ?_) (b));unfold cQ
    simp))
 ·rw[if_neg two,if_neg two];rw[f] at two;obtain⟨v,G,l⟩:=ask (by lia);refine ae (iq (G (λe z=>e=v/\z={au with heap:=eN au.heap d a}) ⟨rfl,rfl⟩) (λe z n=>?_) λ_ _ x=>x.elim);obtain⟨rfl,rfl⟩:=n;have run:=L6 (E:=E) (r:=r) (xs:=a) (κ:=e) (sg:={au with heap:=eN au.heap d a}) (by lia) q l;refine ae (iq run (λH z n=>?_) λ_ _ x=>x);obtain⟨⟨⟩,y⟩:=H;obtain⟨p,o,m,u,rfl⟩:=n;dsimp only at m u ⊢;refine ae (seqEpoch_at h rfl (ae (listUpdate_at h rfl ?_ (ir _) ?_)))
  ·rw[u,if_neg (by simp),m];exact ar (g p o.1 o.2)
  ·rw[m];refine oz (ax (gO ?_) (b));unfold cQ;rw[dQ,bh,fM,o.1.size_eq];simp
theorem VF{B:Around}{au:Shared}(r:Nat->Nat) {a:List Value}{W:Value->Shared->Prop}(i:au.heap.IsList d a.toArray)(c:a.length<=sizeLine)(j:sK r a)
  (ask:2<=a.length->∀g:Heap,(∀b ob,au.heap.get? b=some ob->g.get? b=some ob)->Answers P w B.in1.in1 r a {au with heap:=g})
  (l:∀p:Array Nat,p.Perm (List.toArray (List.range a.length))->Up r p a.length->W (.ref (au.heap.objs.size+1)) {au with heap:=sortedAll au.heap a (cQ a p)}):
  wpAny (model P w) B (call (.builtin "sorted") [.ref d]) W E au:=by
 let g0:Heap:=(au.heap.push (seqObj "list" #[] 0)).update au.heap.objs.size (Obj.mapSeq (·++a.toArray))
 have k:g0.objs.size=au.heap.objs.size+1:=(Heap.size_update ..).trans (size_push' _ _);have f:(g0.push (seqObj "list" a.toArray 0)).get? (au.heap.objs.size + 1)=some (seqObj "list" a.toArray 0):=by
  have z:=fL g0 (o:=seqObj "list" a.toArray 0) rfl
  rw[k] at z;exact z
 have h:∀ b ob,au.heap.get? b=some ob->(g0.push (seqObj "list" a.toArray 0)).get? b=some ob:=λb ob e=>by
  have lt:=cW e;exact dC _ ((Heap.get?_update_ne _ _ _ _ (dO lt)).trans (dC _ e))
 have s:argsOk "sorted" ⟨[.ref d],[]⟩:=args_sorted1 _
 refine Calls.call_function_entry kind_sorted plain_sorted entry_sorted s ?_;unfold Builtin.«sorted»;refine ae (m:=checkCount "sorted" 1 1 _) (ar (ae (collect_list i (ae (wpAny_newList ?_ (c))) (c))))
 show wpAny _ _ _ _ _ { au with heap:=g0.push (seqObj "list" a.toArray 0) }
 have t:(Value.ref g0.objs.size)=Value.ref (au.heap.objs.size+1):=by rw[k]
 rw[show((au.heap.push (seqObj "list" #[] 0)).update au.heap.objs.size (Obj.mapSeq (·++a.toArray))).objs.size=au.heap.objs.size + 1 from k]
 refine ae (jl (kS slot_list_sort ⟨_,f,rfl⟩ entry_list_sort (SR r (au:={ au with heap:=g0.push (seqObj "list" a.toArray 0) }) f c j (λtwo=>?_) λp n q=>⟨_,rfl,ar ⟨_,rfl,l p n q⟩⟩) (args_list_sort _)))
 exact ask two _ λb ob e=>Te (dO (ud (cW e))) (h b ob e)
theorem Tk{B:Around}{au:Shared}{T:String}{It:Nat->Value->Prop}(S:KdlSrc P w T a d n It OK)(J:B.handled=none)(I:OK au.heap)(t:n<=sizeLine){W:Value->Shared->Prop}
  (ask:∀s:List Value,s.length=n->(∀(j:Nat) (v:Value),s[j]?=some v->It j v)->∃r:Nat->Nat,sK r s/\(2<=n->∀(g:Heap) (i:Nat),(∀b ob,au.heap.get? b=some ob->g.get? b=some ob)->Answers P w B.in1.in1 r s {au with heap:=g,toks:=i}) /\
   ∀(p:Array Nat) (q:Addr) (g:Heap) (i c:Nat),p.Perm (List.toArray (List.range s.length))->Up r p s.length->(∀ b ob,au.heap.get? b=some ob->g.get? b=some ob)->(∀ b ob,au.heap.get? b=some ob->b≠q)->g.get? q=some (seqObj "list" (cQ s p) c)->W (.ref q) { au with heap:=g,toks:=i }):
  wpAny (model P w) B (call (.builtin "sorted") [.ref a]) W E au:=by
 have C:argsOk "sorted" ⟨[.ref a],[]⟩:=args_sorted1 _
 refine Calls.call_function_entry kind_sorted plain_sorted entry_sorted C ?_;unfold Builtin.«sorted»;refine ae (m:=checkCount "sorted" 1 1 _) (ar (ae (kdu_collect (A:=B.in1) S J I (t) λg i acc h f=>?_)))
 have o:acc.toList.length=n:=by rw[fM];exact f.1
 obtain⟨r,u,G,x⟩:=ask acc.toList o (λj v e=>f.2 j v (by rw[←gR];exact e));refine ae (wpAny_newList ?_ (by rw[o];exact t));have l:(g.push (seqObj "list" acc.toList.toArray 0)).get? g.objs.size=some (seqObj "list" acc.toList.toArray 0):=fL g rfl
 have k:∀ b ob,au.heap.get? b=some ob->(g.push (seqObj "list" acc.toList.toArray 0)).get? b=some ob:=λb ob e=>dC _ (h b ob e)
 have lt:∀b ob,au.heap.get? b=some ob->b≠g.objs.size:=λb ob e=>dO (cW (h b ob e))
 show wpAny _ _ _ _ _ { au with heap:=g.push (seqObj "list" acc.toList.toArray 0),toks:=i }
 refine ae (jl (kS slot_list_sort ⟨_,l,rfl⟩ entry_list_sort (SR r (au:={ au with heap:=g.push (seqObj "list" acc.toList.toArray 0),toks:=i }) l (by rw[o]; exact t) u (λtwo=>?_) λp y z=>⟨_,rfl,ar ⟨_,rfl,?_⟩⟩) (args_list_sort _)))
 ·exact G (by lia) _ i λb ob e=>Te (lt b ob e) (k b ob e)
 ·obtain⟨c,H⟩:=sortedHeap_at (n:=0) (vs:=acc.toList) (out:=cQ acc.toList p) l;refine x p g.objs.size _ i c y z (λb ob e=>?_) ?_ H
  ·rw[sortedHeap_old (lt b ob e) (cW (k b ob e))];exact k b ob e
  ·exact lt
end Srt
namespace L2
open Spec PyProof.Rows PySem.W
theorem cL(h:n<=1000000):n<=sizeLine:=ax h (by rw[l6];lia)
theorem Tc:∀{c:List Value}{a b:List Int},IntsAre c a->IntsAre c b->a=b
 |_,_,_,.nil,.nil=>rfl
 |_,_,_,.cons x t r,.cons _ _ r'=>by rw[Tc r r']
theorem QK(a:fH g ps):Srt.sK (Srt.dR (ps.map (·.2))) (ps.map λp=>Value.ref p.1):=λi j h f e=>by
 rw[bh] at h f;have m:ps[i]?=some ps[i]:=bS h;have l:ps[j]?=some ps[j]:=bS f;rw[zm (λp:Addr×List Int=>Value.ref p.1) _ m,zm (λp:Addr×List Int=>Value.ref p.1) _ l] at e;injection e with e
 obtain⟨us,o,n,t,c,x,b⟩:=a _ (fZ h);obtain⟨k,v,y,s,r,w,u⟩:=a _ (fZ f);rw[e,r] at c;injection c with c
 subst c;rw[u] at b;injection b with b _
 have q:k=us:=by simpa using b
 subst q;have d:=Tc t s;unfold Srt.dR;rw[zm (λp:Addr×List Int=>p.2) _ m,zm (λp:Addr×List Int=>p.2) _ l,d]
def fS(K:Fg):List V->Hp->VK->Prop:=λe H Q=>∃(l:Addr) (c:List (Addr×List Int)),e=[.ref l]/\cV K H l (c.map λp=>V.ref p.1)/\c.length<=1000000/\sw K H c /\
 ∀(q:Addr) (d:List (Addr×List Int)),H q=none->d.Perm c->(d.map (·.2)).Pairwise (λa b=>HT.lexLt b a=false)->Q (.ref q) (aZ H q (.lst (d.map λp=>V.ref p.1)))
def fg:List V->Hp->VK->Prop:=λf H Q=>∃(a:Addr) (b:List (List cy×V)) (d:List (List Int)),f=[.ref a]/\Rd H a (.dT b)/\b.map (·.1)=d.map (λe=>e.map Sum.inl)/\d.length<=1000000 /\
 ∀(q:Addr) (c:List (Addr×List Int)),H q=none->(c.map (·.2)).Perm d->(c.map (·.2)).Pairwise (λx y=>HT.lexLt y x=false)->(∀p∈c,H p.1=some (.tup (p.2.map V.int)))->Q (.ref q) (aZ H q (.lst (c.map λp=>V.ref p.1)))
theorem VH{X:Cx}(hu:X.A.units + 64<cLine):bE X (.builtin "sorted") (fS X.K):=by
 intro aU s σ H xs y Q I r h;obtain⟨l,ps,rfl,E,k,G,q⟩:=h;obtain⟨u,rfl,Y⟩:=vals1 r;cases Y;obtain⟨j,t,U,hz⟩:=I.list E;have f:j=ps.map λp=>Value.ref p.1:=by
  have e:(ps.map λp=>V.ref p.1)=(ps.map (·.1)).map V.ref:=by rw[eM];rfl
  rw[e] at t;rw[Sr t,eM]
  rfl
 subst f;have d:∀g:Heap,(∀b o,s.heap.get? b=some o->g.get? b=some o)->fH g ps:=λg c p hp=>by
  obtain⟨y,i,⟨o,J,b3,n,b4⟩,_⟩:=I.tuple (G p hp);exact⟨y,o,n,vn i,c _ _ J,b3,b4⟩
 refine Srt.VF (Srt.dR (ps.map (·.2))) U.isList (by rw[bh];exact cL k) (QK (d s.heap λ_ _ z=>z)) (λm g c=>xa (by show X.A.units+1+1<cLine;lia) (by rw[bh] at m;exact m) (d g c)) (λp w x=>?_);rw[bh] at w x;obtain⟨v,C,S,P⟩:=Ri w x;obtain⟨e,A⟩:=sortedAll_at s.heap (ps.map λp=>Value.ref p.1) (Srt.cQ (ps.map λp=>Value.ref p.1) p);rw[P] at A ⊢;refine⟨.ref (s.heap.objs.size+1),_,I.laid (a:=s.heap.objs.size+1) (o:=.lst (v.map λp=>V.ref p.1)) (t':=s.toks) (λ_ _ z=>sortedAll_old z) (tU _) ⟨?_,_,e,Tv v,A⟩,rfl,q _ _ (I.hok.fresh (tU _)) C S⟩;rw[bh,C.length_eq];exact cL (by lia)
theorem VO{X:Cx}(hc:X.calm=true)(hu:X.A.units + 64<cLine):bE X (.builtin "sorted") fg:=by
 intro aU s σ H xs S Q I r h;obtain⟨a,l,ks,rfl,hd,ek,a4,q⟩:=h;obtain⟨u,rfl,ru⟩:=vals1 r;cases ru;obtain⟨z,ns,ys,k,ob,j,ep,e1,e2,e3,e4,e5⟩:=(show ba X.prog X.w H s.heap a (.dT l) from hd.ok I.hok)
 obtain⟨ps,U,Y,a3⟩:=SB (P:=X.prog) (w:=X.w) k ek;have a0:ps.length=ks.length:=by rw[←U,bh]
 have f:j.toList.map (·.key)=ps.map λp=>Value.ref p.1:=by rw[e4,eM];exact a3
 have a5:j.size=ps.length:=by
  have:=congrArg List.length f;rw[bh,bh,fM] at this;exact this
 have e:∀g:Heap,(∀b o,s.heap.get? b=some o->g.get? b=some o)->fH g ps:=λg d p x=>by
  obtain⟨S,rv,⟨o,b2,b3,n,b4⟩,_⟩:=I.tuple (cx.of (Y p x));exact⟨S,o,n,vn rv,d _ _ b2,b3,b4⟩
 refine Srt.Tk (Dct.Kv ns j ep) (I.ok.hd hc) ⟨ob,e1,e2,e3⟩ (cL (by lia)) λm hl hv=>?_
 have A:m=ps.map λp=>Value.ref p.1:=by
  rw[←f];apply ue;intro i;by_cases hi:i<j.size
  ·have h1:m[i]?=some m[i]:=bS (by lia);obtain⟨en,C,h3⟩:=hv i _ h1;rw[h1,h3,fK,gR,C]
   rfl
  ·rw[oD (by lia),oD (by rw[bh,fM];lia)]
 subst A;refine⟨Srt.dR (ps.map (·.2)),QK (e s.heap λ_ _ z=>z),λC g tk d=>xa (by show X.A.units+1+1<cLine;lia) (by lia) (e g d),λp t g tk c G J d ne E=>?_⟩;rw[bh] at G J;obtain⟨v,y,q2,q3⟩:=Ri G J;rw[q3] at E;refine⟨.ref t,_,I.laidN (o:=.lst (v.map λp=>V.ref p.1)) d ne ⟨?_,_,c,Tv v,E⟩,rfl,q t v (I.away ne) ((y.map _).trans (by rw[U])) q2 λp x=>Y p (y.mem_iff.mp x)⟩;rw[bh,y.length_eq];exact cL (by lia)
end L2
namespace L2
open Spec PyProof.Rows
theorem Tp{b d:Type}[DecidableEq b]{k:b}:∀{a:List (b×d)}{j:Nat}{p:d},(a.map (·.1)).Nodup->a[j]?=some (k,p)->a.eraseIdx j=a.filter λx=>decide (x.1≠k)
 |[],_,_,_,e=>by simp at e
 |x::r,0,p,nd,e=>by
  simp at e;subst e;rw[ce,gZ] at nd;rw[List.eraseIdx_cons_zero,g9 (by simp)]
  symm
  rw[Pg];intro y g;refine cC λz=>nd.1 ?_
  rw[←z];exact bQ.mpr ⟨y,g,rfl⟩
 |x::r,j+1,p,nd,e=>by
  rw[ce,gZ] at nd;have c:r[j]?=some (k,p):=by simpa using e
  have f:x.1≠k:=λz=>nd.1 (by rw[z];exact bQ.mpr ⟨_,dY c,rfl⟩)
  rw[Ps,gS (by simpa using f),Tp nd.2 c]
theorem RQ{a b:Type}(f:a->b):∀(l:List a) (j:Nat),(l.map f).eraseIdx j=(l.eraseIdx j).map f
 |[],_=>rfl
 |_::_,0=>rfl
 |x::l,j+1=>by rw[ce,Ps,Ps,ce,RQ f l j]
section
variable {κ:Type}[DecidableEq κ]
section
variable {prog:Program}{w:World}{knd:HeapKind prog w κ}{A:Around}{E:Value->Shared->Prop}{s:Shared}{d:Addr}{a:Addr}{k:κ}{xs:List (κ×Addr×Value)}{p:Addr×Value}
theorem Ou{W:Option DictEntry->Shared->Prop}(C:knd.room A)(b:knd.is s.heap k a)(Q:s.heap.DictOfH knd d xs)(u:atKey xs k=some p)(P:xs.length<=sizeLine)
  (r:∀e m,e.val=p.2->m.DictOfH knd d (xs.filter λx=>decide (x.1≠k))->Heap.SameBut d s.heap m->W (some e) {s with heap:=m,toks:=s.toks+knd.draws k}):
  wpAny (model prog w) A (Builtin.Dict.takeOut d (.ref a)) W E s:=by
 obtain⟨o,y,H,f,I,c,i,g,h⟩:=Q;unfold Builtin.Dict.takeOut;refine jl ?_;refine ae (knd.pyHash C b ?_);refine ae (wpAny_dictFind_heap (s:={s with toks:=s.toks+knd.draws k}) C b f c i g h (λz=>?_) λj q n=>?_)
 ·rw[atKey_none_of_get z] at u;cases u
 ·have J:q=p:=by
   have z:=atKey_of_get h n;rw[u] at z;exact(g7 z).symm
  subst J;refine ae (yH (s:={s with toks:=s.toks+knd.draws k}) f c ?_);rw[entry_at i j,n];have t:y.size<=sizeLine:=by have:=size_of_entries i;lia
  refine ae (wpAny_updateDictKeys (hz:=t) (s:={s with toks:=s.toks+knd.draws k}) f c (ar (r _ _ rfl ⟨_,_,H+1,pV _ f (Obj.isFreed_of_dict (Obj.data_mapDictKeys c _)),I.mapDictKeys _,Obj.data_mapDictKeys c _,?_,λx G=>?_,?_⟩ (ng ..))))
  ·rw[←Tp h n];obtain⟨l⟩:=y;have v:l=xs.map (entryOfKey knd):=i;subst v;simp[RQ]
  ·exact knd.keeps (g x (dL.mp G).1) f c (ng ..)
  ·exact List.Sublist.nodup (List.Sublist.map (λx:κ×Addr×Value=>x.1) yO) h
end
theorem MI{b:HeapKind prog w κ}{A:Around}{s:Shared}{W:Value->Shared->Prop}(u:b.room A.in1)(f:b.is s.heap k a)(h:s.heap.DictOfH b d xs)(m:atKey xs k=some p)(l:xs.length<=sizeLine)
  (j:∀c,c.DictOfH b d (xs.filter λx=>decide (x.1≠k))->Heap.SameBut d s.heap c->W p.2 {s with heap:=c,toks:=s.toks+b.draws k}):
  wpAny (model prog w) A (call (.builtin "dict.pop") [.ref d,.ref a]) W E s:=by
 have M:MeetsIn prog w (Builtin.«dict.pop» ⟨[.ref d,.ref a],[]⟩) (λB R g=>B=A/\g=s/\∀c,c.DictOfH b d (xs.filter λx=>decide (x.1≠k))->Heap.SameBut d s.heap c->R (.ok (.ret p.2)) {s with heap:=c,toks:=s.toks+b.draws k}):=
  .of_wp λB R g i=>by
   obtain⟨v,J,q⟩:=i;subst v J;unfold Builtin.«dict.pop» Builtin.Dict.keyAndDefault;refine ae (ae (wpAny_notOrdered_dict h.typeIs (ar ?_)));obtain⟨o,n,U,y,X,H,P,I,S⟩:=id h;have Q:n.isEmpty=false:=by
    have:=size_of_entries P;cases xs with
    |nil=>cases m
    |cons x r=>
     rw[dh] at this;rw[Array.isEmpty_eq_false_iff];intro z;rw[z] at this;simp at this
   simp only[keyPart,Option.isSome_none,jo,gj];refine ae (yH y H (ae (ar ?_)));rw[Q];simp only[jo,gj];refine ae (Ou u f h m l λe c G C t=>?_);simp only[Option.isNone_some,jo,gj];exact ae (wpAny_letGo (ar ⟨e.val,rfl,by rw[G];exact q c C t⟩))
 exact yp Dt h.typeIs F.entry_dict_pop (F.args_dict_pop_2 _ _) M ⟨rfl,rfl,j⟩
end
theorem KT.drop(r:KT H kvs xs)(k:List cy):KT H (df kvs k) (xs.filter λx=>decide (x.1≠k)):=by
 unfold df
 induction r with
 |nil=>exact .nil
 |@cons p q ps qs h t ih=>
  by_cases e:p.1=k
  ·rw[g9 (by simp[e]),g9 (by simp[←h.1,e])];exact ih
  ·rw[gS (by simp[e]),gS (by simp[←h.1,e])];exact .cons h ih
theorem GT{X:Cx}{k:List cy}(y:X.A.units+1<cLine)(I:Inv X aU σ H s)(e:H a=some (.dT kvs))(U:H b=some (.tup (k.map kV)))(l:ck kvs k=some v)
  (h:∀ w' t,Inv X aU σ (aZ H a (.dT (df kvs k))) t->RelV v w'->Q w' t):wpAny (model X.prog X.w) X.A (call (.builtin "dict.pop") [.ref a,.ref b]) Q E s:=by
 obtain⟨z,J,n,d,C⟩:=vI I.hok e;obtain⟨w',f,g⟩:=fm.some_of (v:=v) (o:=(atKey n k).map (·.2)) (by rw[←l];exact d.val k);cases hp:atKey n k with
 |none=>rw[hp] at f;cases f
 |some p=>
  rw[hp] at f;have i:p.2=w':=g7 f;subst i;refine MI (yK y) (sN I.hok U) C hp (by rw[←rx d];exact z) λY j x=>h _ _ ?_ g
  obtain⟨q,w,G,r,u,P,A,_,S⟩:=j;refine uL I (by rw[e];exact True.intro) x ⟨q,r⟩ ⟨ax (pU _ _) z,J,_,(d.drop k).keeps λc ys m=>?_,q,w,G,r,u,P,A,S⟩;rw[zy (vK m e (λz=>nomatch z))];exact m
def rR(f e:TE):TE:=λd H Q=>f d H λx H1=>∃a,x=.ref a/\DU H1 a/\e d H1 λy H2=>∃c k v b,H2 a=some (.dT c)/\y=.ref b/\H2 b=some (.tup (k.map kV))/\ck c k=some v/\Q v (aZ H2 a (.dT (df c k)))
theorem MB{X:Cx}(r:X.A.units + 1<cLine)(t:PE X o td)(U:PE X e ty)(m:M1 X o "pop" apos e cpos):PE X (.Call (.Attribute o "pop" apos) [e] [] cpos) (rR td ty):=by
 intro g s j H Q I h;refine wpAny_Call_method m.base m.few m.line Dz Dt F.type_dict_pop (bu (t g s j H _ I h) λu E f=>?_);obtain⟨x,H1,i,G,a,P,d,Y⟩:=f;subst P;obtain rfl:u=Value.ref a:=G;obtain⟨C,S,_⟩:=wq i d;refine⟨C,S,?_⟩;rw[m.trees];refine Pq rfl (Pl (yN (bu (U g E j H1 _ i Y) λiv s2 ⟨y,H2,J,q,n,k,v,b,z,w,eb,l,A⟩=>Db ?_)));subst w;cases(show iv=Value.ref b from q);exact GT r J z eb l λw' s3 p c=>⟨v,_,p,c,A⟩
def p6(K:Fg):R2:=λx y H Q=>∃a b c d,x=.ref a/\y=.ref b/\cx K H a c/\cx K H b d/\c.length+d.length<=sizeLine /\
 (c=[]->Q (.ref b) H)/\(c≠[]->d=[]->Q (.ref a) H)/\(c≠[]->d≠[]->∀p,H p=none->Q (.ref p) (aZ H p (.tup (c++d))))
theorem J5:dq X (binaryOp .Add) (p6 X.K):=by
 intro S s σ H x y v u Q I A o h;obtain⟨a,b,C,ys,rfl,rfl,m,q,J,E,q1,Y⟩:=h;by_cases hx:C=[]
 ·cases A;cases o;obtain⟨i,P,p1,_⟩:=I.tuple m;obtain⟨c,r2,p2,_⟩:=I.tuple q;obtain⟨⟨a0,U,l,sl⟩,p,w,n,t⟩:=id p1;obtain⟨⟨r,k,data2,j⟩,d,f,G,g⟩:=id p2;simp only at w t f g;subst w t f g;have e:i=[]:=P.nil_iff.mpr hx;exact concat_meets ⟨_,p,rfl⟩ ⟨_,d,rfl⟩ noFill_tuple_add seq_tuple_add Pr Px (Pz _ _)
   (tuple_addW0 a b i.toArray c.toArray n G U k sl j (by simp[e])) ⟨p,d,⟨.ref b,H,I,rfl,E hx⟩⟩
 ·exact J6 S s σ H _ _ v u Q I A o ⟨a,b,C,ys,rfl,rfl,m,q,hx,J,λz=>q1 hx z,λz=>Y hx z⟩
theorem Nr{s:Shared}{lo b:Option Int}{W:Value->Shared->Prop}(a:IsTup s.heap t its)(h:s.heap.IsSliceOf sl vl vu .none)(i:IsPart vl lo)(j:IsPart vu b)
  (k:HT.bW its.size 0 lo=0)(m:HT.bW its.size its.size b=its.size)(g:W (.ref t) s):wpAny (model prog w) A (getItem (.ref t) (.ref sl)) W E s:=by
 obtain⟨os,e,d,l⟩:=id h;unfold getItem
 try with_reducible refine jl ?_
 first|refine ae (ar ?_)|skip
 refine ae (OZ a.typeIs (by decide) ?_);refine ae (wpAny_callSpecial?_slot (name:=Str.ofString "__getitem__") a.typeIs Dc (kS Dc a.typeIs entry_tuple_getitem ?_ (args_tuple_getitem _ _)))
 show wpAny _ _ (Builtin.Tuple.tupleItemsOf (.ref t) >>= _) _ _ s;refine ae (tupleItemsOf_ a ?_);have f:s.TypeIs (.ref sl) "slice":=⟨os,e,d⟩
 refine ae (yq f ?_);rw[if_pos (by decide)];refine ae (HT.TL h i j ?_);have c:(((HT.bW its.size 0 lo:Nat):Int)==0&&(1:Int)==1&&(HT.bW its.size its.size b-HT.bW its.size 0 lo)==its.size)=true:=by
  rw[k,m];simp
 show wpAny _ _ (if(((HT.bW its.size 0 lo:Nat):Int)==0&&(1:Int)==1&&(HT.bW its.size its.size b-HT.bW its.size 0 lo)==its.size)=true then _ else _) _ _ s;rw[if_pos c];refine ae (?_:wpAny _ _ (Builtin.Tuple.tupleIsExact (.ref t)) _ _ s);unfold Builtin.Tuple.tupleIsExact;refine ae (yq a.typeIs (ar ?_));rw[if_pos (by decide)];exact ae (og (ar ⟨_,rfl,ar g⟩))
def P3(K:Fg):V->Option Int->Option Int->Hp->VK->Prop:=λx lo c H Q=>∃a b,x=.ref a/\cx K H a b/\(gH b lo c=b->Q (.ref a) H)/\∀p,H p=none->Q (.ref p) (aZ H p (.tup (gH b lo c)))
theorem KB:qe X (P3 X.K):=by
 intro u s m H x v n o lo i p Q I e j f g h;obtain⟨a,c,rfl,k,q,t⟩:=h;by_cases hw:HT.bW c.length 0 lo=0/\HT.bW c.length c.length i=c.length
 ·cases e;obtain⟨d,r,l,w⟩:=I.tuple k;have b:d.toArray.size=c.length:=by rw[dQ];exact r.length.symm
  refine⟨"tuple",_,Dc.lookup,l.typeIs,?_⟩
  refine Nr l j f g (by rw[b];exact hw.1) (by rw[b];exact hw.2) ⟨.ref a,H,I,rfl,q ?_⟩;unfold gH;rw[hw.1,hw.2];simp
 ·exact Is u s m H _ v n o lo i p Q I e j f g ⟨a,c,rfl,k,hw,t⟩
theorem Tf(a:List Int):∀k,k<=a.length->preSum (λi=>a.getD i 0) k=(a.take k).sum
 |0,_=>rfl
 |k+1,h=>by
  show preSum (λi=>a.getD i 0) k+a.getD k 0=_;rw[Tf a k (by lia),PH (by lia),iw,cK,bS (by lia)];simp
theorem D7:∀{a:List Int}{b:List Value}{i:Nat}{v:Value},am (a.map V.int) b->b[i]?=some v->∃t,v=.int (a.getD i 0) t
 |[],_,_,_,.nil,e=>by simp at e
 |n::a,_,0,_,.cons r _,e=>by
  simp at e;subst e
  obtain⟨t,rfl⟩:=r;exact⟨t,rfl⟩
 |n::a,_,i+1,v,.cons _ t,e=>by
  have:=D7 (i:=i) t (by simpa using e)
  simpa using this
def zF(K:Fg):List V->Hp->VK->Prop:=λc H Q=>∃(a:Addr) (b:List Int),c=[.ref a]/\(cV K H a (b.map V.int)\/cx K H a (b.map V.int))/\Q (.int b.sum) H
theorem B6{X:Cx}(hc:X.calm=true):bE X (.builtin "sum") (zF X.K):=by
 intro aU s σ H xs us Q I r h;obtain⟨a,ns,rfl,hs,q⟩:=h;obtain⟨u,rfl,ru⟩:=vals1 r;cases ru;have key:∀{its:List Value}(h':Heap) (tk:Nat) (t':Tok) (nn:Nat),nn=ns.length->(∀b o,b≠s.heap.objs.size->s.heap.get? b=some o->h'.get? b=some o) ->
   EP X aU σ Q (.int (preSum (λi=>ns.getD i 0) nn) t') {s with heap:=h',toks:=tk}:=λh' tk t' nn hn hk=>by
  subst hn;rw[Tf ns _ (bj _),cX];exact⟨.int ns.sum,H,I.kept (t':=tk) λb o e=>hk b o (dO (cW e)) e,⟨_,rfl⟩,q⟩
 refine call_sum_walkG ?_;rcases hs with hs|hs
 ·obtain⟨its,rv,pl,hz⟩:=I.list hs;have hlt:a<s.heap.objs.size:=by obtain⟨o,n,e,_⟩:=pl;exact cW e
  have hl:=rv.length;rw[bh] at hl;refine C5 pl.isList ?_;refine⟨s.heap.objs.size,_,[s.heap.objs.size],_,_,_,λi=>ns.getD i 0,rfl,Walks.list (A:=X.A.in1) (I.ok.hd hc) _ a (dO hlt) its.toArray,⟨⟨_,fL _ rfl,rfl,rfl⟩,pl.isList.push _⟩,?_,λi v e=>D7 rv (by simpa using e),λh' tk t' hk=>?_⟩
  ·intro b hb;show b<(s.heap.push _).objs.size;rw[show ∀o:Obj,(s.heap.push o).objs.size=s.heap.objs.size+1 from λo=>by simp[Heap.push]];rcases bZ.mp hb with rfl|hb
   ·exact yD _
   ·rcases bZ.mp hb with rfl|hb
    ·exact ud hlt
    ·cases hb
  ·exact key (its:=its) h' tk t' _ (by simp[hl]) λb o hb e=>hk b o (by simpa using hb) (dC _ e)
 ·obtain⟨its,rv,pl,hz⟩:=I.tuple hs;have hlt:a<s.heap.objs.size:=pl.lt;have hl:=rv.length;rw[bh] at hl;have pt:s.heap.IsTuple a its.toArray:=pl;refine Df pt ?_;refine⟨s.heap.objs.size,_,[s.heap.objs.size],_,_,_,λi=>ns.getD i 0,rfl,Walks.tuple (A:=X.A.in1) (I.ok.hd hc) _ a (dO hlt) its.toArray,⟨⟨_,fL _ rfl,rfl,rfl⟩,pt.push _⟩,?_,λi v e=>D7 rv (by simpa using e),λh' tk t' hk=>?_⟩
  ·intro b hb;show b<(s.heap.push _).objs.size;rw[show ∀o:Obj,(s.heap.push o).objs.size=s.heap.objs.size+1 from λo=>by simp[Heap.push]];rcases bZ.mp hb with rfl|hb
   ·exact yD _
   ·rcases bZ.mp hb with rfl|hb
    ·exact ud hlt
    ·cases hb
  ·exact key (its:=its) h' tk t' _ (by simp[hl]) λb o hb e=>hk b o (by simpa using hb) (dC _ e)
theorem EL{A:Around}{s:Shared}(r:A.handled=none)(g:s.heap.IsTupleIter it t i)(p:s.heap.IsTuple t items)
  (j:∀x,items[i]?=some x->∀a,a.IsTupleIter it t (i+1)->Heap.SameBut it s.heap a->Q x {s with heap:=a})
  (l:items[i]?=none->∀ a e,Heap.ExtBut it s.heap a->(∃ o,a.get? e=some o/\o.cls=.type "StopIteration")->E (.ref e) { s with heap:=a }):wpAny (model prog w) A (Builtin.SmallTypes.nextOf (.ref it)) Q E s:=by
 rcases g with⟨o,b,d,c⟩
 rcases p with⟨u,m,_,n,k⟩
 refine ae (wpAny_callSpecial?_slot (name:=Str.ofString "__next__") ⟨o,b,d⟩ F.slot_tuple_iterator_next (kS F.slot_tuple_iterator_next ⟨o,b,d⟩ F.entry_tuple_iterator_next ?_ (F.args_tuple_iterator_next_1 _)))
 have q:(#[Value.ref t,.int i 0]:Array Value)[0]?=some (.ref t):=rfl;have h:(#[Value.ref t,.int i 0]:Array Value)[1]?=some (.int i 0):=rfl
 wp_walk using pC b c q,pC b c h,wpAny_seqItems m k
 rw[j9];cases hx:items[i]? with
 |some x=>
  exact ae (ry b c (by simp) (ar ⟨x,rfl,ar (j x hx _ ⟨_,pV _ b (yQ (rH c _)),(C9 ..).trans d,by rw[rH c];simp[rawInt]⟩ (.update ..))⟩))
 |none=>
  have f:A.in1.handled=none:=r
  wp_walk using ry b c (by simp)
  unfold raiseNew;refine ae (wpAny_handled ?_);rw[f];exact ae (ar (wpAny_throw (l hx _ _ ((ng ..).extBut.push _ |>.push _) ⟨_,fL _ rfl,rfl⟩)))
theorem sf{A:Around}(n:A.handled=none)(d t:Addr)(k:t≠d)(c:Array Value):
  Draws prog w A d [d,t] (c.size+1) (λj v=>∃i,j=i+1/\c[i]?=some v) (λj h=>∃i,j=i+1/\h.IsTupleIter d t i/\h.IsTuple t c) where
 live:=λ_ _ ⟨_,_,⟨o,y,_⟩,_⟩=>⟨o,y⟩
 frame:=λ_ _ _ ⟨i,e,a,b⟩ p=>⟨i,e,a.at λo e=>p d (by simp) o e,b.at λo e=>p t (by simp) o e⟩
 item:=λj s Q E C l r=>by
  obtain⟨i,e,a,b⟩:=l;have G:i<c.size:=by lia
  refine EL n a b (λx m q g f=>?_) λz=>absurd z (by simp;lia)
  exact r _ q s.toks ⟨i,e,m⟩ ⟨i+1,by lia,g,b.extBut f.extBut k⟩ f
 done:=λs Q E ⟨i,e,a,b⟩ u=>EL n a b (λx m=>absurd m (by rw[yR (by lia)];simp)) λ_=>u
theorem si{A:Around}(n:A.handled=none)(d t:Addr)(c:Array Value)(i:Nat)(g:c.size<=i):
  Draws prog w A d [d,t] (i+1) (λ_ _=>False) (λj h=>j=i+1/\h.IsTupleIter d t i/\h.IsTuple t c) where
 live:=λ_ _ ⟨_,⟨o,m,_⟩,_⟩=>⟨o,m⟩
 frame:=λ_ _ _ ⟨e,a,b⟩ f=>⟨e,a.at λo e=>f d (by simp) o e,b.at λo e=>f t (by simp) o e⟩
 item:=λj s Q E p ⟨e,_⟩ _=>absurd e (by lia)
 done:=λs Q E ⟨_,a,b⟩ l=>EL n a b (λx k=>absurd k (by rw[yR g];simp)) λ_=>l
theorem Inv.turned2{h':Heap}(I:Inv X g σ H s)(k:∀b o,b≠e->b≠it->s.heap.get? b=some o->h'.get? b=some o)(t:H it=none)(i:it≠X.env.locals)
  (S:it∈X.ex\/X.s₀.heap.objs.size<=it)(l:∀x c,X.env.cells.lookup x=some c->c≠it)(P:∀p∈X.pn++g,p.1≠it)(j:H e=none)(h:e≠X.env.locals)
  (Q:e∈X.ex\/X.s₀.heap.objs.size<=e)(G:∀x c,X.env.cells.lookup x=some c->c≠e)(E:∀p∈X.pn++g,p.1≠e):Inv X g σ H {s with heap:=h',toks:=t'}:=by
 have f:∀b u,H b=some u->b≠it:=λb u e z=>by rw[z,t] at e;cases e
 have d:∀b u,H b=some u->b≠e:=λb u q z=>by rw[z,j] at q;cases q
 refine I.step (g':=s.gens) (d':=s.drawn) (ch:=[e,it]) (λb A=>?_) (λb o _ _ a e _=>k b o (λz=>a (by simp[z])) (λz=>a (by simp[z])) e) (λb o _ _ a e _=>⟨o.slots,k b o (λz=>a (by simp[z])) (λz=>a (by simp[z])) e⟩) (λ_ _ _ _ n=>n)
  (λb o a e=>⟨o,k b o (λz=>a (by simp[z])) (λz=>a (by simp[z])) e⟩) (λ_ _ e=>e) (λ_ _ _ e=>e) (λb Y e=>⟨#[],by rw[e];simp⟩) (λm U=>?_) (λb u e=>?_) I.bare
 ·rcases bZ.mp A with z|z
  ·subst z;exact⟨Q,h,G,E⟩
  ·have J:b=it:=by simpa using z
   subst J;exact⟨S,i,l,P⟩
 ·obtain⟨o,w,C,y,r⟩:=U;exact⟨o,w,C,k _ o (fO h) (fO i) y,r⟩
 ·refine(I.hok b u e).stay (λc v a q=>k c v ?_ ?_ q) (λ_ q=>q) λ_ _ q=>q
  ·rcases a with z|z
   ·rw[z];exact d b u e
   ·exact d c _ z
  ·rcases a with z|z
   ·rw[z];exact f b u e
   ·exact f c _ z
def Ue(K:Fg) (a:Addr):It:=
 ⟨λi H=>∃b x,cx K H a b/\b[i]?=some x,λi H y c=>∃p,H p=none/\y=.ref p/\∀b x,cx K H a b->b[i]?=some x->c=aZ H p (.tup [.int ((i+1:Nat):Int),x]),λi H=>∃b,cx K H a b/\b.length<=i⟩
theorem UV{P:Program}{w:World}{K:Fg}{a2:List Expr}{k:Nat}{a3:Pos}(e it a:Addr)(J:e≠it):
  jT P w K (.Tuple a2 k a3) (Ue K a) [e,it] e (λi h=>(∃f,IsEnum h e it ((i+1:Nat):Int) f)/\h.IsTupleIter it a i) where
 mem:=by simp
 obj:=λi h m b hb=>by
  obtain⟨⟨f,l⟩,o,e',c,d⟩:=m;rcases bZ.mp hb with rfl|hb
  ·exact⟨_,l,λv z=>by
    have z':Data.fields _=Data.cell v:=z
    cases z'⟩
  ·have:b=it:=by simpa using hb
   subst this;exact⟨o,e',λv z=>by rw[d] at z;cases z⟩
 keep:=λi h h' m k=>⟨let ⟨f,l⟩:=m.1;⟨f,k e (by simp) _ l⟩,m.2.at λo z=>k it (by simp) o z⟩
 item:=by
  intro X Y hw hK hc i aU s σ H E I hf m hg;subst Y hw hK;obtain⟨xs,x,hq,hx⟩:=hg;obtain⟨⟨f,l⟩,j⟩:=m;obtain⟨g,rv,p,hz⟩:=I.tuple hq;have ht:s.heap.IsTuple a g.toArray:=p;obtain⟨u,hu,ru⟩:=rv.get hx;have a8:a≠e:=λz=>by
   obtain⟨o,t,n,_⟩:=ht;rw[z,l] at t;cases t;simp at n
  have a6:a≠it:=λz=>by
   obtain⟨o,t,n,_⟩:=ht;obtain⟨o',U,a4,_⟩:=j;rw[z,U] at t;cases t;rw[a4] at n;simp at n
  have hi:i<g.length:=(cU.mp hu).1;have D:=sf (prog:=X.prog) (w:=X.w) (A:=X.A.in1) (I.ok.hd hc) it a a6 g.toArray;refine wpAny_pyNext_enum_itemD D (i:=i+1) l ⟨i,rfl,j,ht⟩ (by simp;lia) J (by simp;exact⟨J,λz=>a8 z.symm⟩) λS h' r Y t a7 hT b1 hk=>?_
  obtain⟨i',e1,e2⟩:=Y;cases(show i'=i by lia);have eu:S=u:=by
   rw[List.getElem?_toArray,hu] at e2;exact(g7 e2).symm
  subst eu;refine⟨_,rfl,wpAny_letOwnedTupleGo_enum t λh2 a9 G=>?_⟩;obtain⟨f0,f1,f2,f3,f4,f5⟩:=hf e (by simp);obtain⟨g0,g1,g2,g3,g4,g5⟩:=hf it (by simp);have C:e<s.heap.objs.size:=cW l;have a1:it<s.heap.objs.size:=by obtain⟨o',U,_⟩:=j;exact cW U
  have I1:Inv X aU σ (aZ H s.heap.objs.size (.tup [.int ((i + 1:Nat):Int),x])) { s with heap:=s.heap.push { cls:=.type "tuple",data:=.seq #[.int ((i + 1:Nat):Int) r,S] },toks:=s.toks }:=
   I.laid (λ_ _ q=>dC _ q) (bj _) ⟨by simp;decide,[.int ((i+1:Nat):Int) r,S],.cons ⟨r,rfl⟩ (.cons ru .nil),⟨_,fL _ rfl,rfl,_,rfl⟩⟩
  have T2:h2.get? s.heap.objs.size=some { cls:=.type "tuple",data:=.seq #[.int ((i + 1:Nat):Int) r,S] }:=(G.2 _ (yt C)).trans hT
  have I2:Inv X aU σ (aZ H s.heap.objs.size (.tup [.int ((i+1:Nat):Int),x])) {s with heap:=h2,toks:=r+1}:=by
   refine Inv.turned2 (s:={ s with heap:=s.heap.push { cls:=.type "tuple",data:=.seq #[.int ((i + 1:Nat):Int) r,S] },toks:=s.toks }) (h':=h2) (t':=r + 1) (e:=e) (it:=it) I1 (λb o a0 a5 q=>?_) (by rw[zy (dO a1)]; exact g0) g1 g3 g4 g5 (by rw[zy (dO C)]; exact f0) f1 f3 f4 f5
   have q':(s.heap.push { cls:=.type "tuple",data:=.seq #[.int ((i + 1:Nat):Int) r,S] }).get? b=some o:=q
   rcases Heap.get?_push_cases q' with⟨z,z2⟩|z
   ·rw[z,z2];exact T2
   ·exact(G.2 _ a0).trans (hk b o a0 a5 z)
  refine⟨.ref s.heap.objs.size,_,I2,rfl,⟨s.heap.objs.size,I.fresh,rfl,λys y hy e'=>?_⟩,⟨⟨S,?_⟩,?_⟩,λb hb=>?_⟩
  ·rw[I.tuple_inj hy hq,hx] at e';cases e'
   rfl
  ·have:(((i+1+1:Nat)):Int)=(((i+1:Nat)):Int)+1:=by push_cast;rfl
   rw[this];exact a9
  ·obtain⟨i',e3,e4,_⟩:=a7;cases(show i'=i+1 by lia);exact e4.at λo q=>(G.2 it (fO J)).trans q
  ·rcases bZ.mp hb with rfl|hb
   ·rw[zy (dO C)];exact f0
   ·have:b=it:=by simpa using hb
    subst this;rw[zy (dO a1)];exact g0
 done:=by
  intro X Y hw hK hc i aU s σ H E I hf m hg;subst Y hw hK;obtain⟨xs,hq,hx⟩:=hg;obtain⟨⟨f,l⟩,j⟩:=m;obtain⟨g,rv,p,hz⟩:=I.tuple hq;have ht:s.heap.IsTuple a g.toArray:=p;have hl:=rv.length;obtain⟨g0,g1,g2,g3,g4,g5⟩:=hf it (by simp);have D:=si (prog:=X.prog) (w:=X.w) (A:=X.A.in1) (I.ok.hd hc) it a g.toArray i (by simp;lia);exact wpAny_pyNext_enum_endD D l ⟨rfl,j,ht⟩ λh' b0=>⟨rfl,I.turned (t':=s.toks) (λb o hb e=>b0 b o hb e) g0 g1 g3 g4 g5⟩
 self:=λA i s Q E m h=>let ⟨f,l⟩:=m.1;wpAny_pyIter_enum l h
theorem NC(a:Addr)(e:Array Value)(n:Obj)(t:Tok):
  Meets (Builtin.«enumerate.__new__» ⟨[.type "enumerate",.ref a],[(Str.ofString "start",.int 1 t)]⟩) (λ_ R s=>s.heap.get? a=some n/\s.heap.IsTuple a e /\
   R (.ok (.ret (.ref (s.heap.objs.size+1))))
    { s with heap:=(s.heap.push { cls:=.type "tuple_iterator",data:=.fields #[.ref a,.int 0 0] }).push { cls:=.type "enumerate",data:=.fields #[.none,.bool false,.ref s.heap.objs.size,rawInt 1,.none,.none] } }):=by
 refine Meets.of_wp ?_;rintro m w A R ⟨l,g,d,o,os⟩ ⟨i,k,h⟩;have j:=sub_enumerate;have f:(l.push { cls:=.type "tuple_iterator",data:=.fields #[.ref a,.int 0 0] }).objs.size=l.objs.size + 1:=CV ..
 rw[←f] at h
 wp_walk using Py i
 refine wpAny_stack_any λ_=>ar ?_
 split
 ·rename_i c _ _ _ _ _;generalize (c==Value.type "enumerate")=b
  cases b<;>(wp_walk using Py i,Df k;exact⟨_,rfl,h⟩)
 ·wp_walk using Py i,Df k
  exact⟨_,rfl,h⟩
theorem Js{T e:String}{b a:Value}{c:List Value}{k:Str×Value}{g:List (Str×Value)}(i:typeLookup (.type T) "__init__"=pure (some (.builtin "object.__init__")))(h:Bind.madeBy (.type T)=pure (some e))
  (l:(some e != some "object.__new__")=true):Meets (Builtin.«object.__init__» ⟨b::a::c,k::g⟩) (λ_ R s=>s.TypeIs b T/\R (.ok (.ret .none)) s):=
 .of_wp λ_ _ _ _ _ d=>by
  obtain⟨j,f⟩:=d
  repeat any_goals first|assumption|wp_step
  exact⟨_,rfl,f⟩
theorem Md(a:Value)(t:Tok):checkBuiltinCall "enumerate.__new__" ⟨[.type "enumerate",a],[(Str.ofString "start",.int 1 t)]⟩=pure ():=by kernel_rfl
theorem Mk(o a:Value)(t:Tok):argsOk "object.__init__" ⟨[o,a],[(Str.ofString "start",.int 1 t)]⟩:=by kernel_rfl
theorem Us{d:Program}{w:World}{A:Around}{E:Value->Shared->Prop}{s:Shared}{a:Addr}{f:Array Value}{t:Tok}{Q:Value->Shared->Prop}(n:s.heap.IsTuple a f)
  (h:∀l,IsEnum l (s.heap.objs.size+1) s.heap.objs.size 1 .none->l.IsTupleIter s.heap.objs.size a 0->(∀b o,s.heap.get? b=some o->l.get? b=some o)->Q (.ref (s.heap.objs.size+1)) {s with heap:=l}):
  wpAny (model d w) A (call (.type "enumerate") [.ref a] [(Str.ofString "start",.int 1 t)]) Q E s:=by
 rcases id n with⟨u,k,_⟩
 have g:=F.called_enumerate;rcases g.mro with⟨c,C,I⟩
 have z:=g.made;have G:=g.sub;have P:=g.notType;have H:=g.canCreate;have v:=g.init.lookup;have i:(s.heap.push { cls:=.type "tuple_iterator",data:=.fields #[.ref a,.int 0 0] }).objs.size=s.heap.objs.size + 1:=CV ..
 have p:IsEnum ((s.heap.push { cls:=.type "tuple_iterator",data:=.fields #[.ref a,.int 0 0] }).push { cls:=.type "enumerate",data:=.fields #[.none,.bool false,.ref s.heap.objs.size,rawInt 1,.none,.none] }) (s.heap.objs.size + 1) s.heap.objs.size 1 .none:=by
  rw[←i];exact fL _ rfl
 have done:=h _ p ⟨_,dC _ (fL _ rfl),rfl,rfl⟩ λb o x=>dC _ (dC _ x)
 refine wpAny_call (codeAny_of_tree (ar ⟨Code.quiet_builtin _ (by decide +kernel),yx F.entry_type_call ?_⟩));rw[Around.under_plain (weight_type_call_type _ _ _) (units_type_call_type _ _ _)]
 repeat any_goals first|assumption|wp_step
 refine rj (Ph g.plain F.entry_enumerate_new (wpAny_of_eq (Md _ t) (NC a f u t d w A.in1 (wants (λx m=>m.TypeIs x "enumerate"/\Q x m) E) s ⟨k,n,⟨_,p,rfl⟩,done⟩))) ?_
 clear done p i h n k;rintro(e|_|_|_|x) m j
 case ok.ret=>
  obtain⟨T,q⟩:=j;have J:=g.init.bind x
  repeat any_goals first|assumption|wp_step
  refine rj (Ph g.init.plain F.entry_object_init (g.init.check _ _ _ _ _ _ _ _ T (Mk _ _ t) (Js v z (by decide) d w A.in1 (wants (λy r=>y=.none/\Q x r) E) _ ⟨T,rfl,q⟩))) ?_;rintro(e|_|_|_|y) r j
  case ok.ret=>
   obtain⟨rfl,q⟩:=j
   repeat any_goals first|assumption|wp_step
  all_goals first|exact j|exact j.elim
 all_goals first|exact j|exact j.elim
theorem AQ{M:Model}{T:String}{b:List (Bool×Sem Value)}{c:List (Option Str×Sem Value)}(f:b.any (·.1)=false)(e:c.any (·.1.isNone)=false)
  (h:wpAny M A (evalArgs (.type T) true b c) (λa d=>wpAny M A (call (.type T) (first++a.pos) a.kw) Q E d) E s):wpAny M A (callWith pos (.type T) first b c) Q E s:=by
 unfold callWith;refine ae (jl (iq h ?_ λ_ _=>id));intro a d k;rw[f,e];exact ae (CQ (ae (ar (ae (iq k (λ_ _ q=>ae (jl (wpAny_point (ar q)))) λ_ _=>id)))))
def sd(K:Fg) (d:TE):TI:=λb H R=>d b H λx H1=>∃a,x=.ref a/\(∃c,cx K H1 a c)/\R (Ue K a) H1
theorem MF(G:Gl X "enumerate")(U:X.mg "enumerate"=none)(u:PE X l tl)
  (r:starEach [l] X.env=[(false,eval l X.env)]:=by rfl):
  PI X (.Tuple elts k tpos) (.Call (.Name "enumerate" p) [l] [⟨some "start",.Constant (.int 1) j cpos,kpos⟩] pos) (sd X.K tl):=by
 intro C s Q H R I h;refine De (uE I G U PyProof.Rows.boot_enumerate ?_);refine AQ (by rw[r];rfl) rfl ?_;rw[r];refine evalArgs_kwB rfl ?_;refine yN (bu (u C s Q H _ I h) λv c m=>?_);obtain⟨x,H1,i,y,S⟩:=m;refine Db ?_;refine kws_cons ?_;refine wpAny_Constant_int (kws_nil ?_);obtain⟨a,rfl,⟨xs,P⟩,q⟩:=S;cases y;have o:=i.tok (c.toks+1);obtain⟨J,rv,w,Y⟩:=o.tuple P;refine Us (show _ from w) λn e g E=>?_
 refine wpAny_pyIter_enum e ?_;have t:=o.kept (h':=n) (t':=c.toks+1) E;refine⟨c.heap.objs.size+1,[c.heap.objs.size+1,c.heap.objs.size],_,_,H1,rfl,t,UV _ c.heap.objs.size a (Nat.succ_ne_self _),⟨⟨_,e⟩,g⟩,λb A=>?_,q⟩;have d:c.heap.objs.size<=b:=by
  have f:b=c.heap.objs.size+1\/b=c.heap.objs.size:=by simpa using A
  cases f with
  |inl z=>exact z ▸ tU _
  |inr z=>exact z ▸ bj _
 exact i.fpOk d (i.hok.fresh d)
noncomputable def cH(b:Bool) (n:Int) (a:List Int):Int:=a.foldl (λi j=>if(if b then decide (j > i) else decide (j<i))=true then j else i) n
theorem Ex:∀(ns:List Int) (n:Int),cH true n ns∈n::ns/\∀a∈n::ns,a<=cH true n ns
 |[],n=>⟨by simp[cH],by simp[cH]⟩
 |m::ns,n=>by
  have e:cH true n (m::ns)=cH true (if m > n then m else n) ns:=by simp[cH]
  obtain⟨d,c⟩:=Ex ns (if m > n then m else n);rw[e];refine⟨?_,λa ha=>?_⟩
  ·rcases bZ.mp d with z|z
   ·rw[z];split<;>simp
   ·simp[z]
  ·have b:=c _ dk;rcases bZ.mp ha with rfl|ha
   ·refine yr ?_ b;split<;>lia
   ·rcases bZ.mp ha with rfl|ha
    ·refine yr ?_ b;split<;>lia
    ·exact c a (bT _ ha)
theorem Uo{ns:List Int}(l:k=ns.length):(n::ns).getD (argBest (λi j=>decide ((n::ns).getD i 0 >(n::ns).getD j 0)) k) 0=cH true n ns:=by
 subst l;obtain⟨o,c⟩:=argBest_gt (λi=>(n::ns).getD i 0) ns.length;obtain⟨d,g⟩:=Ex ns n;have b:argBest (λi j=>decide ((n::ns).getD i 0 >(n::ns).getD j 0)) ns.length<(n::ns).length:=by rw[dh];lia
 obtain⟨j,a,h⟩:=nh d;have f:=c j (by simp at a;lia);have m:=g ((n::ns).getD (argBest (λi j=>decide ((n::ns).getD i 0 >(n::ns).getD j 0)) ns.length) 0) (by rw[cK,bS b];exact fZ b);have e:(n::ns).getD j 0=cH true n ns:=by rw[cK,bS a,h];rfl
 rw[e] at f;lia
end L2
namespace Dd
open L2
set_option genInjectivity true in
inductive D where
 |non|bl (b:Bool)|int (i:Int)|str (x:Str)|ty (n:String)|ref (n:Nat)|tup (ds:List D)|lst (ds:List D)|scr (ds:List D)|exn (c:Str) (l:List Int)
set_option genInjectivity true in
inductive O where
 /-- a list that may change;a dict by tuples of ints;one that is only read;gone -/
 |lst (xs:List D)|dT (kvs:List (List Int×D))|fT (kvs:List (List Int×D))|dead
 /-- a dict by ints -/
 |dI (kvs:List (Int×D))
 /-- a dict by tuples of tuples of ints,each True -/
 |dP (ks:List (List (List Int)))
 /-- the law's table of codes -/
 |tab
noncomputable abbrev aa:=List O
structure Ug where
 cls:Str
 at_:List Int
set_option genInjectivity true in
inductive bv (α:Type) where
 |ok (a:α) (au:aa)|exc (x:Ug) (au:aa)|stuck
def bv.bind{b c:Type}:bv b->(b->aa->bv c)->bv c
 |.ok a au,f=>f a au
 |.exc x au,_=>.exc x au
 |.stuck,_=>.stuck
@[simp] theorem zo {b c:Type}(a:b) (au:aa) (f:b->aa->bv c):(bv.ok a au).bind f=f a au:=rfl
@[simp] theorem Ww {a b:Type}(x:Ug) (au:aa) (f:a->aa->bv b):(bv.exc x au:bv a).bind f=.exc x au:=rfl
@[simp] theorem WH {a b:Type}(f:a->aa->bv b):(bv.stuck:bv a).bind f=.stuck:=rfl
theorem za{d e:Type}{r:bv d}{f:d->aa->bv e}{b:e}{st':aa}(h:r.bind f=.ok b st'):∃a c,r=.ok a c/\f a c=.ok b st':=by
 cases r with
 |ok a c=>exact⟨a,c,rfl,h⟩
 |exc x c=>cases h
 |stuck=>cases h
noncomputable abbrev DS:=List (Option D)
abbrev SE:=DS->aa->bv D
abbrev ST:=DS->aa->bv Bool
abbrev SA:=DS->aa->bv (List D)
set_option genInjectivity true in
inductive Fl where
 |nx (σ:DS)|ret (v:D)|brk (σ:DS)|ct (σ:DS)
abbrev SS:=DS->aa->bv Fl
abbrev cS:=List D->aa->bv D
structure Loc where
 m:List (Option Addr)
 g:List Addr
def dZ(b:Loc) (a:Addr):Prop:=some a∉b.m/\a∉b.g
def Ls(K:Fg) (c:Loc) (H:Hp) (a:Addr) (b:List V):Prop:=(Rd H a (.lst b)/\dZ c a)\/∀d:Hp,cV K d a b
def DM(K:Fg) (d:Loc) (H:Hp) (c:Str) (l:List Int) (a:Addr):Prop:=∃C o,W.nsIn K mainGlobals c=some (some (.ref C))/\(H a=some (.frz o (.ext λ_=>True))/\dZ d a)/\o.cls=.ref C/\(∃e,o.data=.fields e/\e[2]?=some .none) /\
 ((l=[]/\o.dict=none)\/∃ i b f,l=[i]/\o.dict=some b/\H b=some (.frz f (.xd [("at",.int i)]))/\dZ d b)
theorem DM.map{K:Fg}(h:DM K ρ H c l a)(f:∀b e u,H b=some (.frz e u)->dZ ρ b->H' b=some (.frz e u)/\dZ ρ' b):DM K ρ' H' c l a:=by
 obtain⟨C,o,q,g,s,r,d⟩:=h;refine⟨C,o,q,f _ _ _ g.1 g.2,s,r,?_⟩;rcases d with d|⟨i,n,p,t,m,j,k⟩
 ·exact .inl d
 ·exact .inr ⟨i,n,p,t,m,(f _ _ _ j k).1,(f _ _ _ j k).2⟩
mutual
inductive At (K:Fg) (ρ:Loc) (H:Hp):D->V->Prop
 |non:At K ρ H .non .non
 |bl (b:Bool):At K ρ H (.bl b) (.bl b)
 |int (i:Int):At K ρ H (.int i) (.int i)
 |str (x:Str):At K ρ H (.str x) (.str x)
 |ty (n:String):At K ρ H (.ty n) (.ty n)
 |ref {n:Nat}{v:V}:n < ρ.m.length->(∀a,ρ.m[n]?=some (some a)->v=.ref a)->At K ρ H (.ref n) v
 |tup {a:Addr}{ds:List D}{vs:List V}:H a=some (.tup vs)->dZ ρ a->ab K ρ H ds vs->At K ρ H (.tup ds) (.ref a)
 |lst {a:Addr}{ds:List D}{vs:List V}:H a=some (.lst vs)->dZ ρ a->ab K ρ H ds vs->At K ρ H (.lst ds) (.ref a)
 |scr {a:Addr}{ds:List D}{vs:List V}:Ls K ρ H a vs->ab K ρ H ds vs->At K ρ H (.scr ds) (.ref a)
 |exn {c:Str}{l:List Int}{a:Addr}:DM K ρ H c l a->At K ρ H (.exn c l) (.ref a)
inductive ab (K:Fg) (ρ:Loc) (H:Hp):List D->List V->Prop
 |nil:ab K ρ H [] []
 |cons {d:D}{ds:List D}{v:V}{vs:List V}:At K ρ H d v->ab K ρ H ds vs->ab K ρ H (d::ds) (v::vs)
end
structure Mv (ρ:Loc) (H:Hp) (ρ':Loc) (H':Hp):Prop where
 out:∀{a:Addr}{o:HO},H a=some o->dZ ρ a->H' a=some o/\dZ ρ' a
 len:ρ.m.length<=ρ'.m.length
 old:∀(n:Nat) (a:Addr),n < ρ.m.length->ρ'.m[n]?=some (some a)->ρ.m[n]?=some (some a)
theorem Ls.mv{K:Fg}(x:Mv ρ H ρ' H')(h:Ls K ρ H a vs):Ls K ρ' H' a vs:=by
 rcases h with⟨h|⟨o,h⟩,n⟩|h
 ·exact .inl ⟨.inl (x.out h n).1,(x.out h n).2⟩
 ·exact .inl ⟨.inr ⟨o,(x.out h n).1⟩,(x.out h n).2⟩
 ·exact .inr h
theorem At.mv{K:Fg}(x:Mv ρ H ρ' H') (h:At K ρ H d v):At K ρ' H' d v:=
 At.rec (motive_1:=λd v _=>At K ρ' H' d v) (motive_2:=λd v _=>ab K ρ' H' d v) .non .bl .int .str .ty (λh e=>.ref (da h x.len) λa q=>e a (x.old _ a h q)) (λh n _ c=>.tup (x.out h n).1 (x.out h n).2 c) (λh n _ c=>.lst (x.out h n).1 (x.out h n).2 c) (λh _ c=>.scr (h.mv x) c) (λh=>.exn (h.map λ_ _ _ e n=>x.out e n)) .nil (λ_ _ a b=>.cons a b) h
theorem ab.mv{K:Fg}(x:Mv ρ H ρ' H') (h:ab K ρ H d v):ab K ρ' H' d v:=
 ab.rec (motive_1:=λ_ _ _=>True) (motive_2:=λd v _=>ab K ρ' H' d v) trivial (λ_=>trivial) (λ_=>trivial) (λ_=>trivial) (λ_=>trivial) (λ_ _=>trivial) (λ_ _ _ _=>trivial) (λ_ _ _ _=>trivial) (λ_ _ _=>trivial) (λ_=>trivial) .nil (λa _ _ b=>.cons (a.mv x) b) h
structure bx (ρ:Loc) (H:Hp) (ρ':Loc) (H':Hp):Prop where
 len:ρ.m.length<=ρ'.m.length
 old:∀(n:Nat) (a:Addr),n < ρ.m.length->ρ'.m[n]?=some (some a)->ρ.m[n]?=some (some a)
 keep:∀a o,H a=some o->some a∉ρ.m->H' a=some o/\some a∉ρ'.m
 gho:ρ'.g=ρ.g
 frz:∀a ob u,H a=some (.frz ob u)->H' a=some (.frz ob u)
theorem bx.out(x:bx ρ H ρ' H') (h:H a=some o)(n:dZ ρ a):H' a=some o/\dZ ρ' a:=
 ⟨(x.keep a o h n.1).1,(x.keep a o h n.1).2,by rw[x.gho];exact n.2⟩
theorem bx.mv(x:bx ρ H ρ' H'):Mv ρ H ρ' H':=⟨λh n=>x.out h n,x.len,x.old⟩
theorem Ls.sq{K:Fg}(h:Ls K ρ H a vs):cV K H a vs:=by
 rcases h with h|h
 ·exact .inl h.1
 ·exact h H
theorem bx.refl(a:Loc)(H:Hp):bx a H a H:=⟨bj _,λ_ _ _ e=>e,λ_ _ e n=>⟨e,n⟩,rfl,λ_ _ _ e=>e⟩
theorem bx.trans(a:bx ρ H ρ1 H1)(b:bx ρ1 H1 ρ2 H2):bx ρ H ρ2 H2:=
 ⟨ax a.len b.len,λn c h e=>a.old n c h (b.old n c (da h a.len) e),λc o e n=>by
  obtain⟨g,f⟩:=a.keep c o e n
  exact b.keep c o g f,b.gho.trans a.gho,λc d u e=>b.frz c d u (a.frz c d u e)⟩
theorem At.ext{K:Fg}(x:bx ρ H ρ' H') (h:At K ρ H d v):At K ρ' H' d v:=h.mv x.mv
theorem ab.ext{K:Fg}(x:bx ρ H ρ' H') (h:ab K ρ H d v):ab K ρ' H' d v:=h.mv x.mv
theorem ab.length{K:Fg}:∀{a:List D}{b:List V},ab K ρ H a b->b.length=a.length
 |_,_,.nil=>rfl
 |_,_,.cons _ t=>by rw[dh,dh,ab.length t]
theorem ab.get{K:Fg}:∀{b:List D}{c:List V}{i:Nat}{d:D},ab K ρ H b c->b[i]?=some d->∃v,c[i]?=some v/\At K ρ H d v
 |_,_,_,_,.nil,e=>by simp at e
 |_,_,0,_,.cons a _,e=>by simp at e;subst e;exact⟨_,rfl,a⟩
 |_,_,i+1,d,.cons _ t,e=>by
  obtain⟨u,f,g⟩:=ab.get (i:=i) (d:=d) t (by simpa using e);exact⟨u,by simpa using f,g⟩
theorem ab.append{K:Fg}:∀{c d:List D}{f e:List V},ab K ρ H c f->ab K ρ H d e->ab K ρ H (c++d) (f++e)
 |_,_,_,_,.nil,b=>b
 |_,_,_,_,.cons a t,b=>.cons a (ab.append t b)
theorem ab.take{K:Fg}:∀{b:List D}{c:List V}(n:Nat),ab K ρ H b c->ab K ρ H (b.take n) (c.take n)
 |_,_,0,_=>.nil
 |_,_,_+1,.nil=>.nil
 |_,_,n+1,.cons a t=>.cons a (ab.take n t)
theorem ab.drop{K:Fg}:∀{b:List D}{c:List V}(n:Nat),ab K ρ H b c->ab K ρ H (b.drop n) (c.drop n)
 |_,_,0,h=>h
 |_,_,_+1,.nil=>.nil
 |_,_,n+1,.cons a t=>ab.drop n t
theorem ab.set{K:Fg}(a:At K ρ H d v):∀{c:List D}{e:List V}(n:Nat),ab K ρ H c e->ab K ρ H (c.set n d) (e.set n v)
 |_,_,_,.nil=>.nil
 |_,_,0,.cons _ t=>.cons a t
 |_,_,n+1,.cons b t=>.cons b (ab.set a n t)
def dJ(K:Fg) (a:Loc) (H:Hp):List (List Int×D)->List (List cy×V)->Prop:=Paired λp q=>q.1=p.1.map Sum.inl/\At K a H p.2 q.2
theorem dJ.ext{K:Fg}(x:bx ρ H ρ' H') (h:dJ K ρ H a b):dJ K ρ' H' a b:=Paired.mapP h λp q z=>⟨z.1,z.2.ext x⟩
noncomputable abbrev P8:Str:=(("law" : Str)++".<locals>.")++"<lambda>"
def kz(H:Hp) (e:Array Value):Prop:=TriplesOk e.toList/\∀a d,codeAmong a e.toList=some d->∃c b f t,d=.ref c/\H c=some (.frz b (.ext λ_=>True))/\b.data=.fields f/\f[1]?=some (.str P8 t)
theorem kz.map(h:kz H ps)(f:∀b d u,H b=some (.frz d u)->H' b=some (.frz d u)):kz H' ps:=
 ⟨h.1,λa j e=>by obtain⟨c,g,m,t,i,k,l⟩:=h.2 a j e;exact⟨c,g,m,t,i,f _ _ _ k,l⟩⟩
def ei(K:Fg) (a:Loc) (H:Hp):List (Int×D)->List (cy×V)->Prop:=Paired λp q=>q.1=Sum.inl p.1/\At K a H p.2 q.2
theorem ei.ext{K:Fg}(x:bx ρ H ρ' H') (h:ei K ρ H a b):ei K ρ' H' a b:=Paired.mapP h λp q z=>⟨z.1,z.2.ext x⟩
noncomputable def AY(a:Addr) (d:List DictEntry):Heap->Prop:=λh=>∃o b c,h.get? a=some o/\o.ExactDict/\o.data=.dict b c/\b.toList=d
noncomputable def AL(k:List (List Int)):Int:=reduceHash (Builtin.Tuple.tupleHashOf (k.map λr=>reduceHash (Builtin.Tuple.tupleHashOf (r.map hashInt))))
noncomputable def zZ(k:List (List Int)):D:=.tup (k.map λr=>.tup (r.map .int))
def o5(K:Fg) (a:Loc) (H:Hp):List (List (List Int))->List DictEntry->Prop:=Paired λk e=>e.hash=AL k/\e.val=.bool true/\∃b,e.key=.ref b/\At K a H (zZ k) (.ref b)
theorem o5.map{K:Fg}(k:∀d v,At K ρ H d v->At K ρ' H' d v) (h:o5 K ρ H a b):o5 K ρ' H' a b:=Paired.mapP h λp q ⟨i,g,c,f,e⟩=>⟨i,g,c,f,k _ _ e⟩
def ll(K:Fg) (d:Loc) (H:Hp):O->Addr->Prop
 |.lst xs,a=>∃b,H a=some (.lst b)/\ab K d H xs b
 |.dT kvs,a=>∃b,H a=some (.dT b)/\dJ K d H kvs b
 |.fT kvs,a=>∃b g,H a=some (.frz g (.dT b))/\dJ K d H kvs b
 |.dI kvs,a=>∃b,H a=some (.dK b)/\ei K d H kvs b
 |.dP ks,a=>∃e,H a=some (.ext (AY a e))/\(a==sysModules)=false/\ks.length<=sizeLine/\ks.Nodup/\o5 K d H ks e
 |.dead,_=>False
 |.tab,a=>(∃ c,W.tabIn K "law"=some (c,a))/\∃ f,H a=some (.tbl f)/\kz H f
structure bY (K:Fg) (ρ:Loc) (au:aa) (H:Hp):Prop where
 len:ρ.m.length=au.length
 inj:∀(n m:Nat) (a:Addr),ρ.m[n]?=some (some a)->ρ.m[m]?=some (some a)->n=m
 obj:∀(n:Nat) (a:Addr) (o:O),ρ.m[n]?=some (some a)->au[n]?=some o->ll K ρ H o a
 gh:∀a∈ρ.g,(∃vs,H a=some (.lst vs))/\some a∉ρ.m
 live:∀(n:Nat) (o:O),au[n]?=some o->o≠.dead->∃a,ρ.m[n]?=some (some a)
def WZ(K:Fg) (a:Loc) (H:Hp) (o:Option D) (v:Option V):Prop:=∀d,o=some d->∃u,v=some u/\At K a H d u
abbrev cY(K:Fg) (a:Loc) (H:Hp):DS->St->Prop:=Paired (WZ K a H)
theorem cY.ext{K:Fg}(x:bx ρ H ρ' H') (h:cY K ρ H σ τ):cY K ρ' H' σ τ:=Paired.mapP h λo v z d e=>by
 obtain⟨u,b,a⟩:=z d e;exact⟨u,b,a.ext x⟩
theorem cY.get{K:Fg}:∀{c:DS}{b:St}{i:Nat}{d:D},cY K ρ H c b->c[i]?=some (some d)->∃u,b[i]?=some (some u)/\At K ρ H d u
 |_,_,_,_,.nil,e=>by simp at e
 |_,_,0,_,.cons a _,e=>by
  simp at e;subst e
  obtain⟨u,g,h⟩:=a _ rfl;exact⟨u,by simp[g],h⟩
 |_,_,i+1,d,.cons _ t,e=>by
  obtain⟨u,j,f⟩:=cY.get (i:=i) (d:=d) t (by simpa using e);exact⟨u,by simpa using j,f⟩
theorem cY.set{K:Fg}(a:At K ρ H d v):∀{b:DS}{c:St}(i:Nat),cY K ρ H b c->cY K ρ H (b.set i (some d)) (c.set i (some v))
 |_,_,_,.nil=>.nil
 |_,_,0,.cons _ t=>.cons (λf e=>by cases e;exact⟨v,rfl,a⟩) t
 |_,_,i+1,.cons q t=>.cons q (cY.set a i t)
def tD(K:Fg) (f:SE):TE:=λh H Q=>∃d g e v b,cY K d H g h/\bY K d e H/\f g e=.ok v b/\∀a c u,bx d H a c->bY K a b c->At K a c v u->Q u c
def nl(K:Fg) (f:ST):TT:=λh H Q=>∃d g e v b,cY K d H g h/\bY K d e H/\f g e=.ok v b/\∀a c,bx d H a c->bY K a b c->Q v c
def PX(K:Fg) (f:SA):TA:=λh H Q=>∃d g e v b,cY K d H g h/\bY K d e H/\f g e=.ok v b/\∀a c u,bx d H a c->bY K a b c->ab K a c v u->Q u c
def pb(K:Fg) (e:Loc) (H:Hp) (c:aa) (E:lm):Fl->Prop
 |.nx σ=>∀a b d,bx e H a b->bY K a c b->cY K a b σ d->E.nx d b
 |.brk σ=>∀a b d,bx e H a b->bY K a c b->cY K a b σ d->E.bk d b
 |.ct σ=>∀a b d,bx e H a b->bY K a c b->cY K a b σ d->E.ct d b
 |.ret v=>∀a b u,bx e H a b->bY K a c b->At K a b v u->E.rt u b
theorem pb.ext{K:Fg}(x:bx ρ H ρ1 H1)(h:pb K ρ H st' E fl):pb K ρ1 H1 st' E fl:=by
 cases fl with
 |nx σ=>exact λa b c e=>h a b c (x.trans e)
 |brk σ=>exact λa b c e=>h a b c (x.trans e)
 |ct σ=>exact λa b c e=>h a b c (x.trans e)
 |ret v=>exact λa b c e=>h a b c (x.trans e)
def DF(K:Fg) (f:SS):TS:=λE g H=>∃b e d c a,cY K b H e g/\bY K b d H/\f e d=.ok c a/\pb K b H a E c
abbrev DE(X:Cx) (e:Expr) (f:SE):Prop:=PE X e (tD X.K f)
abbrev DT(X:Cx) (e:Expr) (f:ST):Prop:=PT X e (nl X.K f)
abbrev DW(X:Cx) (e:Expr) (f:ST):Prop:=PW X e (nl X.K f)
abbrev DA(X:Cx) (a:List Expr) (f:SA):Prop:=PA X a (PX X.K f)
abbrev jr(X:Cx) (s:Stmt) (f:SS):Prop:=PS X s (DF X.K f)
abbrev mM(X:Cx) (s:List Stmt) (f:SS):Prop:=jg X s (DF X.K f)
theorem fw(h:PE X e t)(k:∀a H Q,t' a H Q->t a H Q):PE X e t':=λb s a H Q I q=>h b s a H Q I (k _ _ _ q)
theorem kO(h:PT X e t)(k:∀a H Q,t' a H Q->t a H Q):PT X e t':=λb s a H Q I q=>h b s a H Q I (k _ _ _ q)
theorem p8(h:PW X e t)(k:∀a H Q,t' a H Q->t a H Q):PW X e t':=λb c s a H Q I q=>h b c s a H Q I (k _ _ _ q)
theorem vL(h:PA X es t)(k:∀a H Q,t' a H Q->t a H Q):PA X es t':=λb c s a H Q I q=>h b c s a H Q I (k _ _ _ q)
theorem lq(h:PS X s t)(k:∀E a H,t' E a H->t E a H):PS X s t':=λb z a H E I q=>h b z a H E I (k _ _ _ q)
theorem wM(h:jg X ss t)(k:∀E a H,t' E a H->t E a H):jg X ss t':=λb z a H E I q=>h b z a H E I (k _ _ _ q)
def aA(i:Nat):SE:=λa b=>match a[i]? with
 |some (some d)=>.ok d b
 |_=>.stuck
def eC(d:D):SE:=λ_ a=>.ok d a
theorem FX(h:PE X e (oH i)):DE X e (aA i):=fw h λm H Q b=>by
 obtain⟨c,n,l,v,f,a,r,e,q⟩:=b;unfold aA at e;split at e
 ·rename_i d j;cases e;obtain⟨u,g,k⟩:=a.get j;exact⟨u,g,q c H u (.refl _ _) r k⟩
 ·cases e
theorem nK(h:PE X e (tC v))(k:∀c H,At X.K c H d v):DE X e (eC d):=fw h λi H Q b=>by
 obtain⟨c,j,g,v,f,a,r,e,q⟩:=b;cases e;exact q c H _ (.refl _ _) r (k _ _)
theorem FO{i j pos}:DE X (.Constant (.int i) j pos) (eC (.int i)):=nK HU λ_ _=>.int i
theorem Qo{b j pos}:DE X (.Constant (.bool b) j pos) (eC (.bl b)):=nK Gh λ_ _=>.bl b
theorem FR{j pos}:DE X (.Constant .none j pos) (eC .non):=nK HV λ_ _=>.non
def aS(g:D->D->aa->bv D) (f d:SE):SE:=λc e=>(f c e).bind λx b=>(d c b).bind λy a=>g x y a
def kr(g:D->aa->bv D) (f:SE):SE:=λb c=>(f b c).bind λx a=>g x a
def gU(K:Fg) (g:D->D->aa->bv D) (r:R2):Prop:=
 ∀d H e x y u v z b (Q:VK),bY K d e H->At K d H x u->At K d H y v->g x y e=.ok z b->(∀a c w,bx d H a c->bY K a b c->At K a c z w->Q w c)->r u v H Q
theorem nP{K:Fg}(G:gU K g r):∀o H Q,tD K (aS g f f') o H Q->yX r (tD K f) (tD K f') o H Q:=λo H Q i=>by
 obtain⟨I,s,J,v,k,a,P,e,q⟩:=i;obtain⟨x,c,X,e⟩:=za e;obtain⟨y,b,Y,e⟩:=za e;refine⟨I,s,J,x,c,a,P,X,λd H1 u t j S=>?_⟩;refine⟨d,s,c,y,b,a.ext t,j,Y,λm H2 w p h U=>?_⟩;exact G m H2 b x y u w v k Q h (S.ext p) U e λl C z A n E=>q l C z (t.trans (p.trans A)) n E
theorem Qk(c:dq X (binaryOp op) r)(h:gU X.K g r)(e:DE X a f)(d:DE X b f'):DE X (.BinOp a op b pos) (aS g f f'):=fw (Gj c e d) (nP h)
theorem FM(h:dq X (compareOp op) r)(e:gU X.K g r)(d:DE X a f)(c:DE X b f')(i:behindInMarks op b=false):DE X (.Compare a [op] [b] pos) (aS g f f'):=fw (Kd h d c i) (nP e)
def eB(f:SE):ST:=λc d=>(f c d).bind λv a=>match v with
 |.bl b=>.ok b a
 |_=>.stuck
theorem se{K:Fg}:∀h H Q,nl K (eB f) h H Q->tD K f h H λx H1=>∃c,x=.bl c/\Q c H1:=λh H Q b=>by
 obtain⟨l,p,n,v,k,a,o,e,q⟩:=b;obtain⟨x,g,m,e⟩:=za e;refine⟨l,p,n,x,g,a,o,m,λi H1 u r d j=>?_⟩;cases x<;>try (cases e;done)
 cases e;cases j;exact⟨_,rfl,q _ _ r d⟩
theorem G4(i:dq X (compareOp op) r)(e:gU X.K g r)(d:DE X a f)(c:DE X b f')(j:behindInMarks op b=false):DT X (.Compare a [op] [b] pos) (eB (aS g f f')):=
 kO (Ku i d c j) λk H Q h=>nP e _ _ _ (se _ _ _ h)
def gG(g k:D->D->aa->bv D) (f i d:SE):SE:=λh j=>(f h j).bind λx e=>(i h e).bind λy b=>(g x y b).bind λz a=>match z with
 |.bl true=>(d h a).bind λw c=>k y w c
 |.bl false=>.ok (.bl false) a
 |_=>.stuck
theorem IM{K:Fg}(hr:gU K g r)(m:gU K g' r'):∀S H Q,tD K (gG g g' f f' f'') S H Q->ml r r' (tD K f) (tD K f') (tD K f'') S H Q:=λS H Q p=>by
 obtain⟨ρ,I,au,v,C,a,rp,e,q⟩:=p;obtain⟨x,i,e1,e⟩:=za e;obtain⟨y,c,e2,e⟩:=za e;obtain⟨z,k,e3,e⟩:=za e;refine⟨ρ,I,au,x,i,a,rp,e1,λl H1 u x1 s a1=>?_⟩;refine⟨l,I,i,y,c,a.ext x1,s,e2,λP H2 w Y n a2=>?_⟩;refine hr P H2 c x y u w z k _ n (a1.ext Y) a2 e3 λd H3 zz X j a3=>?_
 have o:=x1.trans (Y.trans X);cases z<;>try (cases e;done)
 rename_i b;cases a3;refine⟨b,rfl,?_⟩;cases b with
 |true=>
  obtain⟨t,h,e4,e⟩:=za e;rw[if_pos rfl];refine⟨d,I,k,t,h,a.ext o,j,e4,λG H4 tt U J a4=>?_⟩;exact m G H4 h y t w tt v C Q J (a2.ext (X.trans U)) a4 e λE H' zz x5 A a5=>q E H' zz (o.trans (U.trans x5)) A a5
 |false=>
  cases e;rw[if_neg (by decide)];exact q d H3 _ o j (.bl false)
end Dd
namespace Dd
open L2
theorem bx.new(a:H p=none)(o:HO):bx ρ H ρ (aZ H p o):=⟨bj _,λ_ _ _ e=>e,λb u e m=>⟨by rw[zy (zn e a)];exact e,m⟩,rfl,λb c u e=>by rw[zy (zn e a)];exact e⟩
section
variable {H:Hp}{a:Addr}
theorem tq{c:List V}(h:H a=some (.lst c)):∀b u,H a≠some (.frz b u):=λb u z=>by rw[h] at z;cases z
theorem sU{c:List (List cy×V)}(h:H a=some (.dT c)):∀b u,H a≠some (.frz b u):=λb u z=>by rw[h] at z;cases z
end
theorem bx.wr{c:Loc}{n:Nat}(h:c.m[n]?=some (some a))(f:∀d u,H a≠some (.frz d u))(o:HO):bx c H c (aZ H a o):=⟨bj _,λ_ _ _ e=>e,λb u e m=>⟨by
 rw[zy]
 ·exact e
 ·rintro rfl
  exact m (dY h),m⟩,rfl,λb d u e=>by
 rw[zy]
 ·exact e
 ·rintro rfl
  exact f _ _ e⟩
theorem ll.has{K:Fg}(h:ll K ρ H x a):∃u,H a=some u:=by
 cases x with
 |lst xs=>obtain⟨b,e,_⟩:=h;exact⟨_,e⟩
 |dT kvs=>obtain⟨b,e,_⟩:=h;exact⟨_,e⟩
 |fT kvs=>obtain⟨b,c,e,_⟩:=h;exact⟨_,e⟩
 |dI kvs=>obtain⟨b,e,_⟩:=h;exact⟨_,e⟩
 |dP ks=>obtain⟨b,e,_⟩:=h;exact⟨_,e⟩
 |dead=>exact h.elim
 |tab=>obtain⟨_,d,e,_⟩:=h;exact⟨_,e⟩
theorem ll.ext{K:Fg}(e:bx ρ H ρ' H')(same:H' a=H a)(h:ll K ρ H x a):ll K ρ' H' x a:=by
 cases x with
 |lst xs=>obtain⟨b,q,r⟩:=h;exact⟨b,by rw[same];exact q,r.ext e⟩
 |dT kvs=>obtain⟨b,q,r⟩:=h;exact⟨b,by rw[same];exact q,r.ext e⟩
 |fT kvs=>obtain⟨b,d,q,r⟩:=h;exact⟨b,d,by rw[same];exact q,r.ext e⟩
 |dI kvs=>obtain⟨b,q,r⟩:=h;exact⟨b,by rw[same];exact q,r.ext e⟩
 |dP ks=>obtain⟨b,q,n,l,u,r⟩:=h;exact⟨b,by rw[same];exact q,n,l,u,r.map λ_ _ z=>z.ext e⟩
 |dead=>exact h.elim
 |tab=>obtain⟨c,f,q,r⟩:=h;exact⟨c,f,by rw[same];exact q,r.map e.frz⟩
theorem bY.has{K:Fg}{n:Nat}(r:bY K ρ au H)(h:ρ.m[n]?=some (some a)):∃x,au[n]?=some x/\ll K ρ H x a:=by
 have b:n<au.length:=by rw[←r.len];exact(cU.mp h).1
 exact⟨au[n],bS b,r.obj n a _ h (bS b)⟩
theorem bY.new{K:Fg}(r:bY K ρ au H)(c:H p=none)(o:HO):bY K ρ au (aZ H p o):=⟨r.len,r.inj,λm b x e f=>by
 have q:=r.obj m b x e f;obtain⟨u,a⟩:=q.has;exact q.ext (bx.new c o) (zy (zn a c)),λb d=>by
 obtain⟨⟨u,a⟩,n⟩:=r.gh b d
 exact⟨⟨u,by rw[zy (zn a c)];exact a⟩,n⟩,r.live⟩
theorem bY.wr{K:Fg}(r:bY K ρ au H)(h:ρ.m[n]?=some (some a))(p:∀i u,H a≠some (.frz i u)) (q:ll K ρ (aZ H a o) x a):bY K ρ (au.set n x) (aZ H a o):=⟨by rw[r.len,iV],r.inj,λm b y c d=>by
 by_cases hm:m=n
 ·subst hm;have f:b=a:=by rw[h] at c;exact(g7 (g7 c)).symm
  subst f;have j:m<au.length:=by rw[←r.len];exact(cU.mp h).1
  rw[pW j] at d;cases d;exact q
 ·rw[ft (fO hm)] at d;refine(r.obj m b y c d).ext (bx.wr h p o) (zy λz=>hm ?_);subst z;exact r.inj m n b c h,λb f=>by
 obtain⟨⟨u,k⟩,g⟩:=r.gh b f;refine⟨⟨u,?_⟩,g⟩;rw[zy]
 ·exact k
 ·rintro rfl;exact g (dY h),λm y e l=>by
 by_cases hm:m=n
 ·subst hm;exact⟨a,h⟩
 ·rw[ft (fO hm)] at e
  exact r.live m y e l⟩
theorem bY.alloc{K:Fg}(r:bY K ρ au H)(d:H p=none) (q:bx ρ H ⟨ρ.m++[some p],ρ.g⟩ (aZ H p o)->ll K ⟨ρ.m++[some p],ρ.g⟩ (aZ H p o) x p):bx ρ H ⟨ρ.m++[some p],ρ.g⟩ (aZ H p o)/\bY K ⟨ρ.m++[some p],ρ.g⟩ (au++[x]) (aZ H p o):=by
 have g:∀(m:Nat) (b:Addr),(ρ.m++[some p])[m]?=some (some b)->(m < ρ.m.length/\ρ.m[m]?=some (some b))\/(m=ρ.m.length/\b=p):=λm b e=>by
  rcases pH m ρ.m.length with z|z
  ·rw[gx z] at e;exact .inl ⟨z,e⟩
  ·rw[kZ z] at e;have n:m-ρ.m.length=0:=by
    have:=(cU.mp e).1;simp at this;lia
   rw[n] at e;simp at e;exact .inr ⟨by lia,e.symm⟩
 have v:∀(m:Nat),ρ.m[m]?≠some (some p):=λm e=>by
  obtain⟨x,_,q⟩:=r.has e;obtain⟨u,a⟩:=q.has;rw[d] at a;cases a
 have E:bx ρ H ⟨ρ.m++[some p],ρ.g⟩ (aZ H p o):=⟨by rw[cJ];lia,λm b h e=>by
   rw[gx h] at e;exact e,λb u e m=>⟨by rw[zy (zn e d)];exact e,λz=>by
   rcases dB.mp z with z|z
   ·exact m z
   ·simp at z;subst z;rw[d] at e;cases e⟩,rfl,λb G u e=>by rw[zy (zn e d)];exact e⟩
 refine⟨E,⟨by rw[cJ,cJ,r.len];rfl,λm k b s c=>?_,λm b y s c=>?_,λb j=>?_,λm y e C=>?_⟩⟩
 ·rcases g m b s with⟨f,i⟩|⟨f,rfl⟩
  ·rcases g k b c with⟨l,t⟩|⟨l,rfl⟩
   ·exact r.inj m k b i t
   ·exact absurd i (v m)
  ·rcases g k b c with⟨l,t⟩|⟨l,_⟩
   ·exact absurd t (v k)
   ·lia
 ·rcases g m b s with⟨f,i⟩|⟨f,rfl⟩
  ·rw[gx (by rw[←r.len];exact f)] at c;have q:=r.obj m b y i c;obtain⟨u,a⟩:=q.has;exact q.ext E (zy (zn a d))
  ·rw[f,r.len,kZ (bj _)] at c;simp at c;subst c;exact q E
 ·obtain⟨⟨u,a⟩,A⟩:=r.gh b j;refine⟨⟨u,by rw[zy (zn a d)];exact a⟩,λz=>?_⟩;rcases dB.mp z with z|z
  ·exact A z
  ·simp at z;subst z;rw[d] at a;cases a
 ·rcases pH m au.length with z|z
  ·rw[gx z] at e;obtain⟨b,j⟩:=r.live m y e C;exact⟨b,by rw[gx (by rw[r.len];exact z)];exact j⟩
  ·have n:=(cU.mp e).1;simp at n;have w:m=ρ.m.length:=by rw[r.len];lia
   exact⟨p,by rw[w,kZ (bj _)];simp⟩
theorem bY.kill{K:Fg}(r:bY K ρ au H)(h:n < ρ.m.length):bx ρ H ⟨ρ.m.set n none,ρ.g⟩ H/\bY K ⟨ρ.m.set n none,ρ.g⟩ (au.set n .dead) H:=by
 have c:∀(m:Nat) (b:Addr),(ρ.m.set n none)[m]?=some (some b)->m≠n/\ρ.m[m]?=some (some b):=λm b e=>by
  by_cases z:m=n
  ·subst z;rw[pW h] at e;simp at e
  ·rw[ft (fO z)] at e;exact⟨z,e⟩
 have E:bx ρ H ⟨ρ.m.set n none,ρ.g⟩ H:=⟨by rw[iV];exact bj _,λm b _ e=>(c m b e).2,λb o e m=>⟨e,λz=>by
  obtain⟨i,f,a⟩:=nh z;have:(ρ.m.set n none)[i]?=some (some b):=by rw[bS f,a]
  exact m (dY (c i b this).2)⟩,rfl,λ_ _ _ e=>e⟩
 refine⟨E,⟨by rw[iV,iV,r.len],λm k b g a=>r.inj m k b (c m b g).2 (c k b a).2,λm b y g a=>?_,λb d=>⟨(r.gh b d).1,λz=>?_⟩,λm y e j=>?_⟩⟩
 rotate_left
 ·obtain⟨i,f,a⟩:=nh z;have:(ρ.m.set n none)[i]?=some (some b):=by rw[bS f,a]
  exact(r.gh b d).2 (dY (c i b this).2)
 ·have z:m≠n:=by
   rintro rfl;rw[pW (by rw[←r.len];exact h)] at e;cases e;exact j rfl
  rw[ft (fO z)] at e;obtain⟨b,d⟩:=r.live m y e j;exact⟨b,by rw[ft (fO z)];exact d⟩
 obtain⟨z,q⟩:=c m b g;rw[ft (fO z)] at a;exact(r.obj m b y q a).ext E rfl
theorem E2{K:Fg}(r:bY K ρ au H)(c:H p=none):dZ ρ p:=by
 refine⟨λz=>?_,λz=>?_⟩
 ·obtain⟨i,d,e⟩:=nh z;obtain⟨x,_,q⟩:=r.has (n:=i) (a:=p) (by rw[bS d,e]);obtain⟨u,b⟩:=q.has;rw[c] at b;cases b
 ·obtain⟨⟨u,b⟩,_⟩:=r.gh p z;rw[c] at b;cases b
theorem At.newT{K:Fg}(r:bY K ρ au H)(a:H p=none) (h:ab K ρ H ds vs):At K ρ (aZ H p (.tup vs)) (.tup ds) (.ref p):=.tup zx (E2 r a) (h.ext (bx.new a _))
theorem At.newL{K:Fg}(r:bY K ρ au H)(a:H p=none) (h:ab K ρ H ds vs):At K ρ (aZ H p (.lst vs)) (.lst ds) (.ref p):=.lst zx (E2 r a) (h.ext (bx.new a _))
def iH(f c:SE):SE:=λb d=>(f b d).bind λv a=>match v with
 |.bl true=>c b a
 |.bl false=>.ok (.bl false) a
 |_=>.stuck
def T9(f c:SE):SE:=λb d=>(f b d).bind λv a=>match v with
 |.bl true=>.ok (.bl true) a
 |.bl false=>c b a
 |_=>.stuck
def lh(f:SE):SE:=λc d=>(f c d).bind λv a=>match v with
 |.bl b=>.ok (.bl (!b)) a
 |_=>.stuck
def jQ(f d:ST):ST:=λc e=>(f c e).bind λb a=>if b=true then d c a else .ok false a
def qb(f d:ST):ST:=λc e=>(f c e).bind λb a=>if b=true then .ok true a else d c a
def fG(f:ST):ST:=λc d=>(f c d).bind λb a=>.ok (!b) a
def uw(c:ST) (f e:SE):SE:=λd g=>(c d g).bind λb a=>if b=true then f d a else e d a
theorem FT{op}(h:DE X a f):DE X (.BoolOp op [a] pos) f:=HX h
section
variable {X:Cx}{a:Expr}{b:Expr}{rest:List Expr}{f:SE}{f':SE}{pos:Pos}
theorem FL(o:DE X a f)(r:DE X (.BoolOp .And (b::rest) pos) f'):DE X (.BoolOp .And (a::b::rest) pos) (iH f f'):=fw (HR o r) λC H Q i=>by
 obtain⟨t,n,w,v,j,g,y,e,q⟩:=i;obtain⟨x,d,A,e⟩:=za e;refine⟨t,n,w,x,d,g,y,A,λh H1 u l c z=>?_⟩;cases x<;>try (cases e;done)
 rename_i m;cases z;refine⟨m,rfl,?_⟩;cases m with
 |true=>
  rw[if_pos rfl];exact⟨h,n,d,v,j,g.ext l,c,e,λk s u p=>q k s u (l.trans p)⟩
 |false=>
  rw[if_neg (by decide)];cases e;exact q _ _ _ l c (.bl false)
end
theorem FS(i:DE X a f):DE X (.UnaryOp .Not a pos) (lh f):=fw (HW i) λt H Q c=>by
 obtain⟨k,r,o,v,l,b,p,e,q⟩:=c;obtain⟨x,g,m,e⟩:=za e;refine⟨k,r,o,x,g,b,p,m,λh H1 u s d j=>?_⟩;cases x<;>try (cases e;done)
 rename_i n;cases j;cases e;exact⟨n,rfl,q _ _ _ s d (.bl _)⟩
theorem G9{op}(h:DT X a t)(b:op=.And\/op=.Or):DW X (.BoolOp op [a] pos) t:=by
 rcases b with rfl|rfl
 ·exact oQ h
 ·exact r0 h
section
variable {X:Cx}{a:Expr}{b:Expr}{rest:List Expr}{t:ST}{t':ST}{pos:Pos}
theorem G8(n:DT X a t)(m:DW X (.BoolOp .And (b::rest) pos) t'):DW X (.BoolOp .And (a::b::rest) pos) (jQ t t'):=p8 (r6 n m) λy H Q h=>by
 obtain⟨p,l,r,v,i,c,s,e,q⟩:=h;obtain⟨x,f,u,e⟩:=za e;refine⟨p,l,r,x,f,c,s,u,λg H1 k d=>?_⟩;cases x with
 |true=>exact k9 ⟨g,l,f,v,i,c.ext k,d,e,λj o w=>q j o (k.trans w)⟩
 |false=>cases e;exact lc (q _ _ k d)
theorem F0(n:DT X a t)(m:DW X (.BoolOp .Or (b::rest) pos) t'):DW X (.BoolOp .Or (a::b::rest) pos) (qb t t'):=p8 (zS n m) λy H Q h=>by
 obtain⟨p,l,r,v,i,c,s,e,q⟩:=h;obtain⟨x,f,u,e⟩:=za e;refine⟨p,l,r,x,f,c,s,u,λg H1 k d=>?_⟩;cases x with
 |false=>exact lc ⟨g,l,f,v,i,c.ext k,d,e,λj o w=>q j o (k.trans w)⟩
 |true=>cases e;exact k9 (q _ _ k d)
end
theorem G6(g:DT X a t):DT X (.UnaryOp .Not a pos) (fG t):=kO (Ij g) λp H Q c=>by
 obtain⟨h,n,k,v,i,b,m,e,q⟩:=c;obtain⟨x,l,j,e⟩:=za e;cases e;exact⟨h,n,k,x,_,b,m,j,λf H1 o d=>q _ _ o d⟩
theorem Qm(w:DT X c t)(r:DE X a f)(s:DE X b f'):DE X (.IfExp c a b pos) (uw t f f'):=fw (MC w r s) λE H Q o=>by
 obtain⟨y,p,z,v,k,h,A,e,q⟩:=o;obtain⟨x,g,C,e⟩:=za e;refine⟨y,p,z,x,g,h,A,C,λi H1 l j=>?_⟩;cases x with
 |true=>exact k9 ⟨i,p,g,v,k,h.ext l,j,e,λd n u m=>q d n u (l.trans m)⟩
 |false=>exact lc ⟨i,p,g,v,k,h.ext l,j,e,λd n u m=>q d n u (l.trans m)⟩
def aC:SA:=λ_ a=>.ok [] a
def aB(f:SE) (g:SA):SA:=λc e=>(f c e).bind λx b=>(g c b).bind λd a=>.ok (x::d) a
def aR(g:SA):SE:=λc d=>(g c d).bind λb a=>if b.length<=sizeLine then .ok (.tup b) a else .stuck
def dU(g:SA):SE:=λc d=>(g c d).bind λb a=>if b.length<=sizeLine then .ok (.lst b) a else .stuck
def de(g:SA):SE:=λc d=>(g c d).bind λb a=>if b.length<=sizeLine then .ok (.ref a.length) (a++[.lst b]) else .stuck
theorem GV:DA X [] aC:=vL wH λh H Q b=>by
 obtain⟨f,i,g,v,c,a,d,e,q⟩:=b;cases e;exact q _ _ _ (.refl _ _) d .nil
theorem IX(m:DE X e f)(p:DA X es g)(o:starEach (e::es) X.env=(false,eval e X.env)::starEach es X.env:=by rfl):DA X (e::es) (aB f g):=vL (xT m p o) λJ H Q h=>by
 obtain⟨r,k,t,v,s,a,z,e,q⟩:=h;obtain⟨x,b,G,e⟩:=za e;obtain⟨y,n,I,e⟩:=za e;cases e;refine⟨r,k,t,x,b,a,z,G,λc H1 u l i C=>?_⟩;exact⟨c,k,b,y,_,a.ext l,i,I,λA H2 w j d E=>q _ _ _ (l.trans j) d (.cons (C.ext j) E)⟩
theorem FW{i}(h:DA X es g):DE X (.Tuple es i pos) (aR g):=fw (HY h) λw H Q d=>by
 obtain⟨k,t,n,v,m,a,r,e,q⟩:=d;obtain⟨x,o,s,e⟩:=za e;split at e
 ·rename_i l;cases e;refine⟨k,t,n,x,_,a,r,s,λc H1 u i b j=>⟨by rw[j.length];exact l,λp f=>?_⟩⟩;exact q c _ _ (i.trans (bx.new f _)) (b.new f _) (.newT b f j)
 ·cases e
theorem FP(h:DA X es g):DE X (.List es pos) (dU g):=fw (wJ h) λw H Q d=>by
 obtain⟨j,s,m,v,l,a,o,e,q⟩:=d;obtain⟨x,n,r,e⟩:=za e;split at e
 ·rename_i k;cases e;refine⟨j,s,m,x,_,a,o,r,λc H1 u t b i=>⟨by rw[i.length];exact k,λp f=>?_⟩⟩;exact q c _ _ (t.trans (bx.new f _)) (b.new f _) (.newL b f i)
 ·cases e
theorem At.last{K:Fg}{b:Loc}(h:n=b.m.length):At K ⟨b.m++[some p],b.g⟩ H (.ref n) (.ref p):=by
 subst h;refine .ref (by simp) λa e=>?_
 simp at e;rw[e]
theorem GS(h:DA X es g):DE X (.List es pos) (de g):=fw (wJ h) λy H Q c=>by
 obtain⟨i,s,l,v,k,a,n,e,q⟩:=c;obtain⟨x,m,r,e⟩:=za e;split at e
 ·rename_i j;cases e;refine⟨i,s,l,x,_,a,n,r,λf H1 u w b d=>⟨by rw[d.length];exact j,λp t=>?_⟩⟩;obtain⟨E,R⟩:=b.alloc t (x:=.lst x) (o:=.lst u) λE=>⟨u,zx,d.ext E⟩
  exact q _ _ _ (w.trans E) R (.last b.len.symm)
 ·cases e
def eS(a:aa):D->Option (List D)
 |.lst xs=>some xs
 |.ref n=>match a[n]? with
  |some (.lst xs)=>some xs
  |_=>none
 |_=>none
theorem iO{K:Fg}(c:bY K ρ au H) (a:At K ρ H (.ref n) u)(e:au[n]?=some o)(d:o≠.dead):∃p,u=.ref p/\ρ.m[n]?=some (some p)/\ll K ρ H o p:=by
 cases a with
 |ref h1 h2=>
  obtain⟨p,b⟩:=c.live n o e d;exact⟨p,h2 p b,b,c.obj n p o b e⟩
theorem jZ{K:Fg}(f:bY K ρ au H)(a:At K ρ H d u)(e:eS au d=some xs):∃p vs,u=.ref p/\H p=some (.lst vs)/\ab K ρ H xs vs:=by
 cases d<;>try (cases e;done)
 ·rename_i n;unfold eS at e;dsimp only at e;split at e
  ·rename_i h b;cases e;obtain⟨p,rfl,i,vs,c,g⟩:=iO f a b (by intro z;cases z);exact⟨p,vs,rfl,c,g⟩
  ·cases e
 ·cases e;cases a with
  |lst h1 h2 h3=>exact⟨_,_,rfl,h1,h3⟩
def oI(C:Int->Int->Prop) [DecidableRel C] (h:Int->Int->D) (x y:D) (a:aa):bv D:=match x,y with
 |.int i,.int j=>if C i j then .ok (h i j) a else .stuck
 |_,_=>.stuck
theorem cR{K:Fg} [DecidableRel C] (k:∀i j c H,At K c H (h i j) (g i j)):gU K (oI C h) (rI C g):=λc H m x y u v z d Q f a b e q=>by
 unfold oI at e;split at e
 ·cases a;cases b;split at e
  ·rename_i l;cases e;exact⟨_,_,rfl,rfl,l,q _ _ _ (.refl _ _) f (k _ _ _ _)⟩
  ·cases e
 ·cases e
theorem iW{K:Fg}(k:∀i j c H,At K c H (h i j) (g i j)):gU K (oI (λ_ _=>True) h) (lN g):=λc H l x y u v z d Q n a b e q=>by
 obtain⟨i,j,f,m,_,o⟩:=cR (C:=λ_ _=>True) k c H l x y u v z d Q n a b e q;exact⟨i,j,f,m,o⟩
instance:DecidableRel dX:=λi j=>by unfold dX;infer_instance
instance:DecidableRel ew:=λi j=>by unfold ew;infer_instance
instance:DecidableRel mP:=λi j=>by unfold mP;infer_instance
abbrev cf:=oI (λ_ _=>True) λi j=>.int (i-j)
abbrev gB:=oI ew λi j=>.int (i/j)
abbrev fU:=oI (λ_ j=>0<j) λi j=>.int (i%j)
abbrev mz:=oI (λ_ _=>True) λi j=>.int (Builtin.bitAnd i j)
abbrev P4:=oI mP λi j=>.int (i^j.toNat)
abbrev bC:=oI dX λi j=>.int (i*j)
def aM(x y:D) (c:aa):bv D:=match x,y with
 |.int i,.int j=>.ok (.int (i+j)) c
 |.tup a,.tup b=>if a.length+b.length<=sizeLine then .ok (.tup (a++b)) c else .stuck
 |.str a,.str b=>if a.length+b.length<=sizeLine then .ok (.str (a++b)) c else .stuck
 |x,y=>match eS c x,eS c y with
  |some a,some b=>if a.length+b.length<=sizeLine then .ok (.lst (a++b)) c else .stuck
  |_,_=>.stuck
abbrev p7(K:Fg):R2:=λx y H Q=>lN (λi j=>.int (i+j)) x y H Q\/p6 K x y H Q\/(∃i j,x=.str i/\y=.str j/\i.length+j.length<=sizeLine/\Q (.str (i++j)) H)\/zQ x y H Q
theorem J3:dq X (binaryOp .Add) (p7 X.K):=HH.or (J5.or (UF.or HI))
theorem HC{K:Fg}:gU K aM (p7 K):=λE H G x y u v z n Q c a b e q=>by
 unfold aM at e;split at e
 ·cases a;cases b;cases e;exact .inl ⟨_,_,rfl,rfl,q _ _ _ (.refl _ _) c (.int _)⟩
 ·rename_i s w;split at e
  ·rename_i d;cases e;refine .inr (.inl ?_);cases a with
   |tup g i h3=>
    cases b with
    |tup f h k3=>
     refine⟨_,_,_,_,rfl,rfl,cx.of g,cx.of f,by rw[h3.length,k3.length];exact d,λz=>?_,λr l=>?_,λr l p k=>?_⟩
     ·subst z;cases h3;exact q _ _ _ (.refl _ _) c (.tup f h k3)
     ·subst l;cases k3;rw[jy] at q;exact q _ _ _ (.refl _ _) c (.tup g i h3)
     ·exact q _ _ _ (bx.new k _) (c.new k _) (.newT c k (h3.append k3))
  ·cases e
 ·split at e
  ·rename_i d;cases a;cases b;cases e;exact .inr (.inr (.inl ⟨_,_,rfl,rfl,d,q _ _ _ (.refl _ _) c (.str _)⟩))
  ·cases e
 ·split at e
  ·rename_i g i;split at e
   ·rename_i d;cases e;obtain⟨p,A,rfl,o,m⟩:=jZ c a g;obtain⟨C,I,rfl,f,h⟩:=jZ c b i;exact .inr (.inr (.inr ⟨_,_,_,_,rfl,rfl,o,f,by rw[m.length,h.length];exact d,λt j=>q _ _ _ (bx.new j _) (c.new j _) (.newL c j (m.append h))⟩))
   ·cases e
  ·cases e
abbrev zV:=oI (λ_ _=>True) λi j=>.bl (decide (i<=j))
abbrev lO:=oI (λ_ _=>True) λi j=>.bl (decide (j<i))
abbrev WT:=oI (λ_ _=>True) λi j=>.bl (decide (j<=i))
mutual
noncomputable def d4:D->Option PyData
 |.non=>some .none
 |.bl b=>some (.bool b)
 |.int i=>some (.int i)
 |.str x=>some (.str x)
 |.tup ds=>(cm ds).map .tuple
 |.lst ds=>(cm ds).map .list
 |_=>none
noncomputable def cm:List D->Option (List PyData)
 |[]=>some []
 |d::ds=>(d4 d).bind λx=>(cm ds).map λa=>x::a
end
mutual
theorem xi{K:Fg}{c:Loc}{H:Hp}:∀{d:D}{v:V}{p:PyData},At K c H d v->d4 d=some p->kC K H v p
 |_,_,_,.non,e=>by cases e;exact .non
 |_,_,_,.bl b,e=>by cases e;exact .bl b
 |_,_,_,.int i,e=>by cases e;exact .int i
 |_,_,_,.str x,e=>by cases e;exact .str x
 |_,_,_,.ty n,e=>by cases e
 |_,_,_,.exn _,e=>by cases e
 |_,_,_,.ref _ _,e=>by cases e
 |_,_,_,.tup h _ al,e=>by
  rw[d4] at e;obtain⟨f,a,rfl⟩:=jE.mp e;exact .tup (cx.of h) (BR al a)
 |_,_,_,.lst h _ al,e=>by
  rw[d4] at e;obtain⟨f,a,rfl⟩:=jE.mp e;exact .lst (cV.of h) (BR al a)
 |_,_,_,.scr _ _,e=>by cases e
theorem BR{K:Fg}{c:Loc}{H:Hp}:∀{d:List D}{v:List V}{p:List PyData},ab K c H d v->cm d=some p->jW K H v p
 |_,_,_,.nil,e=>by cases e;exact .nil
 |_,_,_,.cons a b,e=>by
  rw[cm] at e;obtain⟨x,g,e⟩:=rN.mp e;obtain⟨h,f,rfl⟩:=jE.mp e;exact .cons (xi a g) (BR b f)
end
def now(a:aa) (d:D):D:=match eS a d with
 |some xs=>.lst xs
 |none=>d
def dataOf(a:aa) (d:D):Option PyData:=d4 (now a d)
theorem tF{K:Fg}(g:bY K ρ au H) (a:At K ρ H d u)(e:dataOf au d=some p):kC K H u p:=by
 unfold dataOf now at e;split at e
 ·rename_i i f;obtain⟨q,k,rfl,h,b⟩:=jZ g a f;rw[d4] at e;obtain⟨j,c,rfl⟩:=jE.mp e;exact .lst (cV.of h) (BR b c)
 ·exact xi a e
def fC(d:Bool) (x y:D) (c:aa):bv D:=match dataOf c x,dataOf c y with
 |some a,some b=>if PySem.SeqAt.shaped a=true/\PySem.SeqAt.shaped b=true then .ok (.bl (if d then !PyData.eqv a b else PyData.eqv a b)) c else .stuck
 |_,_=>.stuck
theorem lR{K:Fg}:gU K (fC neg) (rZ K neg):=λk H l x y u v z g Q c a b e q=>by
 unfold fC at e;split at e
 ·rename_i i j h f;split at e
  ·rename_i d;cases e;exact⟨_,_,tF c a h,tF c b f,d.1,d.2,q _ _ _ (.refl _ _) c (.bl _)⟩
  ·cases e
 ·cases e
abbrev jL:=fC false
abbrev DL:=fC true
def oS(a:Bool) (x y:D) (b:aa):bv D:=match x,y with
 |.ref _,_=>.stuck
 |.non,.non=>.ok (.bl (!a)) b
 |_,.non=>.ok (.bl a) b
 |_,_=>.stuck
theorem JY{K:Fg}:gU K (oS true) (λx y H Q=>y=.non/\Q (.bl (!decide (x=.non))) H):=λh H i x y u v z f Q c a b e q=>by
 unfold oS at e;split at e<;>try (cases e;done)
 ·cases a;cases b;cases e
  exact⟨rfl,q _ _ _ (.refl _ _) c (by simp;exact .bl _)⟩
 ·rename_i g d;cases b;cases e
  refine⟨rfl,q _ _ _ (.refl _ _) c ?_⟩;have:u≠.non:=by
   rintro rfl;cases a<;>first|exact d rfl|exact g _ rfl
  rw[cI this];exact .bl _
noncomputable def bN:List D->Option (List Int)
 |[]=>some []
 |.int i::r=>(bN r).map (i::·)
 |_::_=>none
theorem qw{K:Fg}:∀{f:List D}{g:List V}{c:List Int},ab K ρ H f g->bN f=some c->g=c.map V.int
 |_,_,_,.nil,e=>by cases e;rfl
 |_,_,_,.cons (d:=d) a b,e=>by
  cases d<;>try (cases e;done)
  rw[bN] at e;obtain⟨i,h,rfl⟩:=jE.mp e;cases a;rw[qw b h]
  rfl
def fB(x y:D) (c:aa):bv D:=match x,y with
 |.int i,.int j=>.ok (.bl (decide (i<j))) c
 |.tup a,.tup b=>match bN a,bN b with
  |some ns,some ms=>.ok (.bl (HT.lexLt ns ms)) c
  |_,_=>.stuck
 |_,_=>.stuck
abbrev zK(K:Fg):R2:=λx y H Q=>lN (λi j=>.bl (decide (i<j))) x y H Q\/zJ K x y H Q
theorem qh{X:Cx}(a:X.A.units<cLine):dq X (compareOp .Lt) (zK X.K):=Gf.or (HK a)
theorem qg{K:Fg}:gU K fB (zK K):=λj H k x y u v z g Q c a b e q=>by
 unfold fB at e;split at e
 ·cases a;cases b;cases e
  exact .inl ⟨_,_,rfl,rfl,q _ _ _ (.refl _ _) c (.bl _)⟩
 ·split at e
  ·rename_i i d;cases e;cases a with
   |tup g1 g2 g3=>
    cases b with
    |tup k1 k2 k3=>
     have f:=qw g3 i;have h:=qw k3 d;subst f h;exact .inr ⟨_,_,_,_,rfl,rfl,cx.of g1,cx.of k1,q _ _ _ (.refl _ _) c (.bl _)⟩
  ·cases e
 ·cases e
def cP(a:aa):D->Option (List D)
 |.tup xs=>some xs
 |.scr xs=>some xs
 |d=>eS a d
theorem B1{K:Fg}(f:bY K ρ au H) (a:At K ρ H d u)(e:cP au d=some xs):
  ∃p vs,u=.ref p/\(cV K H p vs\/cx K H p vs)/\ab K ρ H xs vs:=by
 unfold cP at e;split at e
 ·cases e;cases a with
  |tup b c h3=>exact⟨_,_,rfl,.inr (cx.of b),h3⟩
 ·cases e;cases a with
  |scr b h3=>exact⟨_,_,rfl,.inl b.sq,h3⟩
 ·obtain⟨p,vs,rfl,b,c⟩:=jZ f a e;exact⟨p,vs,rfl,.inl (cV.of b),c⟩
theorem ab.atI{K:Fg}(h:ab K ρ H ds vs)(e:L2.atI ds i=some d):∃v,L2.atI vs i=some v/\At K ρ H d v:=by
 unfold L2.atI at e ⊢;rw[h.length];cases hi:ko ds.length i with
 |none=>rw[hi] at e;cases e
 |some j=>
  rw[hi] at e;obtain⟨v,b,a⟩:=h.get (i:=j) e;exact⟨v,b,a⟩
def cF(x y:D) (a:aa):bv D:=match cP a x,y with
 |some xs,.int i=>match L2.atI xs i with
  |some v=>.ok v a
  |none=>.stuck
 |_,_=>.stuck
theorem Gb{K:Fg}:gU K cF (T5 K):=λk H m x y u v z h Q c a b e q=>by
 unfold cF at e;split at e
 ·rename_i i;split at e
  ·rename_i w g;cases e;cases b;obtain⟨p,n,rfl,h2,j⟩:=B1 c a i;obtain⟨l,f,d⟩:=j.atI g;rcases h2 with h2|h2
   ·exact .inl ⟨_,_,_,_,rfl,rfl,h2,f,q _ _ _ (.refl _ _) c d⟩
   ·exact .inr (.inl ⟨_,_,_,_,rfl,rfl,h2,f,q _ _ _ (.refl _ _) c d⟩)
  ·cases e
 ·cases e
def cutD(a:List D) (lo b:Option Int):List D:=(a.drop (HT.bW a.length 0 lo)).take (HT.bW a.length a.length b-HT.bW a.length 0 lo)
theorem ab.cut{K:Fg}(h:ab K ρ H ds vs)(lo a:Option Int):ab K ρ H (cutD ds lo a) (gH vs lo a):=by
 unfold cutD gH;rw[h.length];exact(h.drop _).take _
def dv:DS->aa->bv (Option Int):=λ_ a=>.ok none a
def dr(f:SE):DS->aa->bv (Option Int):=λb c=>(f b c).bind λv a=>match v with
 |.int i=>.ok (some i) a
 |_=>.stuck
def kt(f:SE) (lo e:DS->aa->bv (Option Int)):SE:=λd g=>(f d g).bind λx c=>(lo d c).bind λl b=>(e d b).bind λh a=>match x with
 |.tup xs=>.ok (.tup (cutD xs l h)) a
 |x=>match eS a x with
  |some xs=>.ok (.lst (cutD xs l h)) a
  |none=>.stuck
def WO(K:Fg) (f:DS->aa->bv (Option Int)):TO:=λh H Q=>∃d g e v b,cY K d H g h/\bY K d e H/\f g e=.ok v b/\∀a c,bx d H a c->bY K a b c->Q v c
abbrev DO(X:Cx) (e:Option Expr) (f:DS->aa->bv (Option Int)):Prop:=PO X e (WO X.K f)
theorem vN(h:PO X e t)(k:∀a H Q,t' a H Q->t a H Q):PO X e t':=λb s a H Q I q=>h b s a H Q I (k _ _ _ q)
theorem Jd:DO X none dv:=vN Km λh H Q b=>by
 obtain⟨f,i,g,v,c,a,d,e,q⟩:=b;cases e;exact q _ _ (.refl _ _) d
theorem Je(i:DE X e f):DO X (some e) (dr f):=vN (Kn i) λr H Q b=>by
 obtain⟨k,o,m,v,j,a,n,e,q⟩:=b;obtain⟨x,d,l,e⟩:=za e;refine⟨k,o,m,x,d,a,n,l,λg H1 u p c h=>?_⟩;cases x<;>try (cases e;done)
 cases e;cases h;exact⟨_,rfl,q _ _ p c⟩
theorem Ql(d:DE X a f)(c:DE X b f')(e:iK b):DE X (.Subscript a b pos) (aS cF f f'):=fw (Gi Hj d c e) (nP Gb)
section
variable {X:Cx}{a:Expr}{e:Expr}{f:SE}{pos:Pos}{lo:Option Expr}{hi:Option Expr}{l:DS->aa->bv (Option Int)}{h:DS->aa->bv (Option Int)}
theorem Qj{U:Pos}(he:DE X e f)(G:DO X lo l)(J:DO X hi h):DE X (.Subscript e (.Slice lo hi none U) pos) (kt f l h):=fw (MD (KB.or KA) he G J) λτ H Q n=>by
 obtain⟨Y,r,au,v,a0,a,rp,e,q⟩:=n;obtain⟨x,g,e1,e⟩:=za e;obtain⟨y,d,e2,e⟩:=za e;obtain⟨z,w,P,e⟩:=za e;refine⟨Y,r,au,x,g,a,rp,e1,λi H1 u t o a1=>?_⟩;refine⟨i,r,g,y,d,a.ext t,o,e2,λs H2 k j=>?_⟩;refine⟨s,r,d,z,w,a.ext (t.trans k),j,P,λS H3 A b=>?_⟩;have C:=a1.ext (k.trans A);have m:=t.trans (k.trans A);split at e
 ·cases e;refine .inl ?_;cases C with
  |tup h1 h2 h3=>
   refine⟨_,_,rfl,cx.of h1,λI=>?_,λp c=>?_⟩
   ·refine q _ _ _ m b (.tup h1 h2 ?_);have:=h3.cut y z;rw[I] at this;exact this
   ·exact q _ _ _ (m.trans (bx.new c _)) (b.new c _) (.newT b c (h3.cut y z))
 ·split at e
  ·rename_i xs E;cases e;obtain⟨p,vs,rfl,g1,g2⟩:=jZ b C E;exact .inr ⟨_,_,rfl,cV.of g1,λp c=>q _ _ _ (m.trans (bx.new c _)) (b.new c _) (.newL b c (g2.cut y z))⟩
  ·cases e
end
end Dd
namespace Dd
open L2
def aE(g:List D->aa->bv D) (f:SA):SE:=λb d=>(f b d).bind λc a=>g c a
def ji(K:Fg) (g:List D->aa->bv D) (r:List V->Hp->VK->Prop):Prop:=
 ∀d H h f e z b (Q:VK),bY K d h H->ab K d H f e->g f h=.ok z b->(∀a c w,bx d H a c->bY K a b c->At K a c z w->Q w c)->r e H Q
theorem qC{K:Fg}(l:ji K g r):∀k H Q,tD K (aE g f) k H Q->PY r (PX K f) k H Q:=λk H Q d=>by
 obtain⟨o,y,p,v,i,a,s,e,q⟩:=d;obtain⟨x,b,t,e⟩:=za e;exact⟨o,y,p,x,b,a,s,t,λc H1 u z h n=>l c H1 b x u v i Q h n e λj m w A=>q j m w (z.trans A)⟩
theorem IS{x:Str}{id:String}(m:bE X (.builtin id) r)(h:ji X.K g r)(k:Gl X x)(l:X.mg x=none)(i:bootBuiltins x=some (.builtin id))(c:DA X (e::es) f)(d:x≠"__name__":=by decide)(b:(x==("__debug__" : Str))=false:=by decide)
 (j:starEach (e::es) X.env=(false,eval e X.env)::starEach es X.env:=by rfl)(a:(backTo pos (starEach es X.env)).any (·.1)=false:=by rfl):DE X (.Call (.Name x p) (e::es) [] pos) (aE g f):=fw (Rj m k l i c d b j a) (qC h)
theorem Lc{T:String}(m:bE X (.type T) r)(h:ji X.K g r)(k:Gl X x)(l:X.mg x=none)(i:bootBuiltins x=some (.type T))(c:DA X (e::es) f)(d:x≠"__name__":=by decide)(b:(x==("__debug__" : Str))=false:=by decide)
 (j:starEach (e::es) X.env=(false,eval e X.env)::starEach es X.env:=by rfl)(a:(backTo pos (starEach es X.env)).any (·.1)=false:=by rfl):DE X (.Call (.Name x p) (e::es) [] pos) (aE g f):=fw (R5 m k l i c d b j a) (qC h)
theorem ab.one{K:Fg}(h:ab K ρ H [d] us):∃u,us=[u]/\At K ρ H d u:=by
 cases h with
 |cons a b=>cases b;exact⟨_,rfl,a⟩
theorem ab.two{K:Fg}(h:ab K ρ H [d,e] us):∃u v,us=[u,v]/\At K ρ H d u/\At K ρ H e v:=by
 cases h with
 |cons a b=>
  obtain⟨v,rfl,c⟩:=b.one;exact⟨_,_,rfl,a,c⟩
def cu:List D->aa->bv D:=λb a=>match b with
 |[x]=>match cP a x with
  |some ys=>.ok (.int ys.length) a
  |none=>.stuck
 |_=>.stuck
theorem ls{K:Fg}:ji K cu (λc H Q=>∃p b,c=[.ref p]/\(cV K H p b\/cx K H p b)/\Q (.int b.length) H):=λm H n c l z i Q d f e q=>by
 unfold cu at e;split at e
 ·split at e
  ·rename_i h;cases e;obtain⟨u,rfl,a⟩:=f.one;obtain⟨p,k,rfl,j,g⟩:=B1 d a h;refine⟨p,k,rfl,j,?_⟩;rw[g.length];exact q _ _ _ (.refl _ _) d (.int _)
  ·cases e
 ·cases e
def lj:List D->aa->bv D:=λa b=>match a with
 |[.int i]=>.ok (.int (if i<0 then -i else i)) b
 |_=>.stuck
theorem Gy{K:Fg}:ji K lj (λb H Q=>∃i,b=[.int i]/\Q (.int (if i<0 then -i else i)) H):=λh H j b g z d Q f c e q=>by
 unfold lj at e;split at e
 ·cases e;obtain⟨u,rfl,a⟩:=c.one;cases a;exact⟨_,rfl,q _ _ _ (.refl _ _) f (.int _)⟩
 ·cases e
def ux(g:Int->Int->Int):List D->aa->bv D:=λa b=>match a with
 |[.int i,.int j]=>.ok (.int (g i j)) b
 |_=>.stuck
theorem js{K:Fg}:ji K (ux g) (λc H Q=>∃i j,c=[.int i,.int j]/\Q (.int (g i j)) H):=λl H m c k z f Q h d e q=>by
 unfold ux at e;split at e
 ·cases e;obtain⟨u,v,rfl,a,b⟩:=d.two;cases a;cases b;exact⟨_,_,rfl,q _ _ _ (.refl _ _) h (.int _)⟩
 ·cases e
abbrev ge:=ux λi j=>if j<i then j else i
abbrev AT:=ux λi j=>if j > i then j else i
def gp:List D->aa->bv D:=λb a=>match b with
 |[x]=>match (cP a x).bind bN with
  |some ns=>.ok (.int ns.sum) a
  |none=>.stuck
 |_=>.stuck
theorem nU{K:Fg}:ji K gp (zF K):=λn H o m k z i Q b d e q=>by
 unfold gp at e;split at e
 ·split at e
  ·rename_i c h;cases e;obtain⟨l,g,h⟩:=rN.mp h;obtain⟨u,rfl,a⟩:=d.one;obtain⟨p,r,rfl,j,f⟩:=B1 b a g;have e:=qw f h;subst e;exact⟨p,c,rfl,j,q _ _ _ (.refl _ _) b (.int _)⟩
  ·cases e
 ·cases e
noncomputable def cN:List D->Option (List Bool)
 |[]=>some []
 |.bl i::r=>(cN r).map (i::·)
 |_::_=>none
theorem Su{K:Fg}:∀{f:List D}{g:List V}{c:List Bool},ab K ρ H f g->cN f=some c->g=c.map V.bl
 |_,_,_,.nil,e=>by cases e;rfl
 |_,_,_,.cons (d:=d) a b,e=>by
  cases d<;>try (cases e;done)
  rw[cN] at e;obtain⟨i,h,rfl⟩:=jE.mp e;cases a;rw[Su b h]
  rfl
def iI(c:Bool):List D->aa->bv D:=λb a=>match b with
 |[x]=>match (eS a x).bind cN with
  |some bs=>.ok (.bl (if c then bs.all id else bs.any id)) a
  |none=>.stuck
 |_=>.stuck
theorem vY{K:Fg}:ji K (iI al) (zR K al):=λn H o m k z i Q b d e q=>by
 unfold iI at e;split at e
 ·split at e
  ·rename_i c h;cases e;obtain⟨l,g,h⟩:=rN.mp h;obtain⟨u,rfl,a⟩:=d.one;obtain⟨p,r,rfl,j,f⟩:=jZ b a g;have e:=Su f h;subst e;exact⟨p,c,rfl,cV.of j,q _ _ _ (.refl _ _) b (.bl _)⟩
  ·cases e
 ·cases e
def jF(a:aa):D->Option String
 |.non=>some "NoneType"
 |.bl _=>some "bool"
 |.int _=>some "int"
 |.str _=>some "str"
 |.tup _=>some "tuple"
 |.lst _=>some "list"
 |.ref n=>match a[n]? with
  |some (.lst _)=>some "list"
  |some (.dT _)=>some "dict"
  |_=>none
 |_=>none
noncomputable def AH(t T:String):Bool:=t==T||(t=="bool"&&T=="int")
def eO:List D->aa->bv D:=λb a=>match b with
 |[x,.ty T]=>match jF a x with
  |some t=>if["int","bool","str","tuple","list","dict"].contains T=true then .ok (.bl (AH t T)) a else .stuck
  |none=>.stuck
 |_=>.stuck
theorem Oz{K:Fg}(c:bY K ρ au H) (a:At K ρ H d u)(e:jF au d=some t):fk K H u (.type t)/\t∈["NoneType","bool","int","str","tuple","list","dict"]:=by
 cases d<;>try (cases e;done)
 ·cases e;cases a;exact⟨.non,by simp⟩
 ·cases e;cases a;exact⟨.bl _,by simp⟩
 ·cases e;cases a;exact⟨.int _,by simp⟩
 ·cases e;cases a;exact⟨.str _,by simp⟩
 ·unfold jF at e;dsimp only at e;split at e
  ·rename_i h;cases e;obtain⟨p,rfl,f,i,b,g⟩:=iO c a h (by intro z;cases z);exact⟨.lst b,by simp⟩
  ·rename_i h;cases e;obtain⟨p,rfl,f,i,b,g⟩:=iO c a h (by intro z;cases z);exact⟨.dT b,by simp⟩
  ·cases e
 ·cases e;cases a with
  |tup h1 h2 h3=>exact⟨.tup h1,by simp⟩
 ·cases e;cases a with
  |lst h1 h2 h3=>exact⟨.lst h1,by simp⟩
theorem Hr{K:Fg}{T:String}(b:t∈["NoneType","bool","int","str","tuple","list","dict"])(a:T∈["int","bool","str","tuple","list","dict"]):W.kitOne K (.type t) (.type T)=some (AH t T):=by
 simp only[bZ,OU,or_false] at b a;rcases b with rfl|rfl|rfl|rfl|rfl|rfl|rfl<;>rcases a with rfl|rfl|rfl|rfl|rfl|rfl<;>rfl
theorem vh{K:Fg}:ji K eO (λc H Q=>∃x T t b,c=[x,.ty T]/\fk K H x t/\W.kitOne K t (.type T)=some b/\Q (.bl b) H):=λm H n c l z i Q d f e q=>by
 unfold eO at e;split at e
 ·split at e
  ·rename_i h;split at e
   ·rename_i j;cases e;obtain⟨u,v,rfl,a,b⟩:=f.two;cases b;obtain⟨k,g⟩:=Oz d a h;exact⟨_,_,_,_,rfl,k,Hr g (by simpa using j),q _ _ _ (.refl _ _) d (.bl _)⟩
   ·cases e
  ·cases e
 ·cases e
def bJ:List D->aa->bv D:=λb a=>match b with
 |[.tup ys]=>.ok (.tup ys) a
 |[x]=>match eS a x with
  |some ys=>.ok (.tup ys) a
  |none=>.stuck
 |_=>.stuck
theorem qr{K:Fg}:ji K bJ (λj H Q=>∃p f,j=[.ref p]/\((cV K H p f/\∀l,H l=none->Q (.ref l) (aZ H l (.tup f)))\/(cx K H p f/\Q (.ref p) H))):=λn H o j m z k Q b i e q=>by
 unfold bJ at e;split at e
 ·cases e;obtain⟨u,rfl,a⟩:=i.one;cases a with
  |tup c d h3=>exact⟨_,_,rfl,.inr ⟨cx.of c,q _ _ _ (.refl _ _) b (.tup c d h3)⟩⟩
 ·split at e
  ·rename_i h;cases e;obtain⟨u,rfl,a⟩:=i.one;obtain⟨p,r,rfl,c,d⟩:=jZ b a h;exact⟨_,_,rfl,.inl ⟨cV.of c,λl g=>q _ _ _ (bx.new g _) (b.new g _) (.newT b g d)⟩⟩
  ·cases e
 ·cases e
def eJ:List D->aa->bv D:=λb a=>match b with
 |[x]=>match cP a x with
  |some ys=>.ok (.lst ys) a
  |none=>.stuck
 |_=>.stuck
theorem DY{K:Fg}:ji K eJ (λf H Q=>∃p b,f=[.ref p]/\(cV K H p b\/cx K H p b)/\∀l,H l=none->Q (.ref l) (aZ H l (.lst b))):=λn H o f m z j Q d g e q=>by
 unfold eJ at e;split at e
 ·split at e
  ·rename_i h;cases e;obtain⟨u,rfl,a⟩:=g.one;obtain⟨p,r,rfl,k,i⟩:=B1 d a h;exact⟨_,_,rfl,k,λl c=>q _ _ _ (bx.new c _) (d.new c _) (.newL d c i)⟩
  ·cases e
 ·cases e
noncomputable abbrev aL(a:List Int):D:=.tup (a.map .int)
abbrev aJ(l:List (List Int)):List D:=l.map aL
def lf(a:List Int):List (List Int)->List (List Int)
 |[]=>[a]
 |b::r=>if HT.lexLt b a=true then b::lf a r else a::b::r
def av:List (List Int)->List (List Int)
 |[]=>[]
 |a::r=>lf a (av r)
abbrev o3(l:List (List Int)):Prop:=l.Pairwise λa b=>HT.lexLt b a=false
theorem EW(a:List Int):∀l,(lf a l).Perm (a::l)
 |[]=>.refl _
 |b::r=>by
  unfold lf;split
  ·exact(List.Perm.cons b (EW a r)).trans (.swap a b r)
  ·exact .refl _
theorem zp:∀l,(av l).Perm l
 |[]=>.refl _
 |a::r=>(EW a _).trans (.cons a (zp r))
theorem Vs(e:HT.lexLt b a=false)(d:HT.lexLt c b=false):HT.lexLt c a=false:=by
 cases h:HT.lexLt c a with
 |false=>rfl
 |true=>
  rcases Srt.uN a b with z|z|z
  ·have:=Srt.Cb h z;rw[d] at this;cases this
  ·subst z;rw[d] at h;cases h
  ·rw[e] at z;cases z
theorem xz(a:List Int):∀l,o3 l->o3 (lf a l)
 |[],_=>Pv _ _
 |b::r,h=>by
  obtain⟨d,f⟩:=rF.mp h;unfold lf;split
  ·rename_i c;refine rF.mpr ⟨λx hx=>?_,xz a r f⟩;rcases bZ.mp ((EW a r).mem_iff.mp hx) with rfl|hx
   ·exact Srt.RX c
   ·exact d x hx
  ·rename_i c;have e:HT.lexLt b a=false:=by simpa using c
   refine rF.mpr ⟨λx hx=>?_,h⟩;rcases bZ.mp hx with rfl|hx
   ·exact e
   ·exact Vs e (d x hx)
theorem vc:∀l,o3 (av l)
 |[]=>.nil
 |a::r=>xz a _ (vc r)
theorem So:∀{l m:List (List Int)},l.Perm m->o3 l->o3 m->l=m
 |[],m,p,_,_=>by rw[List.nil_perm.mp p]
 |a::l,[],p,_,_=>by cases List.perm_nil.mp p
 |a::l,b::m,p,h1,h2=>by
  obtain⟨c,d⟩:=rF.mp h1;obtain⟨h,i⟩:=rF.mp h2;have e:a=b:=by
   rcases bZ.mp (p.mem_iff.mp dk) with z|z
   ·exact z
   ·rcases bZ.mp (p.mem_iff.mpr (dk (a:=b) (l:=m))) with y|y
    ·exact y.symm
    ·have f:=h a z;have g:=c b y;rcases Srt.uN a b with w|w|w
     ·rw[f] at w;cases w
     ·exact w
     ·rw[g] at w;cases w
  subst e;rw[So (List.Perm.cons_inv p) d i]
theorem B2{m:List (List Int)}(p:m.Perm l)(h:o3 m):m=av l:=So (p.trans (zp l).symm) h (vc l)
theorem vA(l:List (List Int)):(av l).length=l.length:=(zp l).length_eq
def fX:List D->Option (List (List Int))
 |[]=>some []
 |.tup ds::r=>(bN ds).bind λa=>(fX r).map (a::·)
 |_::_=>none
theorem RB{K:Fg}:∀{f:List D}{g:List V}{l:List (List Int)},ab K ρ H f g->fX f=some l ->
  ∃c:List (Addr×List Int),g=c.map (λp=>V.ref p.1)/\c.map (·.2)=l/\∀p∈c,H p.1=some (.tup (p.2.map V.int))/\dZ ρ p.1
 |_,_,_,.nil,e=>by cases e;exact⟨[],rfl,rfl,λ_ h=>nomatch h⟩
 |_,_,_,.cons (d:=d) a b,e=>by
  cases d<;>try (cases e;done)
  rw[fX] at e;obtain⟨j,n,e⟩:=rN.mp e;obtain⟨l,o,rfl⟩:=jE.mp e;obtain⟨c,q,m,i⟩:=RB b o;cases a with
  |tup g1 g2 g3=>
   rename_i ad r;have k:=qw g3 n;subst k;refine⟨(ad,j)::c,by rw[q];rfl,by rw[←m];rfl,λp hp=>?_⟩;rcases bZ.mp hp with rfl|hp
   ·exact⟨g1,g2⟩
   ·exact i p hp
theorem u8{K:Fg}:∀a:List Int,ab K ρ H (a.map .int) (a.map V.int)
 |[]=>.nil
 |n::a=>.cons (.int n) (u8 a)
theorem EM{K:Fg}:∀a:List (Addr×List Int),(∀p∈a,H p.1=some (.tup (p.2.map V.int))/\dZ ρ p.1)->ab K ρ H (aJ (a.map (·.2))) (a.map λp=>V.ref p.1)
 |[],_=>.nil
 |p::a,h=>.cons (.tup (h p dk).1 (h p dk).2 (u8 _)) (EM a λq b=>h q (bT _ b))
theorem RZ{K:Fg}(r:bY K ρ au H) (b:H p=some (.tup vs)):dZ ρ p:=by
 refine⟨λz=>?_,λz=>?_⟩
 ·obtain⟨i,d,e⟩:=nh z;obtain⟨x,_,q⟩:=r.has (n:=i) (a:=p) (by rw[bS d,e]);cases x with
  |lst xs=>obtain⟨_,e,_⟩:=q;rw[b] at e;cases e
  |dT kvs=>obtain⟨_,e,_⟩:=q;rw[b] at e;cases e
  |fT kvs=>obtain⟨_,_,e,_⟩:=q;rw[b] at e;cases e
  |dI kvs=>obtain⟨_,e,_⟩:=q;rw[b] at e;cases e
  |dP ks=>obtain⟨_,e,_⟩:=q;rw[b] at e;cases e
  |dead=>exact q
  |tab=>obtain⟨_,_,e,_⟩:=q;rw[b] at e;cases e
 ·obtain⟨⟨u,c⟩,_⟩:=r.gh p z;rw[b] at c;cases c
noncomputable def cO(a:List (List Int×D)) (k:List Int):Option D:=(a.find? λb=>decide (b.1=k)).map (·.2)
noncomputable def iA(a:List (List Int×D)) (k:List Int) (v:D):List (List Int×D):=
 if(a.any λb=>decide (b.1=k))=true then a.map (λb=>if b.1=k then(b.1,v) else b) else a++[(k,v)]
noncomputable def ig(a:List (List Int×D)) (k:List Int):List (List Int×D):=a.filter λb=>decide (b.1≠k)
theorem BD{a b:List Int}:a.map (Sum.inl:Int->cy)=b.map Sum.inl↔a=b:=by
 constructor
 ·intro h;exact(List.map_inj_right (f:=(Sum.inl:Int->cy)) λx y e=>Sum.inl.inj e).mp h
 ·rintro rfl;rfl
theorem dJ.val{K:Fg}(h:dJ K ρ H kvs vs)(k:List Int):match cO kvs k with
  |some d=>∃v,ck vs (k.map Sum.inl)=some v/\At K ρ H d v
  |none=>ck vs (k.map Sum.inl)=none:=by
 induction h with
 |nil=>rfl
 |@cons p q ps qs h t ih=>
  obtain⟨b,f⟩:=h;by_cases e:p.1=k
  ·have a:cO (p::ps) k=some p.2:=by simp[cO,lF,e]
   rw[a];exact⟨q.2,vf (by rw[b,e]),f⟩
  ·have a:cO (p::ps) k=cO ps k:=by simp[cO,lF,e]
   have c:ck (q::qs) (k.map Sum.inl)=ck qs (k.map Sum.inl):=ve (by rw[b,BD];exact e);rw[a,c];exact ih
theorem dJ.keys{K:Fg}(h:dJ K ρ H kvs vs):vs.map (·.1)=(kvs.map (·.1)).map λa=>a.map Sum.inl:=by
 induction h with
 |nil=>rfl
 |@cons p q ps qs h t ih=>rw[ce,ce,ce,ih,h.1]
theorem dJ.put{K:Fg}(h:dJ K ρ H b c)(k:List Int) (a:At K ρ H d v):dJ K ρ H (iA b k d) (ec c (k.map Sum.inl) v):=by
 have f:∀{b:List (List Int×D)}{c:List (List cy×V)},dJ K ρ H b c->(b.any λi=>decide (i.1=k))=(c.any λi=>decide (i.1=k.map Sum.inl)):=λh=>by
  induction h with
  |nil=>rfl
  |@cons p q ps qs h t ih=>
   rw[rq,rq,ih,h.1]
   congr 1
   simp only[BD]
 unfold iA ec;rw[f h];split
 ·rename_i m;clear m f
  induction h with
  |nil=>exact .nil
  |@cons p q ps qs h t ih=>
   refine .cons ?_ ih;obtain⟨g,l⟩:=h;dsimp only;by_cases e:p.1=k
   ·rw[if_pos e,if_pos (by rw[g,e])];exact⟨g,a⟩
   ·rw[if_neg e,if_neg (by rw[g,BD];exact e)];exact⟨g,l⟩
 ·have j:∀{b:List (List Int×D)}{c:List (List cy×V)},dJ K ρ H b c->dJ K ρ H (b++[(k,d)]) (c++[(k.map Sum.inl,v)]):=λh=>by
   induction h with
   |nil=>exact .cons ⟨rfl,a⟩ .nil
   |cons h t ih=>exact .cons h ih
  exact j h
theorem dJ.drop{K:Fg}(h:dJ K ρ H kvs vs)(k:List Int):dJ K ρ H (ig kvs k) (df vs (k.map Sum.inl)):=by
 unfold ig df
 induction h with
 |nil=>exact .nil
 |@cons p q ps qs h t ih=>
  by_cases e:p.1=k
  ·rw[g9 (by simp[e]),g9 (by simp[h.1,e])];exact ih
  ·rw[gS (by simp[e]),gS (by simp[h.1,BD,e])];exact .cons h ih
theorem dJ.length{K:Fg}(h:dJ K ρ H kvs vs):kvs.length=vs.length:=rx h
def pairsOf(a:aa):D->Option (List (List Int×D))
 |.ref n=>match a[n]? with
  |some (.dT kvs)=>some kvs
  |some (.fT kvs)=>some kvs
  |_=>none
 |_=>none
theorem EJ{K:Fg}(f:bY K ρ au H) (a:At K ρ H d u)(e:pairsOf au d=some kvs):∃p vs,u=.ref p/\Rd H p (.dT vs)/\dJ K ρ H kvs vs:=by
 unfold pairsOf at e;split at e
 ·split at e
  ·rename_i h;cases e;obtain⟨p,rfl,i,vs,b,c⟩:=iO f a h (by intro z;cases z);exact⟨p,vs,rfl,.inl b,c⟩
  ·rename_i h;cases e;obtain⟨p,rfl,i,vs,g,b,c⟩:=iO f a h (by intro z;cases z);exact⟨p,vs,rfl,.inr ⟨g,b⟩,c⟩
  ·cases e
 ·cases e
def et:D->Option (List Int)
 |.tup ds=>bN ds
 |_=>none
theorem qT{K:Fg}(a:At K ρ H d u)(e:et d=some k):∃p,u=.ref p/\H p=some (.tup ((k.map (Sum.inl:Int->cy)).map kV)):=by
 unfold et at e;split at e
 ·cases a with
  |tup h1 h2 h3=>
   have:=qw h3 e;subst this;exact⟨_,rfl,by rw[xB];exact h1⟩
 ·cases e
theorem D4{K:Fg}(h:bY K ρ au H) (a:At K ρ H d u)(b:At K ρ H y w)(e:pairsOf au d=some kvs)(g:et y=some k):
  ∃p o,u=.ref p/\jh H p w o/\match cO kvs k with
   |some z=>∃v,o=some v/\At K ρ H z v
   |none=>o=none:=by
 obtain⟨p,c,rfl,i,f⟩:=EJ h a e;obtain⟨q,rfl,j⟩:=qT b g;refine⟨p,ck c (k.map Sum.inl),rfl,.inr ⟨c,_,q,i,rfl,j,rfl⟩,?_⟩;have:=f.val k;cases hv:cO kvs k with
 |none=>rw[hv] at this;exact this
 |some z=>rw[hv] at this;exact this
def iB(a:Bool) (y x:D) (b:aa):bv D:=match et y,pairsOf b x with
 |some k,some kvs=>.ok (.bl (if a then !(cO kvs k).isSome else(cO kvs k).isSome)) b
 |_,_=>.stuck
def eW(x y:D) (a:aa):bv D:=match pairsOf a x,et y with
 |some kvs,some k=>match cO kvs k with
  |some v=>.ok v a
  |none=>.stuck
 |_,_=>.stuck
def iG(f g h:SE):SE:=λd e=>(f d e).bind λx a=>match pairsOf a x with
 |some _=>(g d a).bind λy c=>(h d c).bind λz b=>match pairsOf b x,et y with
  |some kvs,some k=>.ok ((cO kvs k).getD z) b
  |_,_=>.stuck
 |none=>.stuck
def kx(f g:SE):SE:=λc d=>(f c d).bind λx b=>match pairsOf b x with
 |some _=>(g c b).bind λy a=>match x,et y with
  |.ref n,some k=>match a[n]? with
   |some (.dT kvs)=>match cO kvs k with
    |some v=>.ok v (a.set n (.dT (ig kvs k)))
    |none=>.stuck
   |_=>.stuck
  |_,_=>.stuck
 |none=>.stuck
def f6(f g h:SE):SS:=λb e=>(h b e).bind λv d=>(f b d).bind λx c=>(g b c).bind λy a=>match x,et y with
 |.ref n,some k=>match a[n]? with
  |some (.dT kvs)=>if kvs.length<sizeLine then .ok (.nx b) (a.set n (.dT (iA kvs k v))) else .stuck
  |_=>.stuck
 |_,_=>.stuck
def eX:SE:=λ_ a=>.ok (.ref a.length) (a++[.dT []])
theorem wt{K:Fg}(c:bY K ρ au H) (a:At K ρ H d u)(e:pairsOf au d=some kvs):∃p,u=.ref p/\DU H p:=by
 obtain⟨p,f,rfl,b,_⟩:=EJ c a e;exact⟨p,rfl,.inr ⟨f,b⟩⟩
theorem GP:DE X (.Dict [] [] pos) eX:=fw MA λi H Q b p f=>by
 obtain⟨g,j,h,v,d,a,c,e,q⟩:=b;cases e;obtain⟨E,R⟩:=c.alloc f (x:=.dT []) (o:=.dT []) λE=>⟨[],zx,.nil⟩
 exact q _ _ _ E R (.last c.len.symm)
theorem Gg{X:Cx}(A:X.A.units+1<cLine)(z:DE X i g)(C:DE X o f):PC X .In i o (tD X.K (aS (iB false) g f)):=λG s σ H Q I S=>by
 refine HQ A z C G s σ H Q I ?_;obtain⟨J,c,U,v,P,a,Y,e,q⟩:=S;obtain⟨x,d,e1,e⟩:=za e;obtain⟨y,j,e2,e⟩:=za e;refine⟨J,c,U,x,d,a,Y,e1,λh H1 u r l a1=>?_⟩;refine⟨h,c,d,y,j,a.ext r,l,e2,λa0 H2 w n b a2=>?_⟩;unfold iB at e;split at e
 ·rename_i kk E h1 t;cases e;obtain⟨p,m,rfl,g1,g2⟩:=D4 b a2 (a1.ext n) t h1;refine⟨p,m,rfl,g1,?_⟩;have:m.isSome=(cO E kk).isSome:=by
   revert g2;split
   ·rename_i k;rintro⟨v,rfl,_⟩;rw[k];rfl
   ·rename_i k;rintro rfl;rw[k];rfl
  rw[this];exact q _ _ _ (r.trans n) b (.bl _)
 ·cases e
theorem sj(h:PC X op a b (tD X.K t))(c:behindInMarks op b=false:=by first|exact nobehind _ (by decide) (by decide)|rfl):DE X (.Compare a [op] [b] pos) t:=HS h c
theorem FZ(h:PC X op a b (tD X.K t))(c:behindInMarks op b=false:=by first|exact nobehind _ (by decide) (by decide)|rfl):DT X (.Compare a [op] [b] pos) (eB t):=kO (Ii h c) λe H Q d=>se _ _ _ d
theorem GO{X:Cx}(C:X.A.units+1<cLine)(E:DE X o f)(A:DE X i g)(t:o4 i):DE X (.Subscript o i pos) (aS eW f g):=fw (Kf C E A t) λτ H Q j=>by
 obtain⟨P,n,U,v,S,a,Y,e,q⟩:=j;obtain⟨x,c,e1,e⟩:=za e;obtain⟨y,h,e2,e⟩:=za e;refine⟨P,n,U,x,c,a,Y,e1,λd H1 u r k a1=>?_⟩;refine⟨d,n,c,y,h,a.ext r,k,e2,λa0 H2 w l b a2=>?_⟩;unfold eW at e;split at e
 ·rename_i h1 s;split at e
  ·rename_i z I;cases e;obtain⟨p,oo,rfl,g1,m⟩:=D4 b (a1.ext l) a2 h1 s;rw[I] at m;obtain⟨G,rfl,J⟩:=m;exact⟨p,G,rfl,g1,q _ _ _ (r.trans l) b J⟩
  ·cases e
 ·cases e
theorem IT{X:Cx}(S:X.A.units + 1<cLine)(U:DE X o f)(he:DE X e g)(Y:DE X f' h)(m:M2 X o "get" apos e f' cpos):DE X (.Call (.Attribute o "get" apos) [e,f'] [] cpos) (iG f g h):=fw (Mx S U he Y m) λτ H Q s=>by
 obtain⟨ρ,A,au,v,a4,a,rp,e,q⟩:=s;obtain⟨x,d,e1,e⟩:=za e;refine⟨ρ,A,au,x,d,a,rp,e1,λj H1 u E c I=>?_⟩;split at e
 ·rename_i h0;obtain⟨p,rfl,hd⟩:=wt c I h0;obtain⟨y,b,e2,e⟩:=za e;obtain⟨z,G,e3,e⟩:=za e;refine⟨p,rfl,hd,?_⟩;refine⟨j,A,d,y,b,a.ext E,c,e2,λC H2 w n l a2=>?_⟩;refine⟨C,A,b,z,G,a.ext (E.trans n),l,e3,λa0 H3 t k i a3=>?_⟩;split at e
  ·rename_i h1 J;cases e;obtain⟨p',P,ep,g1,g2⟩:=D4 i (I.ext (n.trans k)) (a2.ext k) h1 J;cases ep;refine⟨P,g1,q _ _ _ (E.trans (n.trans k)) i ?_⟩;revert g2;split
   ·rename_i r;rintro⟨vv,rfl,g3⟩;rw[r];exact g3
   ·rename_i r;rintro rfl;rw[r];exact a3
  ·cases e
 ·cases e
theorem GQ{X:Cx}(hu:X.A.units + 1<cLine)(ho:DE X o f)(he:DE X e g)(m:M1 X o "pop" apos e cpos):DE X (.Call (.Attribute o "pop" apos) [e] [] cpos) (kx f g):=fw (MB hu ho he m) λτ H Q r=>by
 obtain⟨ρ,G,au,v,a0,a,rp,e,q⟩:=r;obtain⟨x,h,e1,e⟩:=za e;refine⟨ρ,G,au,x,h,a,rp,e1,λj H1 u S d J=>?_⟩;split at e
 ·rename_i h0;obtain⟨p,rfl,hd⟩:=wt d J h0;obtain⟨y,l,e2,e⟩:=za e;refine⟨p,rfl,hd,?_⟩;refine⟨j,G,h,y,l,a.ext S,d,e2,λi H2 w t c a2=>?_⟩;split at e
  ·rename_i n k hk _;split at e
   ·rename_i U Y;split at e
    ·rename_i z hv;cases e;obtain⟨p',ep,P,A,s,C⟩:=iO c (J.ext t) Y (by intro z;cases z);cases ep;obtain⟨b,rfl,g3⟩:=qT a2 hk;have I:=C.val k;rw[hv] at I;obtain⟨vv,g5,g6⟩:=I;have E:bx i H2 i (aZ H2 p (.dT (df A (k.map Sum.inl)))):=bx.wr P (sU s) _;exact⟨A,_,vv,b,s,rfl,g3,g5,q _ _ _ ((S.trans t).trans E) (c.wr P (sU s) ⟨_,zx,(C.drop k).ext E⟩) (g6.ext E)⟩
    ·cases e
   ·cases e
  ·cases e
 ·cases e
theorem Jh{X:Cx}{j:Pos}(hu:X.A.units+1<cLine)(ho:DE X o f)(hi:DE X i g)(hv:DE X value h)(hs:swapsWith value (some (.Subscript o i pos')) j.line X.env=pure false):
  jr X (.Assign [.Subscript o i pos'] value j) (f6 f g h):=lq (Kp hu ho hi hv hs) λE τ H I=>by
 obtain⟨ρ,P,au,fl,a4,a,rp,e,q⟩:=I;obtain⟨v,l,e1,e⟩:=za e;obtain⟨x,c,e2,e⟩:=za e;obtain⟨y,U,e3,e⟩:=za e;refine⟨ρ,P,au,v,l,a,rp,e1,λC H1 u A J a1=>?_⟩;refine⟨C,P,l,x,c,a.ext A,J,e2,λS H2 w s G a2=>?_⟩;refine⟨S,P,c,y,U,a.ext (A.trans s),G,e3,λd H3 t r m a3=>?_⟩;split at e
 ·rename_i n k hk _;split at e
  ·rename_i a0 hn;split at e
   ·rename_i hl;cases e;obtain⟨p,rfl,hp,vs,Q,Y⟩:=iO m (a2.ext r) hn (by intro z;cases z);obtain⟨b,rfl,g3⟩:=qT a3 hk;have E:bx d H3 d (aZ H3 p (.dT (ec vs (k.map Sum.inl) u))):=bx.wr hp (sU Q) _;refine⟨p,_,rfl,mN.t Q g3 (by rw[←Y.length];exact hl),?_⟩;exact q _ _ _ ((A.trans (s.trans r)).trans E) (m.wr hp (sU Q) ⟨_,zx,(Y.put k (a1.ext (s.trans r))).ext E⟩) (a.ext ((A.trans (s.trans r)).trans E))
   ·cases e
  ·cases e
 ·cases e
def bi:List D->aa->bv D:=λb a=>match b with
 |[x]=>match (eS a x).bind fX with
  |some l=>if l.length<=1000000 then .ok (.lst (aJ (av l))) a else .stuck
  |none=>match pairsOf a x with
   |some kvs=>if kvs.length<=1000000 then .ok (.lst (aJ (av (kvs.map (·.1))))) a else .stuck
   |none=>.stuck
 |_=>.stuck
theorem qx{K:Fg}:ji K bi (λn H Q=>fS K n H Q\/fg n H Q):=λP H S n I z C Q d E e q=>by
 unfold bi at e;split at e
 ·obtain⟨u,rfl,a⟩:=E.one;split at e
  ·rename_i l m;obtain⟨J,G,m⟩:=rN.mp m;split at e
   ·rename_i b;cases e;obtain⟨p,v,rfl,r,j⟩:=jZ d a G;obtain⟨s,rfl,rfl,y⟩:=RB j m;rw[bh] at b;refine .inl ⟨p,s,rfl,cV.of r,b,λx f=>cx.of (y x f).1,λt h c i k=>?_⟩;have o:h.map (·.2)=av (s.map (·.2)):=B2 (i.map _) k;refine q _ _ _ (bx.new c _) (d.new c _) (.newL d c ?_);rw[←o];exact EM h λx f=>y x (i.mem_iff.mp f)
   ·cases e
  ·split at e
   ·rename_i g A;split at e
    ·rename_i b;cases e;obtain⟨p,v,rfl,r,j⟩:=EJ d a A;refine .inr ⟨p,v,g.map (·.1),rfl,r,j.keys,by rw[bh];exact b,λt h c i k w=>?_⟩;have o:h.map (·.2)=av (g.map (·.1)):=B2 i k;refine q _ _ _ (bx.new c _) (d.new c _) (.newL d c ?_);rw[←o];exact EM h λx f=>⟨w x f,RZ d (w x f)⟩
    ·cases e
   ·cases e
 ·cases e
theorem qI{X:Cx}(c:X.calm=true)(b:X.A.units + 64<cLine):bE X (.builtin "sorted") (λa H Q=>fS X.K a H Q\/fg a H Q):=(VH b).or (VO c b)
def cq(f:SE) (g:SA):SE:=λc e=>(f c e).bind λx b=>match x,eS b x with
 |.ref n,some _=>(g c b).bind λd a=>match d,a[n]? with
  |[y],some (.lst xs)=>if xs.length<sizeLine then .ok .non (a.set n (.lst (xs++[y]))) else .stuck
  |_,_=>.stuck
 |_,_=>.stuck
def eh(f:SE) (g:SA):SE:=λc e=>(f c e).bind λx b=>match x,eS b x with
 |.ref n,some _=>(g c b).bind λd a=>match d,a[n]? with
  |[y],some (.lst xs)=>match eS a y with
   |some zs=>if xs.length+zs.length<=sizeLine then .ok .non (a.set n (.lst (xs++zs))) else .stuck
   |none=>.stuck
  |_,_=>.stuck
 |_,_=>.stuck
theorem Lb{c:Pos}(ho:DE X o f)(U:DA X (e::es) ga)(g:attributeBase o "append" X.env (eval o X.env)=eval o X.env:=by rfl)
  (l:((backTo cpos (starEach (e::es) X.env)).all (λx=>!x.1)&&(backToKw cpos (keywordEach [] X.env)).all (λx=>x.1.isSome)
   && decide ((e::es).length+([]:List Keyword).length+(if([]:List Keyword).isEmpty then 0 else 1)<30))=true:=by rfl)
  (d:(c.endLine==cpos.line)=true:=by rfl)(hs:starEach (e::es) X.env=(false,eval e X.env)::starEach es X.env:=by rfl)(b:(backTo cpos (starEach es X.env)).any (·.1)=false:=by rfl):
  DE X (.Call (.Attribute o "append" c) (e::es) [] cpos) (cq f ga):=fw (nQ F.plainAttrs_list F.slot_list_append F.type_list_append RY ho U g l d hs b) λτ H Q A=>by
 obtain⟨ρ,G,au,v,a0,a,rp,e,q⟩:=A;obtain⟨x,j,e1,e⟩:=za e;refine⟨ρ,G,au,x,j,a,rp,e1,λr H1 u P i I=>?_⟩;split at e
 ·rename_i n _ hL;obtain⟨ys,s,e2,e⟩:=za e;obtain⟨p,vs,rfl,g1,g2⟩:=jZ i I hL;refine⟨.inl ⟨rfl,_,cV.of g1⟩,r,G,j,ys,s,a.ext P,i,e2,λm H2 ws C h a2=>?_⟩;split at e
  ·rename_i y xs Y;split at e
   ·rename_i hl;cases e;obtain⟨w,rfl,a3⟩:=a2.one;obtain⟨p',ep,J,k,t,S⟩:=iO h (I.ext C) Y (by intro z;cases z);cases ep;have E:bx m H2 m (aZ H2 p (.lst (k++[w]))):=bx.wr J (tq t) _;exact⟨p,k,w,rfl,rfl,t,by rw[S.length];exact hl,q _ _ _ ((P.trans C).trans E) (h.wr J (tq t) ⟨_,zx,(S.append (.cons a3 .nil)).ext E⟩) .non⟩
   ·cases e
  ·cases e
 ·cases e
theorem Lf{d:Pos}(ho:DE X o f)(ha:DA X (e::es) ga)(i:attributeBase o "extend" X.env (eval o X.env)=eval o X.env:=by rfl)
  (r:((backTo cpos (starEach (e::es) X.env)).all (λx=>!x.1)&&(backToKw cpos (keywordEach [] X.env)).all (λx=>x.1.isSome)
   && decide ((e::es).length+([]:List Keyword).length+(if([]:List Keyword).isEmpty then 0 else 1)<30))=true:=by rfl)
  (h:(d.endLine==cpos.line)=true:=by rfl)(hs:starEach (e::es) X.env=(false,eval e X.env)::starEach es X.env:=by rfl)(c:(backTo cpos (starEach es X.env)).any (·.1)=false:=by rfl):
  DE X (.Call (.Attribute o "extend" d) (e::es) [] cpos) (eh f ga):=fw (nQ F.plainAttrs_list F.slot_list_extend F.type_list_extend NW ho ha i r h hs c) λτ H Q G=>by
 obtain⟨ρ,P,au,v,a0,a,rp,e,q⟩:=G;obtain⟨x,k,e1,e⟩:=za e;refine⟨ρ,P,au,x,k,a,rp,e1,λt H1 u Y j S=>?_⟩;split at e
 ·rename_i n _ hL;obtain⟨ys,A,e2,e⟩:=za e;obtain⟨p,vs,rfl,g1,g2⟩:=jZ j S hL;refine⟨.inl ⟨rfl,_,cV.of g1⟩,t,P,k,ys,A,a.ext Y,j,e2,λs H2 ws I g a2=>?_⟩;split at e
  ·rename_i y xs hn;split at e
   ·rename_i zs hz;split at e
    ·rename_i hl;cases e;obtain⟨w,rfl,a3⟩:=a2.one;obtain⟨p',ep,U,l,C,k2⟩:=iO g (S.ext I) hn (by intro z;cases z);cases ep;obtain⟨b,m,rfl,m1,J⟩:=jZ g a3 hz;have E:bx s H2 s (aZ H2 p (.lst (l++m))):=bx.wr U (tq C) _;exact⟨p,b,l,m,rfl,rfl,C,m1,by rw[k2.length,J.length];exact hl,q _ _ _ ((Y.trans I).trans E) (g.wr U (tq C) ⟨_,zx,(k2.append J).ext E⟩) .non⟩
    ·cases e
   ·cases e
  ·cases e
 ·cases e
def mI(f:SE):SE:=λb c=>(f b c).bind λx a=>match x with
 |.ref n=>match a[n]? with
  |some (.lst xs)=>.ok (.lst xs) (a.set n .dead)
  |_=>.stuck
 |_=>.stuck
theorem Qn(s:DE X o f):DE X o (mI f):=fw s λτ H Q h=>by
 obtain⟨t,G,y,v,w,a,A,e,q⟩:=h;obtain⟨x,j,J,e⟩:=za e;refine⟨t,G,y,x,j,a,A,J,λg H1 u S b I=>?_⟩;split at e
 ·rename_i n;split at e
  ·rename_i Y l;cases e;obtain⟨p,rfl,k,C,r,U⟩:=iO b I l (by intro z;cases z);have c:=(cU.mp k).1;obtain⟨E,R⟩:=b.kill c;refine q _ _ _ (S.trans E) R (.lst r ⟨λz=>?_,λz=>(b.gh p z).2 (dY k)⟩ (U.ext E));obtain⟨i,m,P⟩:=nh z;have d:(g.m.set n none)[i]?=some (some p):=by rw[bS m,P]
   by_cases hin:i=n
   ·subst hin;rw[pW c] at d;simp at d
   ·rw[ft (fO hin)] at d;exact hin (b.inj i n p d k)
  ·cases e
 ·cases e
def eV:SS:=λa b=>.ok (.nx a) b
def mr:SS:=λa b=>.ok (.brk a) b
def WR:SS:=λa b=>.ok (.ct a) b
def aW(f:SE):SS:=λb c=>(f b c).bind λv a=>.ok (.ret v) a
def p0:SS:=λ_ a=>.ok (.ret .non) a
def bR(f:SE):SS:=λb c=>(f b c).bind λ_ a=>.ok (.nx b) a
def aF(i:Nat) (f:SE):SS:=λb c=>(f b c).bind λv a=>.ok (.nx (b.set i (some v))) a
def aD(s t:SS):SS:=λa b=>match s a b with
 |.ok (.nx σ1) st1=>t σ1 st1
 |r=>r
def eH(c:ST) (s t:SS):SS:=λd e=>(c d e).bind λb a=>if b=true then s d a else t d a
def jI(i:Nat) (g:D->D->aa->bv D) (f:SE):SS:=λa d=>match a[i]? with
 |some (some x)=>(f a d).bind λy c=>(g x y c).bind λz b=>.ok (.nx (a.set i (some z))) b
 |_=>.stuck
def ff(f g h:SE):SS:=λb e=>(h b e).bind λv d=>(f b d).bind λx c=>(g b c).bind λy a=>match x,y with
 |.ref n,.int k=>match a[n]? with
  |some (.lst xs)=>match ko xs.length k with
   |some j=>.ok (.nx b) (a.set n (.lst (xs.set j v)))
   |none=>.stuck
  |_=>.stuck
 |_,_=>.stuck
theorem G0:mM X [] eV:=wM Ks λE i H b=>by
 obtain⟨f,j,h,g,c,a,d,e,q⟩:=b;cases e;exact q _ _ _ (.refl _ _) d a
theorem Lo:jr X (.Break pos) mr:=lq MJ λE i H b=>by
 obtain⟨f,j,h,g,c,a,d,e,q⟩:=b;cases e;exact q _ _ _ (.refl _ _) d a
theorem G2(h:DE X e f):jr X (.Return (some e) pos) (aW f):=lq (Ig h) λE s H b=>by
 obtain⟨i,o,k,r,j,a,m,e,q⟩:=b;obtain⟨x,l,n,e⟩:=za e;cases e;exact⟨i,o,k,x,_,a,m,n,λd H1 u p c g=>q _ _ _ p c g⟩
theorem Ji{b:Pos}(i:DE X e f)(j:swapsWith e none b.line X.env=pure false:=by rfl):jr X (.Expr e b) (bR f):=lq (Kq i j) λE v H c=>by
 obtain⟨k,p,m,t,l,a,o,e,q⟩:=c;obtain⟨x,n,r,e⟩:=za e;cases e;exact⟨k,p,m,x,_,a,o,r,λh H1 u g d s=>q _ _ _ g d (a.ext g)⟩
theorem Go{K:Fg}:∀E d H,DF K (aF i f) E d H->oK (tD K f) (jb i) E d H:=λE d H b=>by
 obtain⟨k,r,m,s,l,a,o,e,q⟩:=b;obtain⟨x,n,p,e⟩:=za e;cases e;exact⟨k,r,m,x,_,a,o,p,λh H1 u g c j=>q _ _ _ g c ((a.ext g).set j i)⟩
theorem G3{X:Cx}{a:Pos}(b:X.N.Nodup)(d:X.N[i]?=some x)(h:L2.Loc X.env.scope x)(c:DE X e f)(g:swapsWith e (some (.Name x pos')) a.line X.env=pure false:=by rfl)(j:X.fn x=true\/X.env.scope.names.lookup x=some .local:=by first|exact .inl rfl|exact .inr rfl|assumption):
 jr X (.Assign [.Name x pos'] e a) (aF i f):=lq (Ih b d h c g j) Go
theorem G1(a:jr X sm s):mM X [sm] s:=Kt a
section
variable {X:Cx}{e:Expr}{sm:Stmt}{rest:List Stmt}{s:SS}{t:SS}
theorem Jg(x:jr X sm s)(o:mM X rest t):mM X (sm::rest) (aD s t):=wM (MM x o) λE y H g=>by
 obtain⟨k,n,l,h,b,a,m,e,q⟩:=g;unfold aD at e;split at e
 ·rename_i d c u;exact⟨k,n,l,_,c,a,m,u,λf H1 p w i r=>⟨f,d,c,h,b,r,i,e,q.ext w⟩⟩
 ·rename_i j;refine⟨k,n,l,h,b,a,m,e,?_⟩;cases h with
  |nx σ'=>exact absurd e (j σ' b)
  |brk σ'=>exact q
  |ct σ'=>exact q
  |ret v=>exact q
end
theorem FY(v:DT X c b)(n:mM X a' s)(m:mM X b' t):jr X (.If c a' b' pos) (eH b s t):=lq (Gn v n m) λE w H k=>by
 obtain⟨o,j,p,l,h,a,r,e,q⟩:=k;obtain⟨x,d,u,e⟩:=za e;refine⟨o,j,p,x,d,a,r,u,λf H1 i g=>?_⟩;cases x with
 |true=>exact k9 ⟨f,j,d,l,h,a.ext i,g,e,q.ext i⟩
 |false=>exact lc ⟨f,j,d,l,h,a.ext i,g,e,q.ext i⟩
def QA(K:Fg) (g:D->D->aa->bv D) (r:AU):Prop:=
 ∀d H e x y u v z b (Q:VK),bY K d e H->At K d H x u->At K d H y v->g x y e=.ok z b->(∀a c w,bx d H a c->bY K a b c->At K a c z w->Q w c)->r u v H Q
theorem GY{X:Cx}(A:X.N.Nodup)(p:X.N[i]?=some x)(r:L2.Loc X.env.scope x)(he:DE X e f)(t:AX X op ti)(I:QA X.K g ti)(v:X.fn x=true\/X.env.scope.names.lookup x=some .local:=by first|exact .inl rfl|exact .inr rfl|assumption):
  jr X (.AugAssign (.Name x pos') op e pos) (jI i g f):=lq (Ic A p r he t v) λE τ H j=>by
 obtain⟨J,S,P,fl,l,a,Q,e,q⟩:=j;unfold jI at e;split at e
 ·rename_i d C;obtain⟨y,b,e1,e⟩:=za e;obtain⟨z,o,e2,e⟩:=za e;cases e;obtain⟨u,s,G⟩:=a.get C;refine⟨u,s,J,S,P,y,b,a,Q,e1,λc H1 w m k Y=>?_⟩;exact I c H1 b d y u w z l _ k (G.ext m) Y e2 λU H2 zz n h a2=>q _ _ _ (m.trans n) h ((a.ext (m.trans n)).set a2 i)
 ·cases e
theorem AI{K:Fg}:QA K (oI (λ_ _=>True) λi j=>.int (p i j)) (Qa p):=λf H g x y u v z c Q d a b e q=>by
 unfold oI at e;split at e
 ·cases a;cases b;rw[if_pos True.intro] at e;cases e;exact⟨_,_,rfl,rfl,q _ _ _ (.refl _ _) d (.int _)⟩
 ·cases e
theorem Lu{d:Pos}(he:DE X value h)(ho:DE X o f)(hi:DE X i g)(ha:∀v,assign (.Subscript o i pos') X.env v=(do
   let ov ←holding [v] (eval o X.env)
   let iv ←holding [v,ov] (eval i X.env)
   standAt pos'
   holding [v,ov,iv] (setItem ov iv v)
   release [v,ov,iv] []):=by intro _;rfl)
  (hs:swapsWithSole [.Subscript o i pos'] value d.line X.env=pure false:=by rfl)(hw:swappedStores [.Subscript o i pos'] value X.env=pure none:=by rfl)
  (h1:(assignEach [.Subscript o i pos'] X.env).map (·.2)=[assign (.Subscript o i pos') X.env]:=by rfl):jr X (.Assign [.Subscript o i pos'] value d) (ff f g h):=
 lq (wL he (H0 ho hi MW ha) hs hw h1) λE τ H I=>by
 obtain⟨ρ,P,au,fl,a0,a,rp,e,q⟩:=I;obtain⟨v,l,e1,e⟩:=za e;obtain⟨x,b,e2,e⟩:=za e;obtain⟨y,U,e3,e⟩:=za e;refine⟨ρ,P,au,v,l,a,rp,e1,λC H1 u A J a1=>?_⟩;refine⟨C,P,l,x,b,a.ext A,J,e2,λS H2 w s G a2=>?_⟩;refine⟨S,P,b,y,U,a.ext (A.trans s),G,e3,λc H3 t r m a3=>?_⟩;split at e
 ·rename_i n k _;split at e
  ·rename_i xs hn;split at e
   ·rename_i j hj;cases e;cases a3;obtain⟨p,rfl,hp,Y,Q,g2⟩:=iO m (a2.ext r) hn (by intro z;cases z);have E:bx c H3 c (aZ H3 p (.lst (Y.set j u))):=bx.wr hp (tq Q) _;refine⟨p,Y,k,j,rfl,rfl,Q,by rw[g2.length];exact hj,?_⟩;exact q _ _ _ ((A.trans (s.trans r)).trans E) (m.wr hp (tq Q) ⟨_,zx,(g2.set (a1.ext (s.trans r)) j).ext E⟩) (a.ext ((A.trans (s.trans r)).trans E))
   ·cases e
  ·cases e
 ·cases e
abbrev SG:=D->DS->Option DS
def gN(i:Nat):SG:=λd a=>some (a.set i (some d))
def dA:List D->DS->Option DS:=λb a=>match b with
 |[]=>some a
 |_=>none
def bf(t:SG) (u:List D->DS->Option DS):List D->DS->Option DS:=λc b=>match c with
 |d::r=>(t d b).bind λa=>u r a
 |_=>none
def gT(n:Nat) (u:List D->DS->Option DS):SG:=λd a=>match d with
 |.tup ds=>if ds.length=n then u ds a else none
 |_=>none
def gD(K:Fg) (b:SG):TG:=λv g H Q=>∃e f d c,cY K e H f g/\At K e H d v/\b d f=some c/\∀a,cY K e H c a->Q a H
def WX(K:Fg) (b:List D->DS->Option DS):sC:=λh g H Q=>∃d f e c,cY K d H f g/\ab K d H e h/\b e f=some c/\∀a,cY K d H c a->Q a H
abbrev DG(X:Cx) (a:Expr) (b:SG):Prop:=PG X a (gD X.K b)
abbrev Bu(X:Cx) (a:List Expr) (b:List D->DS->Option DS):Prop:=sD X a (WX X.K b)
theorem vM(h:PG X e g)(k:∀v a H Q,g' v a H Q->g v a H Q):PG X e g':=λc s b H v u Q I r q=>h c s b H v u Q I r (k _ _ _ _ q)
theorem wK(h:sD X es g)(k:∀v a H Q,g' v a H Q->g v a H Q):sD X es g':=λc s b H v u Q I r q=>h c s b H v u Q I r (k _ _ _ _ q)
theorem IY{X:Cx}(f:X.N.Nodup)(g:X.N[i]?=some x)(h:L2.Loc X.env.scope x)(k:X.fn x=true\/X.env.scope.names.lookup x=some .local:=by first|exact .inl rfl|exact .inr rfl|assumption):DG X (.Name x pos) (gN i):=
 vM (Kg f g h k) λv m H Q c=>by
 obtain⟨l,n,d,j,a,b,e,q⟩:=c;cases e;exact q _ (a.set b i)
theorem IZ:Bu X [] dA:=wK Kh λv h H Q c=>by
 obtain⟨g,i,d,f,a,b,e,q⟩:=c;unfold dA at e;split at e
 ·cases e;cases b;exact⟨rfl,q _ a⟩
 ·cases e
theorem Li(p:DG X e t)(i:Bu X es u)(l:(assignEach (e::es) X.env).map (·.2)=assign e X.env::(assignEach es X.env).map (·.2):=by rfl):Bu X (e::es) (bf t u):=
 wK (ME p i l) λv r H Q f=>by
 obtain⟨h,o,d,g,a,b,e,q⟩:=f;unfold bf at e;split at e
 ·obtain⟨c,m,n⟩:=rN.mp e;cases b with
  |cons b1 b2=>exact⟨_,_,rfl,h,o,_,c,a,b1,m,λj k=>⟨h,c,_,g,k,b2,n,q⟩⟩
 ·cases e
theorem GW{X:Cx}(o:X.calm=true)(h:Bu X es u)(j:(assignEach es X.env).length=n:=by rfl)(g:(assignEach es X.env).findIdx? (·.1)=none:=by rfl):DG X (.Tuple es k pos) (gT n u):=
 vM (Ia o h j g) λv p H Q c=>by
 obtain⟨l,i,d,f,a,b,e,q⟩:=c;unfold gT at e;split at e
 ·split at e
  ·rename_i m;cases b with
   |tup h1 h2 h3=>exact⟨_,_,rfl,cx.of h1,by rw[h3.length];exact m,l,i,_,f,a,h3,e,q⟩
  ·cases e
 ·cases e
structure eU (ρ:Loc) (H:Hp) (ρ':Loc) (H':Hp):Prop where
 len:ρ.m.length<=ρ'.m.length
 old:∀(n:Nat) (a:Addr),n < ρ.m.length->ρ'.m[n]?=some (some a)->ρ.m[n]?=some (some a)
 keep:∀a o,H a=some o->some a∉ρ.m->H' a=some o/\some a∉ρ'.m
 gho:∀a∈ρ'.g,a∈ρ.g\/H a=none
 frz:∀a ob u,H a=some (.frz ob u)->H' a=some (.frz ob u)
theorem bx.toG(x:bx ρ H ρ' H'):eU ρ H ρ' H':=⟨x.len,x.old,x.keep,λa h=>.inl (by rw[←x.gho];exact h),x.frz⟩
theorem eU.then(a:eU ρ H ρ1 H1)(b:bx ρ1 H1 ρ2 H2):eU ρ H ρ2 H2:=
 ⟨ax a.len b.len,λn c h e=>a.old n c h (b.old n c (da h a.len) e),λc o e n=>by
  obtain⟨g,f⟩:=a.keep c o e n
  exact b.keep c o g f,λc h=>a.gho c (by rw[←b.gho];exact h),λc d u e=>b.frz c d u (a.frz c d u e)⟩
theorem eU.out(x:eU ρ H ρ' H') (h:H a=some o)(n:dZ ρ a):H' a=some o/\dZ ρ' a:=
 ⟨(x.keep a o h n.1).1,(x.keep a o h n.1).2,λz=>by
  rcases x.gho a z with q|q
  ·exact n.2 q
  ·rw[h] at q;cases q⟩
theorem eU.mv(x:eU ρ H ρ' H'):Mv ρ H ρ' H':=⟨λh n=>x.out h n,x.len,x.old⟩
theorem At.extG{K:Fg}(x:eU ρ H ρ' H') (h:At K ρ H d v):At K ρ' H' d v:=h.mv x.mv
theorem Ls.extG{K:Fg}(x:eU ρ H ρ' H')(h:Ls K ρ H a vs):Ls K ρ' H' a vs:=h.mv x.mv
structure o7 (K:Fg) (ρ:Loc) (H:Hp) (J:It) (xs:List D):Prop where
 item:∀ρ2 H2,eU ρ H ρ2 H2->∀(i:Nat) (x:D),xs[i]?=some x->J.go i H2/\∀y H3,J.yld i H2 y H3->bx ρ2 H2 ρ2 H3/\∀au,bY K ρ2 au H2->bY K ρ2 au H3/\At K ρ2 H3 x y
 done:∀ρ2 H2,eU ρ H ρ2 H2->∀i:Nat,xs.length<=i->J.stop i H2
def iD(K:Fg) (f:SA):TI:=λi H R=>∃d h g e b,cY K d H h i/\bY K d g H/\f h g=.ok e b/\∀a c J,bx d H a c->bY K a b c->o7 K a c J e->R J c
abbrev DI(X:Cx) (b a:Expr) (f:SA):Prop:=PI X b a (iD X.K f)
noncomputable def eG:D->Option (List D)
 |.tup xs=>some xs
 |.lst xs=>some xs
 |.scr xs=>some xs
 |_=>none
def aH(f:SE):SA:=λb c=>(f b c).bind λx a=>match eG x with
 |some xs=>.ok xs a
 |none=>.stuck
noncomputable def rng(lo:Int) (n:Nat):List D:=(List.range n).map λ(i:Nat)=>D.int (lo+i)
def h7(g:SA):SA:=λb d=>(g b d).bind λc a=>match c with
 |[.int j]=>if -(2^62)<=j/\j<2^62 then .ok (rng 0 j.toNat) a else .stuck
 |_=>.stuck
def T8(g:SA):SA:=λb d=>(g b d).bind λc a=>match c with
 |[.int i,.int j]=>if -(2^62)<=i/\i<2^62/\-(2^62)<=j/\j<2^62 then .ok (rng i (j-i).toNat) a else .stuck
 |_=>.stuck
theorem uQ{lo:Int}(h:(rng lo n)[i]?=some x):i<n/\x=.int (lo+i):=by
 unfold rng at h;rw[fK] at h;rcases pH i n with z|z
 ·rw[Dl z] at h;exact⟨z,(g7 h).symm⟩
 ·rw[oD (by rw[pN];exact z)] at h;cases h
theorem Hi{K:Fg}{lo:Int}:o7 K ρ H (DR lo n) (rng lo n) where
 item:=λa H2 x i d e=>by
  obtain⟨c,rfl⟩:=uQ e;refine⟨c,λy H3 b=>?_⟩;obtain⟨rfl,rfl⟩:=b;exact⟨.refl _ _,λ_ r=>⟨r,.int _⟩⟩
 done:=λa H2 x i h=>by
  unfold rng at h;rw[bh,pN] at h;exact h
theorem nR(h:PI X tg l t)(k:∀a H R,t' a H R->t a H R):PI X tg l t':=λc s b H R I q=>h c s b H R I (k _ _ _ q)
theorem Gm(h:PI X tg l t)(d:PI X tg l t'):PI X tg l (λb H R=>t b H R\/t' b H R):=λc s a H R I q=>by
 rcases q with q|q
 ·exact h c s a H R I q
 ·exact d c s a H R I q
theorem wW{K:Fg}(c:∀b H2,eU ρ H b H2->cV K H2 p vs)(g:ab K ρ H xs vs):o7 K ρ H (Qz K p) xs where
 item:=λb H2 x i d e=>by
  obtain⟨v,f,a⟩:=g.get e;refine⟨⟨vs,v,c _ _ x,f⟩,λy H3 k=>?_⟩;obtain⟨rfl,j⟩:=k;have:=j vs (c _ _ x);rw[f] at this;cases this;exact⟨.refl _ _,λ_ r=>⟨r,a.extG x⟩⟩
 done:=λb H2 x i h=>⟨vs,c _ _ x,by rw[g.length];exact h⟩
theorem Gu{K:Fg}(c:∀b H2,eU ρ H b H2->cx K H2 p vs)(g:ab K ρ H xs vs):o7 K ρ H (Qy K p) xs where
 item:=λb H2 x i d e=>by
  obtain⟨v,f,a⟩:=g.get e;refine⟨⟨vs,v,c _ _ x,f⟩,λy H3 k=>?_⟩;obtain⟨rfl,j⟩:=k;have:=j vs (c _ _ x);rw[f] at this;cases this;exact⟨.refl _ _,λ_ r=>⟨r,a.extG x⟩⟩
 done:=λb H2 x i h=>⟨vs,c _ _ x,by rw[g.length];exact h⟩
theorem GX(r:DE X l f):DI X tg l (aH f):=nR (Gm (Kj r) (Ib r)) λw H R j=>by
 obtain⟨k,p,m,v,s,a,n,e,q⟩:=j;obtain⟨x,t,o,e⟩:=za e;cases x with
 |tup ys=>
  cases e;refine .inr ⟨k,p,m,_,_,a,n,o,λc H1 u h b g=>?_⟩;cases g with
  |tup h1 h2 h3=>exact⟨_,rfl,⟨_,cx.of h1⟩,q _ _ _ h b (Gu (λd H2 i=>cx.of (i.out h1 h2).1) h3)⟩
 |lst ys=>
  cases e;refine .inl ⟨k,p,m,_,_,a,n,o,λc H1 u h b g=>?_⟩;cases g with
  |lst h1 h2 h3=>exact⟨_,rfl,⟨_,cV.of h1⟩,q _ _ _ h b (wW (λd H2 i=>cV.of (i.out h1 h2).1) h3)⟩
 |scr ys=>
  cases e;refine .inl ⟨k,p,m,_,_,a,n,o,λc H1 u h b g=>?_⟩;cases g with
  |scr h1 h3=>exact⟨_,rfl,⟨_,h1.sq⟩,q _ _ _ h b (wW (λd H2 i=>(h1.extG i).sq) h3)⟩
 |_=>cases e
theorem Nw(k:Gl X "range")(z:X.mg "range"=none)(h:DA X [a] g)(i:starEach [a] X.env=[(false,eval a X.env)]:=by rfl):DI X tg (.Call (.Name "range" p) [a] [] pos) (h7 g):=
 nR (Oa k z h i) λC H R b=>by
 obtain⟨j,r,m,A,l,a,o,e,q⟩:=b;obtain⟨x,n,v,e⟩:=za e;split at e
 ·split at e
  ·rename_i d;cases e;refine⟨j,r,m,_,_,a,o,v,λf H1 u y c s=>?_⟩;obtain⟨w,rfl,t⟩:=s.one;cases t;exact⟨_,rfl,d.1,d.2,q _ _ _ y c Hi⟩
  ·cases e
 ·cases e
def h8(f:SE):SA:=λb c=>(f b c).bind λx a=>match x with
 |.ref n=>match a[n]? with
  |some (.dT kvs)=>.ok (aJ (kvs.map (·.1))) (a.set n (.fT kvs))
  |_=>.stuck
 |_=>.stuck
theorem I0(U:DE X l f):DI X tg l (h8 f):=nR (Ki U) λτ H R v=>by
 obtain⟨ρ,σ,au,xs,a0,a,rp,e,q⟩:=v;obtain⟨x,j,e1,e⟩:=za e;refine⟨ρ,σ,au,x,j,a,rp,e1,λb H1 u x1 g a1=>?_⟩;split at e
 ·rename_i n;split at e
  ·rename_i c S;cases e;obtain⟨p,rfl,J,o,w,I⟩:=iO g a1 S (by intro z;cases z);refine⟨p,o,c.map (·.1),rfl,w,I.keys,λt G P Q=>?_⟩;have E:bx b H1 b (aZ H1 p (.frz t (.dT o))):=bx.wr J (sU w) _;have R:bY X.K b (j.set n (.fT c)) (aZ H1 p (.frz t (.dT o))):=g.wr J (sU w) ⟨o,t,zx,I.ext E⟩;refine q _ _ _ (x1.trans E) R ⟨λA H2 m i d e=>?_,λA H2 m i h=>?_⟩
   ·have s:(G.map (·.2))[i]?=(c.map (·.1))[i]?:=by rw[P]
    unfold aJ at e;rw[fK,←s,fK] at e;cases hi:G[i]? with
    |none=>rw[hi] at e;cases e
    |some x=>
     rw[hi] at e;cases e;refine⟨⟨(cU.mp hi).1,m.frz _ _ _ zx⟩,λy H3 Y=>?_⟩;obtain⟨rfl,x',k,rfl⟩:=Y;rw[hi] at k;cases k;have C:=Q x (dY hi);have a3:At X.K b H1 (aL x.2) (.ref x.1):=.tup C (RZ g C) (u8 _);exact⟨.refl _ _,λ_ r=>⟨r,(a3.ext E).extG m⟩⟩
   ·have s:=congrArg List.length P;rw[bh] at s;unfold aJ at h;rw[bh,←s] at h;exact⟨h,m.frz _ _ _ zx⟩
  ·cases e
 ·cases e
def dS(b:SG) (a:SS):List D->SS
 |[],σ,au=>.ok (.nx σ) au
 |x::xs,σ,au=>match b x σ with
  |none=>.stuck
  |some σ1=>match a σ1 au with
   |.ok (.nx σ2) st2=>dS b a xs σ2 st2
   |.ok (.ct σ2) st2=>dS b a xs σ2 st2
   |.ok (.brk σ2) st2=>.ok (.nx σ2) st2
   |r=>r
def bP(d:SA) (g:SG) (a:SS):SS:=λc f=>(d c f).bind λe b=>dS g a e c b
def db(c:ST) (a:SS):Nat->SS
 |0,_,_=>.stuck
 |n+1,σ,au=>(c σ au).bind λb d=>if b=true then(match a σ d with
  |.ok (.nx σ2) st2=>db c a n σ2 st2
  |.ok (.ct σ2) st2=>db c a n σ2 st2
  |.ok (.brk σ2) st2=>.ok (.nx σ2) st2
  |r=>r) else .ok (.nx σ) d
noncomputable def mj:Nat:=1000000
def dE(c:ST) (a:SS):SS:=db c a mj
theorem xj{b:Type}{a:List b}(h:i<a.length):∃x,a[i]?=some x/\a.drop i=x::a.drop (i+1):=⟨a[i],bS h,kY h⟩
theorem GZ{X:Cx}(hp:PassesOwn (model X.prog X.w) X.A X.env X.xe)(hc:X.calm=true)(hi:DI X tg iter it)(hg:DG X tg bd)(hb:mM X body b)(hs:∀x,foldedSetIterable iter X.env x=pure x:=by intro _;rfl):
  jr X (.For tg iter body [] pos) (bP it bd b):=lq (Ie hp hc hi hg hb hs) λE τ H a0=>by
 obtain⟨ρ,σ,au,fl,P,a,rp,e,q⟩:=a0;obtain⟨A,Q,e1,e⟩:=za e;refine⟨ρ,σ,au,A,Q,a,rp,e1,λo H1 J x1 a1 ok=>?_⟩;have q1:=q.ext x1;refine⟨λi m G t=>i+m=A.length/\∃f n j,bx o H1 f t/\cY X.K f t n G/\bY X.K f j t/\dS bd b (A.drop i) n j=.ok fl P,⟨A.length,by lia,o,σ,Q,.refl _ _,a.ext x1,a1,e⟩,?_⟩;rintro i m G t ⟨a7,f,n,j,U,a2,C,c⟩;rcases pH i A.length with a3|hge
 ·obtain⟨x,hx,hd⟩:=xj a3;rw[hd] at c;obtain⟨go,yl⟩:=ok.item f t U.toG i x hx;refine .inr ⟨go,λS H3=>∃k d g,bx o H1 k H3/\cY X.K k H3 d S/\bY X.K k g H3/\dS bd b (A.drop (i+1)) d g=.ok fl P,λS H3 ⟨k,d,g,n1,n2,n3,n4⟩=>⟨m-1,by lia,by lia,k,d,g,n1,n2,n3,n4⟩,λy H3 hy=>?_⟩;obtain⟨y1,y4⟩:=yl y H3 hy;obtain⟨y2,y3⟩:=y4 _ C;unfold dS at c;cases hbd:bd x n with
  |none=>rw[hbd] at c;cases c
  |some σ1=>
   rw[hbd] at c;dsimp only at c;have Y:=U.trans y1;refine⟨f,n,x,σ1,a2.ext y1,y3,hbd,λa6 a4=>?_⟩;cases hr:b σ1 j with
   |stuck=>rw[hr] at c;cases c
   |exc z w=>rw[hr] at c;cases c
   |ok fb g=>
    rw[hr] at c;refine⟨f,σ1,j,fb,g,a4,y2,hr,?_⟩;cases fb with
    |nx d=>exact λl r I p h s=>⟨l,d,g,Y.trans p,s,h,c⟩
    |ct d=>exact λl r I p h s=>⟨l,d,g,Y.trans p,s,h,c⟩
    |brk d=>
     dsimp only at c;cases c;exact λl r I p h s=>q1 _ _ _ (Y.trans p) h s
    |ret v=>
     dsimp only at c;cases c;exact λl r u p h s=>q1 _ _ _ (Y.trans p) h s
 ·rw[Dv hge] at c;unfold dS at c;cases c;exact .inl ⟨ok.done f t U.toG i hge,q1 _ _ _ U C a2⟩
theorem Lw{X:Cx}(hp:PassesOwn (model X.prog X.w) X.A X.env X.xe)(hc:DT X c t)(hb:mM X body b):jr X (.While c body [] pos) (dE t b):=lq (MK hp hc hb) λE τ H a3=>by
 obtain⟨ρ,σ,au,fl,J,a,rp,e,q⟩:=a3;unfold dE at e;generalize mj=n at e;refine⟨λm s Q=>∃i g j,bx ρ H i Q/\cY X.K i Q g s/\bY X.K i j Q/\db t b m g j=.ok fl J,⟨n,ρ,σ,au,.refl _ _,a,rp,e⟩,?_⟩;rintro m s Q ⟨i,g,j,x2,a2,a0,U⟩;cases m with
 |zero=>unfold db at U;cases U
 |succ m=>
  unfold db at U;obtain⟨x,r,e3,f⟩:=za U;refine⟨i,g,j,x,r,a2,a0,e3,λa1 H3 Y P=>?_⟩;have A:=x2.trans Y;cases x with
  |false=>
   rw[if_neg (by decide)] at f;cases f;exact lc (q _ _ _ A P (a2.ext Y))
  |true=>
   rw[if_pos rfl] at f;refine k9 ⟨λG S=>∃o y C,bx ρ H o S/\cY X.K o S y G/\bY X.K o C S/\db t b m y C=.ok fl J,λG S hh=>⟨m,yD m,hh⟩,?_⟩;cases hr:b g r with
   |stuck=>rw[hr] at f;cases f
   |exc z w=>rw[hr] at f;cases f
   |ok fb st5=>
    rw[hr] at f;refine⟨a1,g,r,fb,st5,a2.ext Y,P,hr,?_⟩;cases fb with
    |nx σ3=>exact λh l I k d p=>⟨h,σ3,st5,A.trans k,p,d,f⟩
    |ct σ3=>exact λh l I k d p=>⟨h,σ3,st5,A.trans k,p,d,f⟩
    |brk σ3=>
     dsimp only at f;cases f;exact λh l I k d p=>q _ _ _ (A.trans k) d p
    |ret v=>
     dsimp only at f;cases f;exact λh l u k d p=>q _ _ _ (A.trans k) d p
def bo(e:SG) (c:ST) (f:SE):List D->DS->aa->bv (List D)
 |[],_,au=>.ok [] au
 |x::xs,σ,au=>match e x σ with
  |none=>.stuck
  |some σ1=>(c σ1 au).bind λb a=>if b=true then(f σ1 a).bind λy d=>(bo e c f xs σ1 d).bind λh g=>.ok (y::h) g else bo e c f xs σ1 a
def aT(k:Nat) (is:List Nat) (a:DS):DS:=List.replicate k none++is.map λi=>(a[i]?).getD none
def aG(g:SA) (k:Nat) (is:List Nat) (j:SG) (c:ST) (f:SE):SE:=λe i=>(g e i).bind λd b=>if d.length<=sizeLine then(bo j c f d (aT k is e) b).bind λh a=>.ok (.lst h) a else .stuck
def aI:ST:=λ_ a=>.ok true a
theorem cY.start{K:Fg}(h:cY K ρ H σ τ)(k:Nat)(is:List Nat):cY K ρ H (aT k is σ) (fP k is τ):=by
 have f:∀{a c:DS}{b d:St},cY K ρ H a b->cY K ρ H c d->cY K ρ H (a++c) (b++d):=λm g=>by
  induction m with
  |nil=>exact g
  |cons r t ih=>exact .cons r ih
 refine f ?_ ?_
 ·induction k with
  |zero=>exact .nil
  |succ k ih=>exact .cons (λd e=>nomatch e) ih
 ·induction is with
  |nil=>exact .nil
  |cons i is ih=>
   refine .cons (λd e=>?_) ih;have e:(σ[i]?).getD none=some d:=e;have l:σ[i]?=some (some d):=by
    cases q:σ[i]? with
    |none=>rw[q] at e;cases e
    |some o=>rw[q] at e;exact congrArg some e
   obtain⟨u,j,a⟩:=h.get l;exact⟨u,by show(τ[i]?).getD none=some u;rw[j];rfl,a⟩
def Loc.with(a:Loc) (p:Addr):Loc:=⟨a.m,p::a.g⟩
theorem KN(a:H p=none):Mv ρ H (ρ.with p) (aZ H p o):=⟨λe n=>⟨by rw[zy (zn e a)];exact e,n.1,λz=>by
 rcases bZ.mp z with z|z
 ·exact zn e a z
 ·exact n.2 z⟩,bj _,λ_ _ _ e=>e⟩
theorem At.with{K:Fg}(a:H p=none) (h:At K ρ H d v):At K (ρ.with p) (aZ H p o) d v:=h.mv (KN a)
theorem xw{c b:Loc}(d:b.m=c.m)(g:p∈c.g)(f:∀a,a∈b.g->a∈c.g):Mv c H b (aZ H p o):=⟨λe n=>⟨by rw[zy (by rintro rfl;exact n.2 g)];exact e,by rw[d];exact n.1,λz=>n.2 (f _ z)⟩,by rw[d];exact bj _,λ_ _ _ e=>by rw[d] at e;exact e⟩
theorem At.grow{K:Fg}{ρ ρ':Loc}(e:ρ'.m=ρ.m)(b:p∈ρ.g)(c:∀a,a∈ρ'.g->a∈ρ.g) (h:At K ρ H d v):At K ρ' (aZ H p o) d v:=h.mv (xw e b c)
theorem ab.grow{K:Fg}{ρ ρ':Loc}(e:ρ'.m=ρ.m)(b:p∈ρ.g)(c:∀a,a∈ρ'.g->a∈ρ.g) (h:ab K ρ H d v):ab K ρ' (aZ H p o) d v:=h.mv (xw e b c)
theorem ll.map{K:Fg}(k:∀d v,At K ρ H d v->At K ρ' H' d v)(i:∀b f u,H b=some (.frz f u)->H' b=some (.frz f u))(same:H' a=H a)(h:ll K ρ H x a):ll K ρ' H' x a:=by
 have g:∀{d:List D}{v:List V},ab K ρ H d v->ab K ρ' H' d v:=λ{d v} h=>by
  induction d generalizing v with
  |nil=>cases h;exact .nil
  |cons x xs ih=>cases h with|cons a b=>exact .cons (k _ _ a) (ih b)
 cases x with
 |lst xs=>obtain⟨e,q,r⟩:=h;exact⟨e,by rw[same];exact q,g r⟩
 |dT kvs=>obtain⟨e,q,r⟩:=h;exact⟨e,by rw[same];exact q,Paired.mapP r λp q z=>⟨z.1,k _ _ z.2⟩⟩
 |fT kvs=>obtain⟨e,f,q,r⟩:=h;exact⟨e,f,by rw[same];exact q,Paired.mapP r λp q z=>⟨z.1,k _ _ z.2⟩⟩
 |dI kvs=>obtain⟨e,q,r⟩:=h;exact⟨e,by rw[same];exact q,Paired.mapP r λp q z=>⟨z.1,k _ _ z.2⟩⟩
 |dP ks=>obtain⟨e,q,n,l,u,r⟩:=h;exact⟨e,by rw[same];exact q,n,l,u,r.map k⟩
 |dead=>exact h.elim
 |tab=>obtain⟨c,j,q,r⟩:=h;exact⟨c,j,by rw[same];exact q,r.map i⟩
theorem bY.with{K:Fg}(r:bY K ρ au H)(c:H p=none)(g:List V):bY K (ρ.with p) au (aZ H p (.lst g)):=
 ⟨r.len,r.inj,λm b y j l=>by
  have q:=r.obj m b y j l;obtain⟨u,k⟩:=q.has;exact q.map (λd v h=>h.with c) (λb o u e=>by rw[zy (zn e c)];exact e) (zy (zn k c)),λa ha=>by
  rcases bZ.mp ha with rfl|ha
  ·exact⟨⟨g,zx⟩,(E2 r c).1⟩
  ·obtain⟨⟨n,f⟩,i⟩:=r.gh a ha
   exact⟨⟨n,by rw[zy (zn f c)];exact f⟩,i⟩,r.live⟩
theorem bY.grow{K:Fg}{ρ':Loc}(r:bY K ρ au H)(c:ρ'.m=ρ.m)(g:p∈ρ.g)(i:∀a,a∈ρ'.g->a∈ρ.g)(j:List V):bY K ρ' au (aZ H p (.lst j)):=
 ⟨by rw[c];exact r.len,by rw[c];exact r.inj,λm b y f n=>by
  rw[c] at f;refine(r.obj m b y f n).map (λd v h=>h.grow c g i) (λb s u e=>by rw[zy (by rintro rfl;obtain⟨⟨_,z⟩,_⟩:=r.gh _ g;rw[e] at z;cases z)];exact e) (zy ?_);rintro rfl;exact(r.gh b g).2 (dY f),λa k=>by
  obtain⟨⟨o,q⟩,l⟩:=r.gh a (i a k);refine⟨?_,by rw[c];exact l⟩;by_cases e:a=p
  ·subst e;exact⟨j,zx⟩
  ·exact⟨o,by rw[zy e];exact q⟩,by rw[c];exact r.live⟩
theorem cY.map{K:Fg}(k:∀d v,At K ρ H d v->At K ρ' H' d v)(h:cY K ρ H σ τ):cY K ρ' H' σ τ:=Paired.mapP h λo v z d e=>by
 obtain⟨u,b,a⟩:=z d e;exact⟨u,b,k _ _ a⟩
inductive CI (K:Fg) (bd:SG) (c:ST) (f:SE) (xs ys:List D) (st2:aa) (ρ1:Loc) (H1:Hp) (p:Addr) (i:Nat) (τ:St) (H':Hp):Prop where
 |mk {ρ2:Loc}{σ2:DS}{st3:aa}{acc:List D}{accV:List V}{zs:List D}(x2:eU ρ1 H1 ρ2 H') (hg:ρ2.g=p::ρ1.g) (hpp:H' p=some (.lst accV)) (hal:ab K ρ2 H' acc accV) (hli:acc.length<=i) (a2:cY K ρ2 H' σ2 τ) (rp2:bY K ρ2 st3 H') (e3:bo bd c f (xs.drop i) σ2 st3=.ok zs st2) (hac:acc++zs=ys):CI K bd c f xs ys st2 ρ1 H1 p i τ H'
theorem GK{k:Nat}{is:List Nat}{K:Fg}(a:cY K ρ H σ τ)(rp:bY K ρ au H)(e1:it σ au=.ok xs st1)(a5:xs.length<=sizeLine)(e2:bo bd c f xs (aT k is σ) st1=.ok ys st2)
 (b8:∀g H1 p l t j,bx ρ H g H1->bY K g st1 H1->H1 p=none->eU g H1 l t->l.g=p::g.g->t p=some (.lst j)->ab K l t ys j->bY K l st2 t->Q (.ref p) t):ke (iD K it) k is (gD K bd) (nl K c) (tD K f) τ H Q:=by
 refine⟨ρ,σ,au,xs,st1,a,rp,e1,λg H1 J x1 a8 ok p Y=>?_⟩
 refine⟨λi m a3 t=>i+m=xs.length/\CI K bd c f xs ys st2 g H1 p i a3 t,
  ⟨xs.length,by lia,.mk ?_ rfl zx .nil (ir _) (((a.ext x1).start k is).map λd v h=>h.with Y) (a8.with Y []) e2 rfl⟩,?_⟩
 ·have E:bx g H1 g (aZ H1 p (.lst [])):=bx.new Y _
  exact⟨E.len,E.old,E.keep,λa h=>by
   rcases bZ.mp h with rfl|h
   ·exact .inr Y
   ·exact .inl h,E.frz⟩
 rintro i m a3 t ⟨c4,@⟨l,b3,c0,acc,j,zs,x2,hg,b2,U,X,a2,S,q,r⟩⟩;have b5:p∈l.g:=by rw[hg];exact dk
 rcases pH i xs.length with b0|hge
 ·obtain⟨x,hx,hd⟩:=xj b0;rw[hd] at q;obtain⟨go,yl⟩:=ok.item l t x2 i x hx
  refine .inr ⟨go,CI K bd c f xs ys st2 g H1 p (i+1),
   λb6 H4 hh=>⟨m-1,by lia,by lia,hh⟩,λy H3 hy=>?_⟩
  obtain⟨y1,y4⟩:=yl y H3 hy;obtain⟨y2,y3⟩:=y4 _ S;unfold bo at q;cases hbd:bd x b3 with
  |none=>rw[hbd] at q;cases q
  |some σ1=>
   rw[hbd] at q;dsimp only at q;obtain⟨bb,a7,e4,e5⟩:=za q;refine⟨l,b3,x,σ1,a2.ext y1,y3,hbd,λb6 a4=>?_⟩;have I:some p∉l.m:=(S.gh p b5).2;have A:=(y1.keep p _ b2 I).1;refine⟨l,σ1,c0,bb,a7,a4,y2,e4,λP H5 s b1=>?_⟩;have z:=(s.keep p _ A I).1;have C:=(U.ext y1).ext s;have g5:P.g=p::g.g:=s.gho.trans hg;cases bb with
   |false=>
    rw[if_neg (by decide)] at e5;exact lc (.mk ((x2.then y1).then s) g5 z C (oz X) (a4.ext s) b1 e5 r)
   |true=>
    rw[if_pos rfl] at e5;obtain⟨w,b9,e6,e7⟩:=za e5;obtain⟨c3,c2,e8,e9⟩:=za e7;cases e9;refine k9 ⟨P,σ1,a7,w,b9,a4.ext s,b1,e6,λb4 H6 u x6 b7 a6=>?_⟩;have a9:some p∉P.m:=(s.keep p _ A I).2;have a1:=(x6.keep p _ z a9).1;have g6:b4.g=p::g.g:=x6.gho.trans g5;have a0:p∈b4.g:=by rw[g6];exact dk
    have c1:j.length<=i:=by rw[U.length];exact X
    refine⟨j,a1,iZ c1 (da b0 a5),.mk (acc:=acc++[w]) (accV:=j++[u]) ?_ g6 zx ?_ (by rw[cJ];exact ot X) ?_ (b7.grow rfl a0 (λ_ h=>h) _) e8 (by rw[←r,eE];rfl)⟩
    ·have G:=((x2.then y1).then s).then x6;refine⟨G.len,G.old,λb o e n=>?_,G.gho,λb ob uu e=>?_⟩
     ·rw[zy (zn e Y)];exact G.keep b o e n
     ·rw[zy (zn e Y)];exact G.frz b ob uu e
    ·exact((C.ext x6).append (.cons a6 .nil)).grow rfl a0 (λ_ h=>h)
    ·exact(a4.ext (s.trans x6)).map λd v h=>h.grow rfl a0 (λ_ h=>h)
 ·rw[Dv hge] at q;unfold bo at q;cases q;rw[jy] at r;subst r;exact .inl ⟨ok.done _ _ x2 i hge,b8 _ _ _ _ _ _ x1 a8 Y x2 hg b2 U S⟩
theorem we{K:Fg}:∀y H Q,tD K (aG it k is bd c f) y H Q->ke (iD K it) k is (gD K bd) (nl K c) (tD K f) y H Q:=λy H Q w=>by
 obtain⟨J,σ,au,v,P,a,U,e,q⟩:=w;obtain⟨xs,S,X,e⟩:=za e;split at e
 ·rename_i n;obtain⟨ys,G,e2,e⟩:=za e;cases e;refine GK a U X n e2 λh H1 p d H' i x1 x Y s A r u l=>?_
  have j:p∈d.g:=by rw[A];exact dk
  have t:some p∉d.m:=(l.gh p j).2;have m:aZ H' p (.lst i)=H':=M7 r;have sub:∀a,a∈(⟨d.m,h.g⟩:Loc).g->a∈d.g:=λb I=>by rw[A];exact bT _ I
  have E:bx h H1 ⟨d.m,h.g⟩ H':=⟨s.len,s.old,s.keep,rfl,s.frz⟩
  have R:=l.grow (ρ':=⟨d.m,h.g⟩) rfl j sub i;have L:=ab.grow (ρ:=d) (ρ':=⟨d.m,h.g⟩) (o:=.lst i) rfl j sub u;rw[m] at R L;refine q _ _ _ (x1.trans E) R (.lst r ⟨t,λz=>?_⟩ L);obtain⟨⟨ws,C⟩,_⟩:=x.gh p z;rw[Y] at C;cases C
 ·cases e
theorem GN{X:Cx}{N:List Str}(a:X.calm=true)(g:DI X tg iter it)(i:∀d C b s H,DG (eY X N scope d C b s H) tg bd)(j:∀d C b s H,nm (eY X N scope d C b s H) ifs (nl X.K c))(e:∀d C b s H,DE (eY X N scope d C b s H) elt f)
 (S:bA X N k is scope)(h:∀x,foldedSetIterable iter X.env x=pure x:=by intro _;rfl):DE X (.ListComp elt [⟨tg,iter,ifs,0⟩] scope pos) (aG it k is bd c f):=fw (Ke a g i j e S h) we
theorem Jj{X:Cx}{N:List Str}{b:Pos}(d:X.calm=true)(y:X.N.Nodup)(l:X.N[i]?=some x)(p:L2.Loc X.env.scope x)(n:DI X tg iter it)(G:∀j C g s H,DG (eY X N scope j C g s H) tg bd)
  (z:∀j C g s H,nm (eY X N scope j C g s H) ifs (nl X.K c))(he:∀j C g s H,DE (eY X N scope j C g s H) elt f)(S:bA X N k is scope)
  (m:swapsWith (.ListComp elt [⟨tg,iter,ifs,0⟩] scope pos) (some (.Name x pos')) b.line X.env=pure true:=by rfl)
  (w:X.fn x=true\/X.env.scope.names.lookup x=some .local:=by first|exact .inl rfl|exact .inr rfl|assumption)
  (o:∀x,foldedSetIterable iter X.env x=pure x:=by intro _;rfl):jr X (.Assign [.Name x pos'] (.ListComp elt [⟨tg,iter,ifs,0⟩] scope pos) b) (aF i (aG it k is bd c f)):=
 lq (Kr d y l p n G z he S m w o) λE τ H h=>by
  obtain⟨A,Y,P,fl,I,a,U,e,q⟩:=h;obtain⟨v,Q,e1,e⟩:=za e;cases e;exact we τ H _ ⟨A,Y,P,v,_,a,U,e1,λJ H' u x r t=>q _ _ _ x r ((a.ext x).set t i)⟩
theorem Ja:nm X [] (nl X.K aI):=λh s g H Q I b=>by
 obtain⟨i,f,j,v,c,a,d,e,q⟩:=b;cases e;exact Kk h s g H Q I (q _ _ (.refl _ _) d)
theorem Jb(h:DT X c t):nm X [c] (nl X.K t):=Kl h
end Dd
namespace Dd
open L2 PyProof.Rows
def DH(K:Fg) (h:Nat) (F:cS):Sp:=λg H Q _=>∃d e f v b,ab K d H e g/\bY K d f H/\F e f=.ok v b/\g.length=h/\∀a c u,bx d H a c->bY K a b c->At K a c v u->Q u c
def fI(P:Program) (w:World) (K:Fg) (c:Str->Option Value) (a:Heap) (x:Str) (k:Nat) (b:List Str) (F:cS):Prop:=Callee P w K c a x k b (DH K b.length F)
def cB(n b:Nat) (a:SS):cS:=λc d=>if c.length=b then(match a (c.map some++List.replicate (n-b) none) d with
 |.ok (.ret v) st'=>.ok v st'
 |.ok (.nx _) st'=>.ok .non st'
 |.exc x st'=>.exc x st'
 |_=>.stuck) else .stuck
section
variable {x:Str}{F:cS}{e:Expr}
theorem GH{K:Fg}{i:Nat}{f:SA}(o:∀m k v b,F m k=.ok v b->m.length=i):∀l H Q,tD K (aE F f) l H Q->mn (DH K i F) [] E0 (PX K f) l H Q:=λl H Q g=>by
 obtain⟨s,y,k,v,b,a,t,e,q⟩:=g;obtain⟨x,c,z,e⟩:=za e;refine⟨s,y,k,x,c,a,t,z,λd H1 u A h n=>?_⟩;show DH K i F (u++[]) H1 Q E0;rw[jy];exact⟨d,x,c,v,b,n,h,e,by rw[n.length];exact o _ _ _ _ e,λj r w p=>q j r w (A.trans p)⟩
end
theorem GM{X:Cx}(c:fI X.prog X.w X.K X.mg X.base x k ps F)(i:∀ f n v a,F f n=.ok v a->f.length=ps.length)(j:cg k X.A)(m:Gl X x)(h:DA X (e::es) g)(d:(x==("__debug__" : Str))=false:=by decide)
 (l:starEach (e::es) X.env=(false,eval e X.env)::starEach es X.env:=by rfl)(b:(backTo pos (starEach es X.env)).any (·.1)=false:=by rfl):
 DE X (.Call (.Name x p) (e::es) [] pos) (aE F g):=fw (Mw c j m h d l b) (GH i)
theorem BB{n np:Nat}{b:SS}{c:List D}{d a:aa}{v:D}(h:cB n np b c d=.ok v a):c.length=np:=by
 unfold cB at h;split at h
 ·assumption
 ·cases h
theorem ab.some{K:Fg}{c:Loc}{H:Hp}:∀{f:List D}{g:List V},ab K c H f g->cY K c H (f.map Option.some) (g.map Option.some)
 |_,_,.nil=>.nil
 |_,_,.cons a b=>.cons (λd e=>by cases e;exact⟨_,rfl,a⟩) (ab.some b)
theorem cY.append{K:Fg}{e:Loc}{H:Hp}:∀{a c:DS}{b d:L2.St},cY K e H a b->cY K e H c d->cY K e H (a++c) (b++d)
 |_,_,_,_,.nil,h=>h
 |_,_,_,_,.cons r t,h=>.cons r (cY.append t h)
theorem cY.nones{K:Fg}{a:Loc}{H:Hp}:∀n,cY K a H (List.replicate n none) (List.replicate n none)
 |0=>.nil
 |n+1=>.cons (λd e=>nomatch e) (cY.nones n)
theorem v0{K:Fg}{N:List Str}{np:Nat}{b:SS}{i:List V}{H:Hp}{Q:VK}{E:XK}(h:DH K np (cB N.length np b) i H Q E):DF K b {nx:=λ_ d=>Q .non d,rt:=Q} (L2.start N i) H:=by
 obtain⟨k,g,m,v,f,a,n,e,l,q⟩:=h;have o:g.length=np:=by rw[←a.length];exact l
 unfold cB at e;rw[if_pos o] at e;have j:cY K k H (g.map Option.some++List.replicate (N.length-np) none) (L2.start N i):=by
  unfold L2.start;rw[l];exact a.some.append (.nones _)
 refine⟨k,g.map Option.some++List.replicate (N.length-np) none,m,?_⟩;cases hr:b (g.map Option.some++List.replicate (N.length-np) none) m with
 |stuck=>rw[hr] at e;cases e
 |exc z w=>rw[hr] at e;cases e
 |ok fl st1=>
  rw[hr] at e;cases fl with
  |ret w=>
   dsimp only at e;cases e;exact⟨.ret v,f,j,n,rfl,λc d u x r t=>q c d u x r t⟩
  |nx σ=>
   dsimp only at e;cases e;exact⟨.nx σ,f,j,n,rfl,λc d p x r t=>q c d .non x r .non⟩
  |brk σ=>cases e
  |ct σ=>cases e
theorem IJ{P:Program}{w:World}{K:Fg}{o:Str->Option Value}{i h:Heap}{x:Str}{g:Stmt}{N l:List Str}{k:Nat}{b:SS}(T:ai K x g)(X:K.In h)(G:h.Ns mainGlobals o)(S:cb N l (ag g))
  (J:∀(kV m y:Value) (I:Option Addr) (d u:Value) (n:List Value),n.length=l.length->bindArgs (W.fnOf x x (cr g) (bq g) (ag g) .none kV m y I d u) ⟨n,[]⟩=pure (l.zip n))
  (j:∀(f:Addr) (d:Value) (A:Around) (c:List Env) (s:Shared) (H:Hp) (E:XK),cg k (A.deeper (envOfC x (ag g) s.heap.objs.size f d)) ->
   mM (gn jX P w K o i N x (ag g) f d A c s H E).nox (bq g) b):fI P w K o i x (k+1) l (cB N.length l.length b):=
 RH T X G S J (λt H Q E p=>by obtain⟨Y,U,g,v,C,a,rp,e,r,q⟩:=p;exact r) λf d A c s H t Q E z p=>⟨_,j f d A c s H E z,v0 p⟩
def i4(K:Fg):Sp:=λd H Q _=>∃(a:Addr) (b:List Int),d=[.ref a]/\cV K H a (b.map V.int)/\b.length<=63/\∀c,Q (.bl true) c
theorem Hs{P:Program}{w:World}{K:Fg}{G:Str->Option Value}{g:Heap}{p:Stmt}{N v:List Str}{k:Nat}{b:SS}{f:Addr}{C:FuncData}(F:o9 K "law" "law" p f C)(S:cb N v (ag p))(X:v.length=1)
  (l:∀(d:Value) (A:Around) (c:List Env) (s:Shared) (H:Hp) (E:XK),cg k (A.deeper (envOfC "law" (ag p) s.heap.objs.size f d)) ->
   mM (gn jX P w K G g N "law" (ag p) f d A c s H E).nox (bq p) b)
  (holds:∀i:List Int,i.length<=63->∃j,cB N.length 1 b [.scr (i.map .int)] []=.ok (.bl true) j):gL P w K G g jX (k+1) f C v (i4 K):=by
 refine F.ok S (λvs H Q E y=>?_) (λd A c s H vs Q E I y=>⟨_,l d A c s H E I,?_⟩)
 ·obtain⟨a,i,rfl,_⟩:=y;exact X.symm
 ·obtain⟨a,i,rfl,Y,U,q⟩:=y;obtain⟨j,e⟩:=holds i U;refine v0 (np:=1) (E:=E) ⟨⟨[],[]⟩,[.scr (i.map .int)],[],_,j,.cons (.scr ?_ (u8 i)) .nil,⟨rfl,λn m a e _=>by simp at e,λn a o e _=>by simp at e,λa h=>(by cases h),λn o e _=>by simp at e⟩,e,rfl,λJ z u x r t=>?_⟩
  ·rcases Y with h|h
   ·exact .inl ⟨h,by simp[dZ]⟩
   ·exact .inr λz=>.inr h
  ·cases t;exact q z
end Dd
namespace Dd
open L2
def fA:D->aa->bv D:=λx a=>match x with
 |.int i=>.ok (.int (-i)) a
 |_=>.stuck
def fR:SS:=λ_ _=>.stuck
def jp(c:aa):D->Option Bool
 |.non=>some false
 |.bl b=>some b
 |.int i=>some (i != 0)
 |.tup a=>some !a.isEmpty
 |d=>(eS c d).map λa=>!a.isEmpty
def cM(f:SE):ST:=λc d=>(f c d).bind λv a=>match jp a v with
 |some b=>.ok b a
 |none=>.stuck
theorem SH{K:Fg}(h:ab K ρ H ds vs):ds.isEmpty=vs.isEmpty:=by
 cases h<;>rfl
theorem Iz{K:Fg}(h:bY K ρ au H) (a:At K ρ H d u)(e:jp au d=some b):sA K u H b:=by
 unfold jp at e;split at e
 ·cases a;cases e;exact rfl
 ·cases a;cases e;exact rfl
 ·cases a;cases e;exact rfl
 ·cases e;cases a with
  |tup c f h3=>exact .inr (.inl ⟨_,cx.of c,by rw[SH h3]⟩)
 ·obtain⟨i,g,rfl⟩:=jE.mp e;obtain⟨p,j,rfl,c,f⟩:=jZ h a g;exact .inl ⟨_,cV.of c,by rw[SH f]⟩
theorem FQ(h:DE X a f):DE X (.UnaryOp .USub a pos) (kr fA f):=fw (Gk IC h) λs H Q c=>by
 obtain⟨l,p,n,v,k,b,o,e,q⟩:=c;obtain⟨x,g,m,e⟩:=za e;refine⟨l,p,n,x,g,b,o,m,λi H1 u r d j=>?_⟩;cases x<;>try (cases e;done)
 cases e;cases j;exact⟨_,rfl,q _ _ _ r d (.int _)⟩
theorem Lx(l:dq X (compareOp op) r)(e:dq X (compareOp op') r')(k:gU X.K g r)(d:gU X.K g' r')(j:DE X a f)(i:DE X b f')(m:DE X c f'')
 (n:lastMarks [op,op'] [b,c]=false:=by with_unfolding_all rfl):DT X (.Compare a [op,op'] [b,c] pos) (eB (gG g g' f f' f'')):=kO (MN l e j i m n) λo H Q h=>IM k d _ _ _ (se _ _ _ h)
theorem Lp:jr X sm fR:=λj s i H E I ⟨d,c,g,f,b,a,h,e,q⟩=>by cases e
theorem G7(h:DE X a f)(m:∀b,isTrue a X.env b=(do let v ←b;standAt a.pos;holding [v] (truthy v)):=by intro _;rfl):DT X a (cM f):=kO (Rk h m) λz H Q g=>by
 obtain⟨n,t,r,v,o,d,s,e,q⟩:=g;obtain⟨x,i,p,e⟩:=za e;refine⟨n,t,r,x,i,d,s,p,λk H1 u w c l=>?_⟩;split at e
 ·rename_i y j;cases e;exact⟨_,Iz c l j,q _ _ w c⟩
 ·cases e
end Dd
namespace Dd
open Spec PyProof.Rows L2
noncomputable def gm:Int->List D->List D
 |_,[]=>[]
 |n,x::xs=>.tup [.int n,x]::gm (n+1) xs
def ja(f:SE):SA:=λb c=>(f b c).bind λx a=>match x with
 |.tup xs=>.ok (gm 1 xs) a
 |_=>.stuck
theorem EI:∀{a:List D}{n:Int}{i:Nat}{d:D},(gm n a)[i]?=some d->∃x,a[i]?=some x/\d=.tup [.int (n+i),x]
 |[],_,_,_,h=>by simp[gm] at h
 |x::a,n,0,d,h=>by
  simp[gm] at h;exact⟨x,rfl,by rw[←h];simp⟩
 |x::a,n,i+1,d,h=>by
  simp only[gm,yT] at h;obtain⟨y,b,c⟩:=EI h;exact⟨y,by simpa using b,by rw[c];congr 3;push_cast;lia⟩
theorem Cr:∀{xs:List D}{n:Int},(gm n xs).length=xs.length
 |[],_=>rfl
 |_::xs,n=>by simp[gm,Cr (xs:=xs)]
theorem Lk(Q:Gl X "enumerate")(hm:X.mg "enumerate"=none)(A:DE X l f)(he:starEach [l] X.env=[(false,eval l X.env)]:=by rfl):
  DI X (.Tuple elts k tpos) (.Call (.Name "enumerate" p) [l] [⟨some "start",.Constant (.int 1) j cpos,kpos⟩] pos) (ja f):=nR (MF Q hm A he) λτ H R g=>by
 obtain⟨P,Y,t,xs,S,a,U,e,q⟩:=g;obtain⟨x,n,e1,e⟩:=za e;refine⟨P,Y,t,x,n,a,U,e1,λw H1 u x1 m a1=>?_⟩;split at e
 ·rename_i ys;cases e;cases a1 with
  |tup h1 h2 h3=>
   refine⟨_,rfl,⟨_,cx.of h1⟩,q _ _ _ x1 m ⟨λo H2 c i d e=>?_,λo H2 c i h=>?_⟩⟩
   ·obtain⟨z,C,rfl⟩:=EI e;obtain⟨v,s,G⟩:=h3.get C;refine⟨⟨_,v,cx.of (c.out h1 h2).1,s⟩,λy H3 I=>?_⟩;obtain⟨p,r,rfl,J⟩:=I;rw[J _ _ (cx.of (c.out h1 h2).1) s];refine⟨bx.new r _,λt b=>⟨b.new r _,?_⟩⟩;have E:(1:Int)+(i:Int)=((i+1:Nat):Int):=by push_cast;lia
    rw[E];exact At.newT b r (.cons (.int _) (.cons (G.extG c) .nil))
   ·rw[Cr] at h;exact⟨_,cx.of (c.out h1 h2).1,by rw[h3.length];exact h⟩
 ·cases e
end Dd
namespace Dd
open L2
def Qq:List D->aa->bv D:=λb a=>match b with
 |[.int i]=>.ok (.int i) a
 |[.bl k]=>.ok (.int (if k then 1 else 0)) a
 |_=>.stuck
def mJ(g:SA) (k:Nat) (is:List Nat) (j:SG) (c:ST) (f:SE):SE:=λe i=>(g e i).bind λd b=>if d.length<=sizeLine then(bo j c f d (aT k is e) b).bind λh a=>.ok (.ref a.length) (a++[.lst h]) else .stuck
noncomputable def fh:Expr->Bool
 |.Starred _ _=>false
 |_=>true
theorem SU(h:fh e=true):starEach (e::es) env=(false,eval e env)::starEach es env:=by
 cases e<;>first|rfl|cases h
theorem Lh(b:DE X e f)(c:DA X es g)(a:fh e=true:=by rfl):DA X (e::es) (aB f g):=IX b c (SU a)
def qc(c:Bool):List D->aa->bv D:=λb a=>match b with
 |[x]=>match (cP a x).bind bN with
  |some (n::ns)=>.ok (.int (cH c n ns)) a
  |_=>.stuck
 |_=>.stuck
noncomputable def jK:List D->List D->List D
 |x::xs,y::ys=>.tup [x,y]::jK xs ys
 |_,_=>[]
def qa(g:SA):SA:=λd f=>(g d f).bind λe c=>match e with
 |[.tup a,.tup b]=>.ok (jK a b) c
 |_=>.stuck
def i5(c:SG) (f:SE):SS:=λb d=>(f b d).bind λv a=>match c v b with
 |some σ1=>.ok (.nx σ1) a
 |none=>.stuck
theorem Jk{b:Pos}(w:DE X e f)(o:DG X tg bd)(k:swapsWithSole [tg] e b.line X.env=pure false:=by rfl)(m:swappedStores [tg] e X.env=pure none:=by rfl)
  (y:(assignEach [tg] X.env).map (·.2)=[assign tg X.env]:=by rfl):jr X (.Assign [tg] e b) (i5 bd f):=
 lq (wL w o k m y) λE C H d=>by
 obtain⟨n,i,r,A,p,a,s,e,q⟩:=d;obtain⟨v,h,x,e⟩:=za e;refine⟨n,i,r,v,h,a,s,x,λc H1 u j g t=>?_⟩;cases hb:bd v i with
 |none=>rw[hb] at e;cases e
 |some σ1=>
  rw[hb] at e;cases e;exact⟨c,i,v,σ1,a.ext j,t,hb,λl z=>q _ _ _ j g z⟩
end Dd
namespace Dd
open L2 PyProof.Rows
structure JE (X:Cx) (e:Expr) (f:SE):Prop where out:DE X e f
structure JT (X:Cx) (e:Expr) (f:ST):Prop where out:DT X e f
structure JW (X:Cx) (e:Expr) (f:ST):Prop where out:DW X e f
structure JA (X:Cx) (e:List Expr) (f:SA):Prop where out:DA X e f
structure JS (X:Cx) (s:Stmt) (f:SS):Prop where out:jr X s f
structure JB (X:Cx) (s:List Stmt) (f:SS):Prop where out:mM X s f
structure JO (X:Cx) (e:Option Expr) (f:DS->aa->bv (Option Int)):Prop where out:DO X e f
structure JG (X:Cx) (e:Expr) (b:SG):Prop where out:DG X e b
structure DQ (X:Cx) (e:List Expr) (b:List D->DS->Option DS):Prop where out:Bu X e b
structure JI (X:Cx) (tg iter:Expr) (f:SA):Prop where out:DI X tg iter f
structure DP (X:Cx) (ifs:List Expr) (c:ST):Prop where out:nm X ifs (nl X.K c)
structure JC (X:Cx) (op:CmpOp) (a b:Expr) (f:SE):Prop where out:PC X op a b (tD X.K f)
theorem JW.pt(h:JW X e t):JT X e t:=⟨PW.pt h.out⟩
theorem iM(h:PE X e (oH i)):JE X e (aA i):=⟨FX h⟩
theorem pd(h:PE X e (tC v))(k:∀a H,At X.K a H d v):JE X e (eC d):=⟨nK h k⟩
theorem zf{i j pos}:JE X (.Constant (.int i) j pos) (eC (.int i)):=⟨FO⟩
theorem kJ{b j pos}:JE X (.Constant (.bool b) j pos) (eC (.bl b)):=⟨Qo⟩
theorem qO{j pos}:JE X (.Constant .none j pos) (eC .non):=⟨FR⟩
theorem eK(c:dq X (binaryOp op) r)(h:gU X.K g r)(e:JE X a f)(d:JE X b f'):JE X (.BinOp a op b pos) (aS g f f'):=⟨Qk c h e.out d.out⟩
theorem nX(h:dq X (compareOp op) r)(e:gU X.K g r)(d:JE X a f)(c:JE X b f')(i:behindInMarks op b=false):JE X (.Compare a [op] [b] pos) (aS g f f'):=⟨FM h e d.out c.out i⟩
theorem fN(h:dq X (compareOp op) r)(e:gU X.K g r)(d:JE X a f)(c:JE X b f')(i:behindInMarks op b=false):JT X (.Compare a [op] [b] pos) (eB (aS g f f')):=⟨G4 h e d.out c.out i⟩
theorem nY{op}(h:JE X a f):JE X (.BoolOp op [a] pos) f:=⟨FT h.out⟩
section
variable {X:Cx}{a:Expr}{b:Expr}{rest:List Expr}{f:SE}{f':SE}{pos:Pos}
theorem uB(d:JE X a f)(c:JE X (.BoolOp .And (b::rest) pos) f'):JE X (.BoolOp .And (a::b::rest) pos) (iH f f'):=⟨FL d.out c.out⟩
end
theorem qP(b:JE X a f):JE X (.UnaryOp .Not a pos) (lh f):=⟨FS b.out⟩
theorem sR{op}(h:JT X a t)(b:op=.And\/op=.Or):JW X (.BoolOp op [a] pos) t:=⟨G9 h.out b⟩
section
variable {X:Cx}{a:Expr}{b:Expr}{rest:List Expr}{t:ST}{t':ST}{pos:Pos}
theorem xn(d:JT X a t)(c:JW X (.BoolOp .And (b::rest) pos) t'):JW X (.BoolOp .And (a::b::rest) pos) (jQ t t'):=⟨G8 d.out c.out⟩
end
section
variable {X:Cx}{a:Expr}{b:Expr}{rest:List Expr}{t:ST}{t':ST}{pos:Pos}
theorem nZ(d:JT X a t)(c:JW X (.BoolOp .Or (b::rest) pos) t'):JW X (.BoolOp .Or (a::b::rest) pos) (qb t t'):=⟨F0 d.out c.out⟩
end
theorem mT(b:JT X a t):JT X (.UnaryOp .Not a pos) (fG t):=⟨G6 b.out⟩
theorem vH(d:JT X c t)(g:JE X a f)(e:JE X b f'):JE X (.IfExp c a b pos) (uw t f f'):=⟨Qm d.out g.out e.out⟩
theorem iP:JA X [] aC:=⟨GV⟩
theorem gV{x1}(h:JA X es g):JE X (.Tuple es x1 pos) (aR g):=⟨FW h.out⟩
theorem nr(h:JA X es g):JE X (.List es pos) (dU g):=⟨FP h.out⟩
theorem mS(h:JA X es g):JE X (.List es pos) (de g):=⟨GS h.out⟩
theorem u4:JO X none dv:=⟨Jd⟩
theorem u6(a:JE X e f):JO X (some e) (dr f):=⟨Je a.out⟩
theorem gf(d:JE X a f)(c:JE X b f')(e:iK b):JE X (.Subscript a b pos) (aS cF f f'):=⟨Ql d.out c.out e⟩
section
variable {X:Cx}{e:Expr}{f:SE}{pos:Pos}{lo:Option Expr}{hi:Option Expr}{l:DS->aa->bv (Option Int)}{h:DS->aa->bv (Option Int)}
theorem lV{b:Pos}(d:JE X e f)(a:JO X lo l)(c:JO X hi h):JE X (.Subscript e (.Slice lo hi none b) pos) (kt f l h):=⟨Qj d.out a.out c.out⟩
end
theorem zg{x:Str}{id:String}(m:bE X (.builtin id) r)(h:ji X.K g r)(k:Gl X x)(l:X.mg x=none)(i:bootBuiltins x=some (.builtin id))(c:JA X (e::es) f)(d:x≠"__name__":=by decide)(b:(x==("__debug__" : Str))=false:=by decide)(j:starEach (e::es) X.env=(false,eval e X.env)::starEach es X.env:=by rfl)(a:(backTo pos (starEach es X.env)).any (·.1)=false:=by rfl):JE X (.Call (.Name x p) (e::es) [] pos) (aE g f):=⟨IS m h k l i c.out d b j a⟩
theorem mW{T:String}(m:bE X (.type T) r)(h:ji X.K g r)(k:Gl X x)(l:X.mg x=none)(i:bootBuiltins x=some (.type T))(c:JA X (e::es) f)(d:x≠"__name__":=by decide)(b:(x==("__debug__" : Str))=false:=by decide)(j:starEach (e::es) X.env=(false,eval e X.env)::starEach es X.env:=by rfl)(a:(backTo pos (starEach es X.env)).any (·.1)=false:=by rfl):JE X (.Call (.Name x p) (e::es) [] pos) (aE g f):=⟨Lc m h k l i c.out d b j a⟩
theorem uK:JE X (.Dict [] [] pos) eX:=⟨GP⟩
theorem wI{X:Cx}(a:X.A.units+1<cLine)(b:JE X i g)(c:JE X o f):JC X .In i o (aS (iB false) g f):=⟨Gg a b.out c.out⟩
theorem FN(h:JC X op a b t)(c:behindInMarks op b=false:=by first|exact nobehind _ (by decide) (by decide)|rfl):JE X (.Compare a [op] [b] pos) t:=⟨sj h.out c⟩
theorem G5(h:JC X op a b t)(c:behindInMarks op b=false:=by first|exact nobehind _ (by decide) (by decide)|rfl):JT X (.Compare a [op] [b] pos) (eB t):=⟨FZ h.out c⟩
theorem IU{X:Cx}(b:X.A.units+1<cLine)(a:JE X o f)(d:JE X i g)(c:o4 i):JE X (.Subscript o i pos) (aS eW f g):=⟨GO b a.out d.out c⟩
theorem Ld{X:Cx}(b:X.A.units + 1<cLine)(d:JE X o f)(c:JE X e g)(a:JE X f' h)(m:M2 X o "get" apos e f' cpos):JE X (.Call (.Attribute o "get" apos) [e,f'] [] cpos) (iG f g h):=⟨IT b d.out c.out a.out m⟩
theorem IV{X:Cx}(a:X.A.units + 1<cLine)(c:JE X o f)(b:JE X e g)(m:M1 X o "pop" apos e cpos):JE X (.Call (.Attribute o "pop" apos) [e] [] cpos) (kx f g):=⟨GQ a c.out b.out m⟩
theorem EA{X:Cx}{a:Pos}(e:X.A.units+1<cLine)(j:JE X o f)(c:JE X i g)(b:JE X value h)(d:swapsWith value (some (.Subscript o i pos')) a.line X.env=pure false):JS X (.Assign [.Subscript o i pos'] value a) (f6 f g h):=⟨Jh e j.out c.out b.out d⟩
theorem tE{b:Pos}(j:JE X o f)(h:JA X (e::es) ga)(d:attributeBase o "append" X.env (eval o X.env)=eval o X.env:=by rfl)(g:((backTo cpos (starEach (e::es) X.env)).all (λx=>!x.1)&&(backToKw cpos (keywordEach [] X.env)).all (λx=>x.1.isSome)
 && decide ((e::es).length + ([]:List Keyword).length + (if([]:List Keyword).isEmpty then 0 else 1)<30))=true:=by rfl) (c:(b.endLine==cpos.line)=true:=by rfl) (i:starEach (e::es) X.env=(false,eval e X.env)::starEach es X.env:=by rfl) (a:(backTo cpos (starEach es X.env)).any (·.1)=false:=by rfl):JE X (.Call (.Attribute o "append" b) (e::es) [] cpos) (cq f ga):=⟨Lb j.out h.out d g c i a⟩
theorem EV{b:Pos}(j:JE X o f)(h:JA X (e::es) ga)(d:attributeBase o "extend" X.env (eval o X.env)=eval o X.env:=by rfl)(g:((backTo cpos (starEach (e::es) X.env)).all (λx=>!x.1)&&(backToKw cpos (keywordEach [] X.env)).all (λx=>x.1.isSome)
 && decide ((e::es).length + ([]:List Keyword).length + (if([]:List Keyword).isEmpty then 0 else 1)<30))=true:=by rfl) (c:(b.endLine==cpos.line)=true:=by rfl) (i:starEach (e::es) X.env=(false,eval e X.env)::starEach es X.env:=by rfl) (a:(backTo cpos (starEach es X.env)).any (·.1)=false:=by rfl):JE X (.Call (.Attribute o "extend" b) (e::es) [] cpos) (eh f ga):=⟨Lf j.out h.out d g c i a⟩
theorem kK(a:JE X o f):JE X o (mI f):=⟨Qn a.out⟩
theorem gs:JB X [] eV:=⟨G0⟩
theorem Nz:JS X (.Break pos) mr:=⟨Lo⟩
theorem zk(a:JE X e f):JS X (.Return (some e) pos) (aW f):=⟨G2 a.out⟩
theorem iQ{a:Pos}(b:JE X e f)(c:swapsWith e none a.line X.env=pure false:=by rfl):JS X (.Expr e a) (bR f):=⟨Ji b.out c⟩
theorem Bz{X:Cx}{a:Pos}(b:X.N.Nodup)(d:X.N[i]?=some x)(h:L2.Loc X.env.scope x)(c:JE X e f)(g:swapsWith e (some (.Name x pos')) a.line X.env=pure false:=by rfl)(j:X.fn x=true\/X.env.scope.names.lookup x=some .local:=by first|exact .inl rfl|exact .inr rfl|assumption):JS X (.Assign [.Name x pos'] e a) (aF i f):=⟨G3 b d h c.out g j⟩
theorem zd(a:JS X sm s):JB X [sm] s:=⟨G1 a.out⟩
section
variable {X:Cx}{sm:Stmt}{rest:List Stmt}{s:SS}{t:SS}
theorem zb(a:JS X sm s)(b:JB X rest t):JB X (sm::rest) (aD s t):=⟨Jg a.out b.out⟩
end
theorem gi(a:JT X c b)(e:JB X a' s)(d:JB X b' t):JS X (.If c a' b' pos) (eH b s t):=⟨FY a.out e.out d.out⟩
theorem xk{X:Cx}(a:X.N.Nodup)(d:X.N[i]?=some x)(h:L2.Loc X.env.scope x)(c:JE X e f)(j:AX X op ti)(b:QA X.K g ti)(k:X.fn x=true\/X.env.scope.names.lookup x=some .local:=by first|exact .inl rfl|exact .inr rfl|assumption):JS X (.AugAssign (.Name x pos') op e pos) (jI i g f):=⟨GY a d h c.out j b k⟩
theorem RO{a:Pos}(c:JE X value h)(k:JE X o f)(d:JE X i g)(b:∀v,assign (.Subscript o i pos') X.env v=(do
 let ov ←holding [v] (eval o X.env)
 let iv ←holding [v,ov] (eval i X.env)
 standAt pos'
 holding [v,ov,iv] (setItem ov iv v)
 release [v,ov,iv] []):=by intro _;rfl) (e:swapsWithSole [.Subscript o i pos'] value a.line X.env=pure false:=by rfl) (j:swappedStores [.Subscript o i pos'] value X.env=pure none:=by rfl) (l:(assignEach [.Subscript o i pos'] X.env).map (·.2)=[assign (.Subscript o i pos') X.env]:=by rfl):JS X (.Assign [.Subscript o i pos'] value a) (ff f g h):=⟨Lu c.out k.out d.out b e j l⟩
theorem iX{X:Cx}(c:X.N.Nodup)(d:X.N[i]?=some x)(a:L2.Loc X.env.scope x)(b:X.fn x=true\/X.env.scope.names.lookup x=some .local:=by first|exact .inl rfl|exact .inr rfl|assumption):JG X (.Name x pos) (gN i):=⟨IY c d a b⟩
theorem qt:DQ X [] dA:=⟨IZ⟩
theorem j4(a:JG X e t)(b:DQ X es u)(c:(assignEach (e::es) X.env).map (·.2)=assign e X.env::(assignEach es X.env).map (·.2):=by rfl):DQ X (e::es) (bf t u):=⟨Li a.out b.out c⟩
theorem qo{X:Cx}(b:X.calm=true)(h:DQ X es u)(c:(assignEach es X.env).length=n:=by rfl)(a:(assignEach es X.env).findIdx? (·.1)=none:=by rfl):JG X (.Tuple es k pos) (gT n u):=⟨GW b h.out c a⟩
theorem fo(a:JE X l f):JI X tg l (aH f):=⟨GX a.out⟩
theorem lC(b:Gl X "range")(e:X.mg "range"=none)(c:JA X [a] g)(d:starEach [a] X.env=[(false,eval a X.env)]:=by rfl):JI X tg (.Call (.Name "range" p) [a] [] pos) (h7 g):=⟨Nw b e c.out d⟩
theorem Lj(a:JE X l f):JI X tg l (h8 f):=⟨I0 a.out⟩
theorem xm{X:Cx}(f:PassesOwn (model X.prog X.w) X.A X.env X.xe)(g:X.calm=true)(c:JI X tg iter it)(e:JG X tg bd)(a:JB X body b)(d:∀x,foldedSetIterable iter X.env x=pure x:=by intro _;rfl):JS X (.For tg iter body [] pos) (bP it bd b):=⟨GZ f g c.out e.out a.out d⟩
theorem B8{X:Cx}(e:PassesOwn (model X.prog X.w) X.A X.env X.xe)(a:JT X c t)(d:JB X body b):JS X (.While c body [] pos) (dE t b):=⟨Lw e a.out d.out⟩
theorem mR{X:Cx}{N:List Str}(d:X.calm=true)(g:JI X tg iter it)(i:∀b C a s H,JG (eY X N scope b C a s H) tg bd)(j:∀b C a s H,DP (eY X N scope b C a s H) ifs c)(e:∀b C a s H,JE (eY X N scope b C a s H) elt f)(S:bA X N k is scope)(h:∀x,foldedSetIterable iter X.env x=pure x:=by intro _;rfl):JE X (.ListComp elt [⟨tg,iter,ifs,0⟩] scope pos) (aG it k is bd c f):=⟨GN d g.out (λb C a s H=>(i b C a s H).out) (λb C a s H=>(j b C a s H).out) (λb C a s H=>(e b C a s H).out) S h⟩
theorem EB{X:Cx}{N:List Str}{d:Pos}(e:X.calm=true)(j:X.N.Nodup)(h:X.N[i]?=some x)(o:L2.Loc X.env.scope x)(m:JI X tg iter it)(p:∀b C a s H,JG (eY X N scope b C a s H) tg bd)(q:∀b C a s H,DP (eY X N scope b C a s H) ifs c)(l:∀b C a s H,JE (eY X N scope b C a s H) elt f)(S:bA X N k is scope)(g:swapsWith (.ListComp elt [⟨tg,iter,ifs,0⟩] scope pos) (some (.Name x pos')) d.line X.env=pure true:=by rfl)(r:X.fn x=true\/X.env.scope.names.lookup x=some .local:=by first|exact .inl rfl|exact .inr rfl|assumption)(n:∀x,foldedSetIterable iter X.env x=pure x:=by intro _;rfl):JS X (.Assign [.Name x pos'] (.ListComp elt [⟨tg,iter,ifs,0⟩] scope pos) d) (aF i (aG it k is bd c f)):=⟨Jj e j h o m.out (λb C a s H=>(p b C a s H).out) (λb C a s H=>(q b C a s H).out) (λb C a s H=>(l b C a s H).out) S g r n⟩
theorem BS:DP X [] aI:=⟨Ja⟩
theorem nC(h:JT X c t):DP X [c] t:=⟨Jb h.out⟩
theorem By{X:Cx}(c:fI X.prog X.w X.K X.mg X.base x k ps F)(i:∀ f n v a,F f n=.ok v a->f.length=ps.length)(j:cg k X.A)(m:Gl X x)(h:JA X (e::es) g)(d:(x==("__debug__" : Str))=false:=by decide)(l:starEach (e::es) X.env=(false,eval e X.env)::starEach es X.env:=by rfl)(b:(backTo pos (starEach es X.env)).any (·.1)=false:=by rfl):JE X (.Call (.Name x p) (e::es) [] pos) (aE F g):=⟨GM c i j m h.out d l b⟩
theorem QH{P:Program}{w:World}{K:Fg}{m:Str->Option Value}{d h:Heap}{x:Str}{e:Stmt}{N i:List Str}{k:Nat}{b:SS}(T:ai K x e)(X:K.In h)(G:h.Ns mainGlobals m)(S:cb N i (ag e))(r:∀(kV l n:Value) (o:Option Addr) (c q:Value) (j:List Value),j.length=i.length->bindArgs (W.fnOf x x (cr e) (bq e) (ag e) .none kV l n o c q) ⟨j,[]⟩=pure (i.zip j))(g:∀(f:Addr) (c:Value) (A:Around) (a:List Env) (s:Shared) (H:Hp) (E:XK),cg k (A.deeper (envOfC x (ag e) s.heap.objs.size f c)) ->
 JB (gn jX P w K m d N x (ag e) f c A a s H E).nox (bq e) b):fI P w K m d x (k+1) i (cB N.length i.length b):=IJ T X G S r (λf c A a s H E p=>(g f c A a s H E p).out)
theorem Jx{P:Program}{w:World}{K:Fg}{m:Str->Option Value}{d:Heap}{g:Stmt}{N i:List Str}{k:Nat}{b:SS}{f:Addr}{l:FuncData}(F:o9 K "law" "law" g f l)(S:cb N i (ag g))(o:i.length=1)(e:∀(c:Value) (A:Around) (a:List Env) (s:Shared) (H:Hp) (E:XK),cg k (A.deeper (envOfC "law" (ag g) s.heap.objs.size f c)) ->
 JB (gn jX P w K m d N "law" (ag g) f c A a s H E).nox (bq g) b) (holds:∀ j:List Int,j.length<=63->∃ h,cB N.length 1 b [.scr (j.map .int)] []=.ok (.bl true) h):gL P w K m d jX (k + 1) f l i (i4 K):=Hs F S o (λc A a s H E n=>(e c A a s H E n).out) holds
theorem uC(h:JE X a f):JE X (.UnaryOp .USub a pos) (kr fA f):=⟨FQ h.out⟩
theorem NA(k:dq X (compareOp op) r)(e:dq X (compareOp op') r')(j:gU X.K g r)(d:gU X.K g' r')(i:JE X a f)(h:JE X b f')(l:JE X c f'')(m:lastMarks [op,op'] [b,c]=false:=by with_unfolding_all rfl):JT X (.Compare a [op,op'] [b,c] pos) (eB (gG g g' f f' f'')):=⟨Lx k e j d i.out h.out l.out m⟩
theorem B7:JS X sm fR:=⟨Lp⟩
theorem jj(h:JE X a f)(c:∀b,isTrue a X.env b=(do let v ←b;standAt a.pos;holding [v] (truthy v)):=by intro _;rfl):JT X a (cM f):=⟨G7 h.out c⟩
theorem Nv(a:Gl X "enumerate")(d:X.mg "enumerate"=none)(b:JE X l f)(c:starEach [l] X.env=[(false,eval l X.env)]:=by rfl):JI X (.Tuple elts k tpos) (.Call (.Name "enumerate" p) [l] [⟨some "start",.Constant (.int 1) j cpos,kpos⟩] pos) (ja f):=⟨Lk a d b.out c⟩
theorem zq(b:JE X e f)(c:JA X es g)(a:fh e=true:=by rfl):JA X (e::es) (aB f g):=⟨Lh b.out c.out a⟩
theorem Lq{a:Pos}(b:JE X e f)(d:JG X tg bd)(c:swapsWithSole [tg] e a.line X.env=pure false:=by rfl)(g:swappedStores [tg] e X.env=pure none:=by rfl)(h:(assignEach [tg] X.env).map (·.2)=[assign tg X.env]:=by rfl):JS X (.Assign [tg] e a) (i5 bd f):=⟨Jk b.out d.out c g h⟩
end Dd
namespace L2
open Spec PyProof.Rows
section
open AutoSeq1
end
end L2
namespace Dd
open L2
end Dd
namespace L2
open Spec PyProof.Rows
end L2
namespace Dd
open L2 PyProof.Rows
end Dd
namespace L2
open Spec PyProof.Rows
def zO(K:Fg) (b:Bool):R2:=λx c H Q=>∃d p a,kC K H x d/\kC K H c p/\(p=.tuple a\/p=.list a)/\PySem.SeqAt.shaped d=true/\PySem.SeqAt.shaped p=true/\Q (.bl (if b then !a.any λy=>PyData.eqv y d else a.any λy=>PyData.eqv y d)) H
theorem Ir(h:p=.tuple xs\/p=.list xs)(s:PySem.SeqAt.shaped p=true):PyData.canLayAll0 xs=true/\PyData.depthAll xs<=63:=by
 have:(PyData.canLayAll0 xs&&decide (PyData.depthAll xs+1<=64))=true:=by rcases h with rfl|rfl<;>exact s
 rw[jm] at this;exact⟨this.1,by have:=gP this.2;lia⟩
theorem x3(s:PySem.SeqAt.shaped d=true):d.canLay0=true:=by
 unfold PySem.SeqAt.shaped at s;rw[jm] at s;exact s.1
theorem HJ{X:Cx}(t:X.A.units+64<cLine):dq X (compareOp .In) (zO X.K false):=by
 intro A s z H x y v u Q I n k h;obtain⟨d,p,e,l,m,i,c,j,q⟩:=h;obtain⟨o,b⟩:=qv I l n;obtain⟨r,g⟩:=qv I m k;obtain⟨f,w⟩:=Ir i j;have a:X.A.units+1+min (PyData.depthAll e) d.depth<cLine:=by have:=rB (PyData.depthAll e) d.depth;lia
 rcases i with rfl|rfl
 ·exact SeqAt.in_tuple_reads g b f (x3 c) a ⟨.bl _,H,I,rfl,q⟩
 ·exact SeqAt.in_list_reads g b f (x3 c) a ⟨.bl _,H,I,rfl,q⟩
theorem VJ:fillsNumberSlot (.type "tuple") "mul"=pure false:=
 PySem.fillsNumberSlot_seq (id:="tuple.__mul__") (r:=some (.builtin "tuple.__rmul__")) yC.lookup (by decide +kernel) F.slot_tuple_rmul.lookup (by decide +kernel)
theorem Kw:seqRepeat? (.type "tuple")=pure (some (.builtin "tuple.__mul__")):=by
 unfold seqRepeat?;rw[PySem.seqSlot_of (T:="tuple") (name:="__mul__") (id:="tuple.__mul__") yC.lookup (by decide +kernel),PySem.seqSlot_of (T:="tuple") (name:="__rmul__") (id:="tuple.__rmul__") F.slot_tuple_rmul.lookup (by decide +kernel)]
 rfl
theorem MR(a:Int)(t:Tok)(l:Addr)(b:Array Value)(n:Nat)(e:Option Addr)(f:Array (Option Value)):
  Meets (Builtin.«int.__rmul__» ⟨[.int a t,.ref l],[]⟩) (λ_ R s=>s.heap.get? l=some { cls:=.type "tuple",dict:=e,data:=.seq b n,slots:=f }/\R (.ok (.ret Value.notImplemented)) s):=
 .of_wp λc w A R s h=>by
  obtain⟨j,g,d,k,os⟩:=s;obtain⟨i,h⟩:=h
  wp_walk
  exact⟨_,rfl,h⟩
theorem nb(h:b=false):decide (b=true)=false:=by rw[h];rfl
section
open AutoSeq1
variable (l:Addr)(items:Array Value)(n:Nat)(dd:Option Addr)(sl:Array (Option Value))(x:Int)(u:Tok)
theorem NY(lo:-1000000<=x)(b:x<=0)(c:items.isEmpty=false):
  Meets (Builtin.«tuple.__mul__» ⟨[.ref l,.int x u],[]⟩) (λ_ R s=>s.heap.get? l=some { cls:=.type "tuple",dict:=dd,data:=.seq items n,slots:=sl }/\R (.ok (.ret (.ref s.heap.objs.size))) { s with heap:=s.heap.push { cls:=.type "tuple",data:=.seq #[] } }):=
 .of_wp λa w A R s h=>by
  obtain⟨f,g,d,i,os⟩:=s;obtain⟨e,h⟩:=h
  wp_walk
  try
   refine oj ?c1 ?_
   case c1=>exact nb (by rw[uk];exact⟨cI (by lia),cI (by lia)⟩)
   wp_walk
  try
   refine oj ?c1 ?_
   case c1=>exact nb (by rw[uk];exact⟨c,beq_false_of_ne (by lia)⟩)
   wp_walk
  try
   refine wpAny_ite_true ?c1 ?_
   case c1=>exact yb (by rw[OM];exact .inl (cC b))
   wp_walk
  exact⟨_,rfl,h⟩
theorem Mc(b:x=1):
  Meets (Builtin.«tuple.__mul__» ⟨[.ref l,.int x u],[]⟩) (λ_ R s=>s.heap.get? l=some { cls:=.type "tuple",dict:=dd,data:=.seq items n,slots:=sl }/\R (.ok (.ret (.ref l))) s):=
 .of_wp λa w A R s h=>by
  obtain⟨e,g,d,f,os⟩:=s;obtain⟨c,h⟩:=h
  wp_walk
  try
   refine oj ?c1 ?_
   case c1=>exact nb (by rw[uk];exact⟨cI (by lia),cI (by lia)⟩)
   wp_walk
  try
   refine wpAny_ite_true ?c1 ?_
   case c1=>exact yb (by rw[OM];exact .inr (by rw[b];rfl))
   wp_walk
  exact⟨_,rfl,h⟩
theorem NX(k:2<=x)(j:x<=1000000)(e:items.isEmpty=false)(p:((items.size:Nat):Int)*x<=1000000)(i:Builtin.Tuple.tupleTooMany (((items.size:Nat):Int)*x)=false)
  (a:(List.foldl (λb c=>b++c) #[] (List.replicate x.toNat items)).size<=sizeLine):
  Meets (Builtin.«tuple.__mul__» ⟨[.ref l,.int x u],[]⟩) (λ_ R s=>s.heap.get? l=some { cls:=.type "tuple",dict:=dd,data:=.seq items n,slots:=sl }/\R (.ok (.ret (.ref s.heap.objs.size))) { s with heap:=s.heap.push { cls:=.type "tuple",data:=.seq (List.foldl (λb c=>b++c) #[] (List.replicate x.toNat items)) } }):=
 .of_wp λf w A R s h=>by
  obtain⟨o,g,d,q,os⟩:=s;obtain⟨m,h⟩:=h
  wp_walk
  try
   refine oj ?c1 ?_
   case c1=>exact nb (by rw[uk];exact⟨cI (by lia),cI (by lia)⟩)
   wp_walk
  try
   refine oj ?c1 ?_
   case c1=>exact nb (by rw[uk];exact⟨e,beq_false_of_ne (by lia)⟩)
   wp_walk
  try
   refine oj ?c1 ?_
   case c1=>exact nb (by rw[uk];exact⟨cI (by lia),e⟩)
   wp_walk
  try
   refine oj ?c1 ?_
   case c1=>exact cI (by lia)
   wp_walk
  try
   refine oj ?c1 ?_
   case c1=>exact nb i
   wp_walk
  try (refine oj (cI (Nat.not_lt.mpr a)) ?_;wp_walk)
  exact⟨_,rfl,h⟩
end
noncomputable def dD{α:Type}(a:List α) (n:Int):List α:=(List.replicate n.toNat a).flatten
theorem SD{b:Type}(a:List b):∀(n:Nat) (acc:List b),(List.foldl (λ(d c:Array b)=>d++c) acc.toArray (List.replicate n a.toArray))=(acc++(List.replicate n a).flatten).toArray
 |0,acc=>by simp
 |n+1,acc=>by
  rw[pQ,lE,pQ,uc,←eE,←SD a n (acc++a)]
  congr 1
  simp
theorem am.times(r:am xs us):∀n:Nat,am (List.replicate n xs).flatten (List.replicate n us).flatten
 |0=>.nil
 |n+1=>by
  rw[pQ,uc,pQ,uc];exact r.append (am.times r n)
def p5(K:Fg):R2:=λx y H Q=>∃t a n,x=.ref t/\y=.int n/\cx K H t a/\a≠[]/\-1000000<=n/\n<=1000000/\(a.length:Int)*n<=1000000/\(n=1->Q (.ref t) H)/\(n≠1->∀p,H p=none->Q (.ref p) (aZ H p (.tup (dD a n))))
theorem E7{b:Type}(a:List b):∀n:Nat,(List.replicate n a).flatten.length=n*a.length
 |0=>by simp
 |n+1=>by rw[pQ,uc,cJ,E7 a n,rk];lia
theorem BH:dq X (binaryOp .Mult) (p5 X.K):=by
 intro aU s σ H x y v u Q I r1 r2 h;obtain⟨t,f,n,rfl,rfl,ht,ne,lo,Y,hz,q1,q2⟩:=h;cases r1;obtain⟨g,rfl⟩:=r2;obtain⟨d,r,⟨o,e,G,m,J⟩,z⟩:=I.tuple ht;obtain⟨cls,w,data,C⟩:=o;dsimp only at G J;subst G J;have q:=r.length;have i:d.toArray.isEmpty=false:=by
  cases d with
  |nil=>cases r;exact absurd rfl ne
  |cons a l=>rfl
 have k:∀{E:Value->Shared->Prop},wpAny (model X.prog X.w) X.A (call (.builtin "tuple.__mul__") [.ref t,.int n g]) E X.xe s->wpAny (model X.prog X.w) X.A (binaryOp .Mult (.ref t) (.int n g)) E X.xe s:=λ{E} hq=>
  wpAny_binaryOp_repeat_ref (T:="tuple") (U:="int") (by decide) ⟨_,e,rfl⟩ (λs'=>typeIs_int s' n g) VJ F.fills_int_mul F.slot_int_rmul Kw F.slot_int_index.lookup
   (rh F.slot_int_rmul (typeIs_int s n g) F.entry_int_rmul (F.args_int_rmul_2 _ _) (MR n g t d.toArray m w C) ⟨e,rfl,⟨_,e,rfl⟩,hq⟩)
 refine k ?_;by_cases c:n=1
 ·exact rh yC ⟨_,e,rfl⟩ O2 (Pa _ _) (Mc t d.toArray m w C n g c) ⟨e,.ref t,H,I,rfl,q1 c⟩
 have done:∀ A:List Value,am (dD f n) A->(dD f n).length<=sizeLine->EP X aU σ Q (.ref s.heap.objs.size) { s with heap:=s.heap.push { cls:=.type "tuple",data:=.seq A.toArray } }:=λA rt hl=>
  ⟨.ref s.heap.objs.size,_,I.laid (t':=s.toks) (o:=.tup (dD f n)) (λb ob hb=>dC _ hb) (bj _) ⟨hl,A,rt,IsTup.new s.heap _⟩,rfl,q2 c _ (I.hok.fresh (bj _))⟩
 have j:(dD f n).length=n.toNat*f.length:=E7 f n.toNat;by_cases c2:n<=0
 ·refine rh yC ⟨_,e,rfl⟩ O2 (Pa _ _) (NY t d.toArray m w C n g lo c2 i) ⟨e,?_⟩;have S:dD f n=[]:=by unfold dD;rw[show n.toNat=0 by lia];rfl
  exact done [] (by rw[S];exact .nil) (by rw[S];exact ir _)
 ·have a0:n.toNat*f.length<=1000000:=by
   have:((n.toNat*f.length:Nat):Int)=(f.length:Int)*n:=by rw[Int.natCast_mul,Pf (by lia),Int.mul_comm]
   lia
  have p:n.toNat*f.length<=sizeLine:=by rw[l6];lia
  have P:List.foldl (λ(x1 x2:Array Value)=>x1++x2) #[] (List.replicate n.toNat d.toArray)=((List.replicate n.toNat d).flatten).toArray:=by
   have:=SD d n.toNat []
   simpa using this
  have zi:((d.toArray.size:Nat):Int)*n<=1000000:=by rw[dQ,←q];exact hz
  refine rh yC ⟨_,e,rfl⟩ O2 (Pa _ _) (NX t d.toArray m w C n g (by lia) Y i zi (cI (by rw[l6];lia)) (by rw[P,dQ,E7,←q];exact p)) ⟨e,?_⟩;rw[P];exact done _ (r.times n.toNat) (by rw[j];exact p)
end L2
namespace Dd
open L2 PyProof.Rows
def i8(a:Bool) (x c:D) (b:aa):bv D:=match dataOf b x,dataOf b c with
 |some d,some (.tuple xs)=>if PySem.SeqAt.shaped d=true/\PySem.SeqAt.shaped (.tuple xs)=true then .ok (.bl (if a then !xs.any λy=>PyData.eqv y d else xs.any λy=>PyData.eqv y d)) b else .stuck
 |some d,some (.list xs)=>if PySem.SeqAt.shaped d=true/\PySem.SeqAt.shaped (.list xs)=true then .ok (.bl (if a then !xs.any λy=>PyData.eqv y d else xs.any λy=>PyData.eqv y d)) b else .stuck
 |_,_=>.stuck
theorem Ga{K:Fg}{g:Bool}:gU K (i8 g) (zO K g):=λl H m x y u v z k Q c a b e q=>by
 unfold i8 at e;split at e
 ·rename_i d i j h;split at e
  ·rename_i f;cases e;exact⟨_,_,i,tF c a j,tF c b h,.inl rfl,f.1,f.2,q _ _ _ (.refl _ _) c (.bl _)⟩
  ·cases e
 ·rename_i d i j h;split at e
  ·rename_i f;cases e;exact⟨_,_,i,tF c a j,tF c b h,.inr rfl,f.1,f.2,q _ _ _ (.refl _ _) c (.bl _)⟩
  ·cases e
 ·cases e
def kj(x y:D) (a:aa):bv D:=match x,y with
 |.tup xs,.int n=>if xs≠[]/\-1000000<=n/\n<=1000000/\(xs.length:Int)*n<=1000000 then .ok (.tup (dD xs n)) a else .stuck
 |_,_=>.stuck
theorem ab.times{K:Fg}{a:Loc}{H:Hp}{b:List D}{c:List V}(h:ab K a H b c):∀n:Nat,ab K a H (List.replicate n b).flatten (List.replicate n c).flatten
 |0=>.nil
 |n+1=>by
  rw[pQ,uc,pQ,uc];exact h.append (ab.times h n)
theorem BF{K:Fg}:gU K kj (p5 K):=λj H k x y u v z h Q f a b e q=>by
 unfold kj at e;split at e
 ·rename_i xs n;split at e
  ·rename_i c;cases e;cases b;cases a with
   |tup h1 h2 h3=>
    have i:=h3.length;refine⟨_,_,n,rfl,rfl,cx.of h1,λz=>?_,c.2.1,c.2.2.1,by rw[i];exact c.2.2.2,λz=>?_,λz p d=>?_⟩
    ·subst z;cases h3;exact c.1 rfl
    ·subst z;refine q _ _ _ (.refl _ _) f ?_;have g:dD xs 1=xs:=by simp[dD]
     rw[g];exact .tup h1 h2 h3
    ·exact q _ _ _ (bx.new d _) (f.new d _) (.newT f d (h3.times n.toNat))
  ·cases e
 ·cases e
end Dd
namespace L2
open Spec PyProof.Rows PySem.W
theorem sO{a:List Int}(r:am (a.map V.int) us) (b:i<a.length):∃t,us.getD i Value.none=Value.int (a.getD i 0) t:=by
 have e:(a.map V.int)[i]?=some (V.int a[i]):=by rw[fK,bS b];rfl
 obtain⟨u,c,t,d⟩:=r.get e;refine⟨t,?_⟩;rw[cK,c,cK,bS b];exact d
theorem KJ{a:List Int}(r:am (a.map V.int) b):∀v∈b,∃i t,v=Value.int i t:=λv c=>by
 obtain⟨i,d,rfl⟩:=nh c;have f:=r.length;rw[bh] at f;obtain⟨t,e⟩:=sO r (i:=i) (by lia);rw[cK,bS d] at e;exact⟨_,t,e⟩
theorem Sg(a b:Int):HT.lexLt [a] [b]=decide (a<b):=by
 by_cases h:a=b
 ·subst h;simp[HT.lexLt]
 ·simp[HT.lexLt,h]
noncomputable abbrev ones(a:List Int):List (List Int):=a.map λn=>[n]
theorem tu{a:List Int}(b:i<a.length):(ones a).getD i []=[a.getD i 0]:=by
 rw[cK,fK,bS b,cK,bS b]
 rfl
theorem KY{a:List Int}(k:2<=a.length)(r:am (a.map V.int) us):Srt.Answers P w B (Srt.dR (ones a)) us sg:=by
 have e:=r.length;rw[bh] at e;refine⟨oneType',λR g=>?_,λi j C m h b=>?_⟩
 ·exact kas_kind (T:=.type "int") (by lia) (λv c=>by
   obtain⟨i,t,rfl⟩:=KJ r v c
   exact Looks.now) (by decide) (by decide) g
 ·obtain⟨t,d⟩:=sO r (i:=i) (by lia);obtain⟨l,f⟩:=sO r (i:=j) (by lia);unfold kas_ask;rw[d,f];rw[Srt.uP (by rw[bh];lia) (by rw[bh];lia),tu (by lia),tu (by lia),Sg] at b;rw[keyLt'_oneType];exact oneLt_int b
theorem K8{a:List Int}(r:am (a.map V.int) us):Srt.sK (Srt.dR (ones a)) us:=λi j h f e=>by
 have c:=r.length;rw[bh] at c;obtain⟨t,b⟩:=sO r (i:=i) (by lia);obtain⟨g,d⟩:=sO r (i:=j) (by lia);rw[b,d] at e;have:a.getD i 0=a.getD j 0:=by injection e
 unfold Srt.dR;rw[tu (by lia),tu (by lia),this]
theorem EQ{c:Type}{f:c->V}{g:c->Value}:∀{l:List c},(∀a∈l,RelV (f a) (g a))->am (l.map f) (l.map g)
 |[],_=>.nil
 |a::l,h=>.cons (h a dk) (EQ λb d=>h b (bT _ d))
theorem Mp{ns:List Int}{n:List Value}(r:am (ns.map V.int) n){p:Array Nat}(m:p.Perm (List.toArray (List.range ns.length)))(I:Srt.Up (Srt.dR (ones ns)) p ns.length):
  ∃d:List Int,d.Perm ns/\d.Pairwise (·<=·)/\am (d.map V.int) (Srt.cQ n p).toList:=by
 have A:=r.length;rw[bh] at A;have H:p.size=ns.length:=by rw[m.size_eq];simp
 have f:∀i∈p.toList,i<ns.length:=λi b=>by
  have J:=(m.mem_iff (a:=i)).mp (by rw[←Pm];exact b);exact bB.mp (List.mem_toArray.mp J)
 refine⟨p.toList.map λi=>ns.getD i 0,?_,?_,?_⟩
 ·have P:p.toList.Perm (List.range ns.length):=by
   have:=ur.mp m
   simpa using this
  have x:=P.map λi=>ns.getD i 0
  have G:((List.range ns.length).map λi=>ns.getD i 0)=ns:=by
   apply yG
   ·simp
   ·intro i Q y;simp[cK,y]
  rw[G] at x;exact x
 ·rw[uq];intro i j b c l;rw[yF,yF];rw[bh] at b c;have C:i<p.size:=by simpa using b
  have E:j<p.size:=by simpa using c
  have q:=I i j (dg l) (by lia);have g:∀k,(v:k<p.toList.length)->p.getD k 0=p.toList[k]:=λk v=>by
   have h:k<p.size:=by simpa using v
   rw[lM,mf h];simp
  have s:=f _ (fZ b);have u:=f _ (fZ c);have w:=Srt.uP (ks:=ones ns) (i:=p.toList[j]) (j:=p.toList[i]) (by rw[bh];exact u) (by rw[bh];exact s);have o:Srt.lt (Srt.dR (ones ns)) p.toList[j] p.toList[i]=false:=by
   refine cI λz=>?_
   unfold Srt.At at q;rw[g i b,g j c] at q;lia
  rw[o,tu u,tu s,Sg] at w;have:=O8 w.symm;lia
 ·unfold Srt.cQ;rw[eM];show am _ (p.toList.map λi=>n.getD i Value.none);refine EQ λi b=>?_
  obtain⟨t,e⟩:=sO r (f i b);exact⟨t,e⟩
end L2
namespace Dd
open L2 PyProof.Rows
noncomputable def sortI(l:List Int):List Int:=l.mergeSort λa b=>decide (a<=b)
theorem Ff(l:List Int):(sortI l).Perm l:=List.mergeSort_perm _ _
theorem M0(l:List Int):(sortI l).Pairwise (·<=·):=by
 have:=List.pairwise_mergeSort (le:=λa b:Int=>decide (a<=b)) (λa b c d e=>by simp at *;lia) (λa b=>by simp;lia) l;exact this.imp λh=>by simpa using h
theorem MZ{a:List Int}(p:a.Perm b)(h:a.Pairwise (·<=·)):a=sortI b:=
 (p.trans (Ff b).symm).eq_of_pairwise (λx y _ _ c d=>by lia) h (M0 b)
end Dd
namespace L2
open Spec PyProof.Rows
end L2
namespace Dd
open L2 PyProof.Rows
end Dd
namespace Dd
variable {α:Type}
section
variable {motive:List α->Prop}
@[elab_as_elim] theorem AG (us:List α) (a:us.length=0) (h:motive []):motive us:=by rw[List.eq_nil_of_length_eq_zero a];exact h
@[elab_as_elim] theorem oU {n:Nat}(us:List α) (b:us.length=n+1) (h:∀a us,us.length=n->motive (a::us)):motive us:=by
 cases us with
 |nil=>cases b
 |cons a us=>exact h a us (Nat.succ.inj b)
@[elab_as_elim] theorem AF (us:List α) (b:us.length=1) (h:∀a,motive [a]):motive us:=oU us b λa us b=>AG us b (h a)
@[elab_as_elim] theorem oV (us:List α) (c:us.length=2) (h:∀a b,motive [a,b]):motive us:=oU us c λa us c=>AF us c (h a)
@[elab_as_elim] theorem AE (us:List α) (d:us.length=3) (h:∀a b c,motive [a,b,c]):motive us:=oU us d λa us d=>oV us d (h a)
@[elab_as_elim] theorem P7 (us:List α) (e:us.length=4) (h:∀a b c d,motive [a,b,c,d]):motive us:=oU us e λa us e=>AE us e (h a)
end
end Dd
namespace Dd
open L2
def fE(s:cS->cS):Nat->cS
 |0=>λ_ _=>.stuck
 |n+1=>s (fE s n)
theorem Ur{K:Fg}{N:List Str}(T:ai K x b)(X:K.In h)(G:h.Ns mainGlobals mg)(S:cb N ps (ag b))
  (y:∀(kV i n:Value) (p:Option Addr) (c t:Value) (g:List Value),g.length=ps.length->bindArgs (W.fnOf x x (cr b) (bq b) (ag b) .none kV i n p c t) ⟨g,[]⟩=pure (ps.zip g)):fI P w K mg base x (k+1) ps (λ_ _=>.stuck):=
 RH T X G S y (λz H Q E l=>by obtain⟨r,o,b,v,j,a,u,e,m,q⟩:=l;exact m) λf c A d s H z Q E C l=>by obtain⟨r,o,b,v,j,a,u,e,m,q⟩:=l;cases e
theorem fI.iter{K:Fg}{L:Nat}(e:fI P w K mg base x L ps (λ_ _=>.stuck))(g:∀F b c v a,s F b c=.ok v a->b.length=ps.length)
  (f:∀F j,L<=j->(∀b c v a,F b c=.ok v a->b.length=ps.length)->fI P w K mg base x j ps F->fI P w K mg base x (j+1) ps (s F)):∀n,fI P w K mg base x (L+n) ps (fE s n):=λn=>by
 have d:∀n,(∀b c v a,fE s n b c=.ok v a->b.length=ps.length)/\fI P w K mg base x (L+n) ps (fE s n):=λn=>by
  induction n with
  |zero=>exact⟨λ_ _ _ _ h=>(by cases h),e⟩
  |succ n ih=>exact⟨g _,f _ _ (fe _ _) ih.1 ih.2⟩
 exact(d n).2
end Dd
namespace L2
open Spec PyProof.Rows
end L2
namespace Dd
open L2 PyProof.Rows
end Dd
namespace L2
open Spec PyProof.Rows
end L2
namespace Dd
open L2
end Dd
namespace Dd
open L2 PyProof.Rows
end Dd
namespace L2
open Spec PyProof.Rows
theorem Tz{a b:Type}{f:a->Option b}{g:a->b}:∀{l:List a},(∀x∈l,f x=some (g x))->l.filterMap f=l.map g
 |[],_=>rfl
 |x::l,h=>by
  rw[Dm,h x dk,ce,Tz λy c=>h y (bT _ c)]
theorem R6(a:Array Value):slicePick a none none (some (-1))=a.toList.reverse.toArray:=by
 have e:sliceRange (sliceBounds none none (some (-1)) a.size).1 (sliceBounds none none (some (-1)) a.size).2.1 (sliceBounds none none (some (-1)) a.size).2.2=(List.range a.size).map λk=>a.size-1-k:=by
  unfold sliceRange sliceBounds;simp only[yB,show ¬ ((-1:Int) > 0) by decide,gj];have c:(if(a.size:Int)-1 > -1 then((a.size:Int)-1 - -1 - -1-1) / - -1 else 0).toNat=a.size:=by
   rw[Int.neg_neg,CO];split<;>lia
  rw[c];refine kb λk d=>?_
  have:=bB.mp d;lia
 unfold slicePick;rw[e,Dh]
 congr 1
 cases hz:a.size with
 |zero=>
  have:a.toList=[]:=yS.mp (by rw[fM];exact hz);rw[this]
  rfl
 |succ n=>
  have b:∀k,a.size-1-k<a.size:=λk=>by lia
  rw[Tz (g:=λk=>a[a.size-1-k]'(b k)) λk _=>by
   show a[n+1-1-k]?=_;rw[←hz]
   exact getElem?_pos a _ (b k)]
  refine yG (by simp[hz]) λi h f=>?_
  rw[yF,List.getElem_range,List.getElem_reverse];simp
def zA(K:Fg) (d e:TE):TE:=λc H Q=>d c H λx H1=>e c H1 λy H2=>∃a b,x=.ref a/\y=.int (-1)/\cV K H2 a b/\∀p,H2 p=none->Q (.ref p) (aZ H2 p (.lst b.reverse))
theorem ER:∀{c:List V}{d:List Value},am c d->am c.reverse d.reverse
 |[],_,h=>by cases h;exact .nil
 |x::c,_,h=>by
  cases h with
  |cons a b=>rw[C7,C7];exact(ER b).append (.cons a .nil)
theorem Kb(J:PE X e te)(p:PE X es ts):PE X (.Subscript e (.Slice none none (some es) p2) pos) (zA X.K te ts):=by
 intro d s g H Q I h;refine Subscript_ (bu (J d s g H _ I h) λv A f=>?_);obtain⟨x,H1,z,w,P⟩:=f;refine wpAny_Slice ?_;rw[CP,evalPart_some];refine ar (ar (bu (p d A g H1 _ z P) λS c f=>?_));obtain⟨y,H3,n,C,a,E,rfl,rfl,t,q⟩:=f;obtain⟨l,rfl⟩:=C;cases w;have i:Inv X d g H3 { c with heap:=c.heap.push { cls:=.type "slice",data:=.fields #[.none,.none,.int (-1) l] } }:=n.kept (t':=c.toks) λb m q=>dC _ q
 obtain⟨G,r,j,u⟩:=i.list t;have k:=r.length;refine tail_any (ops:=[.ref a,.ref c.heap.objs.size]) j.isList.typeIs OY.lookup ?_ (by with_unfolding_all rfl);refine wpAny_getItem_list_slice j.isList (Pd ..) .none .none (.int (-1) l) (by simp) ?_ (by rw[dQ]<;>lia);rw[R6];refine⟨.ref _,_,i.laid (t':=c.toks) (o:=.lst E.reverse) (λb m q=>dC _ q) (bj _) ?_,rfl,q _ (i.hok.fresh (bj _))⟩;exact⟨by rw[Dk];exact u,_,0,ER r,fL _ rfl⟩
end L2
namespace Dd
open L2
theorem ab.rev{K:Fg}:∀{c:List D}{e:List V},ab K ρ H c e->ab K ρ H c.reverse e.reverse
 |[],_,h=>by cases h;exact .nil
 |d::c,_,h=>by
  cases h with
  |cons a b=>rw[C7,C7];exact(ab.rev b).append (.cons a .nil)
end Dd
namespace L2
open Spec PyProof.Rows
theorem Vm{s:Shared}{n:Nat}(d:s.heap.IsSliceOf sl .none .none (.int (-1) tk))(h:Q ((n:Int)-1,-1,n) s):wpAny (model prog w) A (Builtin.Slice.sliceApplied (.ref sl) (pure (n:Int))) Q E s:=by
 obtain⟨os,a,c,b⟩:=id d;unfold Builtin.Slice.sliceApplied Builtin.Slice.sliceFields;refine ae (ae (pC a b (x:=.none) rfl (ae (pC a b (x:=.none) rfl (ae (pC a b (x:=.int (-1) tk) rfl (ar ?_)))))));refine ae (HT.vq (.int (-1) tk) ?_);show wpAny _ _ (if((-1:Int)==0)=true then _ else _) _ _ s;rw[if_neg (by decide)];refine ae (HT.vq .none (ae (HT.vq .none (ae (ar ?_)))));show wpAny _ _ (match Builtin.Slice.sliceAdjust none none (-1) (n:Int) with|(lo,e)=>pure (lo,(-1:Int),Builtin.Slice.slicePlaces lo e (-1))) _ _ s;have f:Builtin.Slice.sliceAdjust none none (-1) (n:Int)=((n:Int)-1,-1):=by
  unfold Builtin.Slice.sliceAdjust;simp
 have g:Builtin.Slice.slicePlaces ((n:Int)-1) (-1) (-1)=n:=by
  unfold Builtin.Slice.slicePlaces;simp only[show ¬ ((-1:Int) > 0) by decide,gj,Int.neg_neg,CO];split<;>lia
 rw[f];show wpAny _ _ (pure ((n:Int)-1,(-1:Int),Builtin.Slice.slicePlaces ((n:Int)-1) (-1) (-1))) _ _ s;rw[g];exact ar h
theorem MT(a:Array Value):((List.range a.size).filterMap λ(m:Nat)=>a[((a.size:Int)-1+(m:Int)*(-1)).toNat]?).toArray=a.toList.reverse.toArray:=by
 rw[←R6];unfold slicePick;have e:sliceRange (sliceBounds none none (some (-1)) a.size).1 (sliceBounds none none (some (-1)) a.size).2.1 (sliceBounds none none (some (-1)) a.size).2.2=(List.range a.size).map λk:Nat=>((a.size:Int)-1+(k:Int)*(-1)).toNat:=by
  unfold sliceRange sliceBounds;simp only[yB,show ¬ ((-1:Int) > 0) by decide,gj];have b:(if(a.size:Int)-1 > -1 then((a.size:Int)-1 - -1 - -1-1) / - -1 else 0).toNat=a.size:=by
   rw[Int.neg_neg,CO];split<;>lia
  rw[b];refine kb λk c=>?_
  lia
 rw[e,Dh]
 rfl
theorem Wc{s:Shared}(b:IsTup s.heap t items)(i:s.heap.IsSliceOf sl .none .none (.int (-1) tk))
  (h:Q (.ref s.heap.objs.size) { s with heap:=s.heap.push { cls:=.type "tuple",data:=.seq items.toList.reverse.toArray } })
  (c:items.size<=sizeLine):wpAny (model prog w) A (getItem (.ref t) (.ref sl)) Q E s:=by
 have a:sizeOk (.seq items.toList.reverse.toArray):=by
  show items.toList.reverse.toArray.size<=sizeLine;rw[dQ,Dk,fM];exact c
 obtain⟨os,e,d,j⟩:=id i;have g:s.TypeIs (.ref sl) "slice":=⟨os,e,d⟩
 unfold getItem
 try with_reducible refine jl ?_
 first|refine ae (ar ?_)|skip
 refine ae (OZ b.typeIs (by decide) ?_)
 refine ae (wpAny_callSpecial?_slot (name:=Str.ofString "__getitem__") b.typeIs ut
  (kS ut b.typeIs PyProof.Rows.entry_tuple_getitem ?_ (PyProof.Rows.args_tuple_getitem _ _)))
 show wpAny _ _ (Builtin.Tuple.tupleItemsOf (.ref t) >>= _) _ _ s;refine ae (PyProof.Rows.tupleItemsOf_ b ?_);refine ae (yq g ?_);rw[if_pos (by decide)];refine ae (Vm i ?_);have f:¬ ((((items.size:Int)-1)==0&&(-1:Int)==1&&items.size==items.size)=true):=by
  intro q;rw[jm,jm] at q;exact absurd (eq_of_beq q.1.2) (by decide)
 show wpAny _ _ (if(((items.size:Int)-1)==0&&(-1:Int)==1&&items.size==items.size)=true then _ else _) _ _ s;rw[if_neg f,MT]
 first
  |exact ae (m:=Builtin.Tuple.tupleExact _) (jz (ar ⟨_,rfl,ar h⟩) a)
  |exact ae (m:=Builtin.Tuple.tupleExact _) (jz (ae (ar (ar ⟨_,rfl,ar h⟩))) a)
  |exact ae (ae (m:=Builtin.Tuple.tupleExact _) (jz (ar (ar ⟨_,rfl,ar h⟩)) a))
  |exact ae (ae (m:=Builtin.Tuple.tupleExact _) (jz (ar ⟨_,rfl,ar h⟩) a))
def rX(K:Fg) (d e:TE):TE:=λc H Q=>d c H λx H1=>e c H1 λy H2=>∃a b,x=.ref a/\y=.int (-1)/\cx K H2 a b/\∀p,H2 p=none->Q (.ref p) (aZ H2 p (.tup b.reverse))
theorem Mu(J:PE X e te)(n:PE X es ts):PE X (.Subscript e (.Slice none none (some es) p2) pos) (rX X.K te ts):=by
 intro d s g H Q I h;refine Subscript_ (bu (J d s g H _ I h) λv A f=>?_);obtain⟨x,H1,w,u,P⟩:=f;refine wpAny_Slice ?_;rw[CP,evalPart_some];refine ar (ar (bu (n d A g H1 _ w P) λS c f=>?_));obtain⟨y,H3,m,C,a,E,rfl,rfl,p,q⟩:=f;obtain⟨z,rfl⟩:=C;cases u;have i:Inv X d g H3 { c with heap:=c.heap.push { cls:=.type "slice",data:=.fields #[.none,.none,.int (-1) z] } }:=m.kept (t':=c.toks) λb l q=>dC _ q
 obtain⟨G,r,j,t⟩:=i.tuple p;have k:=r.length;refine tail_any (ops:=[.ref a,.ref c.heap.objs.size]) j.typeIs ut.lookup ?_ (by with_unfolding_all rfl);refine Wc j (Pd ..) ?_ (by rw[dQ]<;>lia);refine⟨.ref _,_,i.laid (t':=c.toks) (o:=.tup E.reverse) (λb l q=>dC _ q) (bj _) ?_,rfl,q _ (i.hok.fresh (bj _))⟩;exact⟨by rw[Dk];exact t,_,ER r,⟨_,fL _ rfl,rfl,_,rfl⟩⟩
theorem N9(h:PE X e t)(c:PE X e t'):PE X e (λa H Q=>t a H Q\/t' a H Q):=λb s a H Q I q=>by
 rcases q with q|q
 ·exact h b s a H Q I q
 ·exact c b s a H Q I q
end L2
namespace Dd
open L2
def ky(f g:SE):SE:=λc d=>(f c d).bind λx b=>(g c b).bind λy a=>match y with
 |.int (-1)=>match x with
  |.tup xs=>.ok (.tup xs.reverse) a
  |x=>match eS a x with
   |some xs=>.ok (.lst xs.reverse) a
   |none=>.stuck
 |_=>.stuck
theorem IR(A:JE X e f)(r:JE X es g):JE X (.Subscript e (.Slice none none (some es) p2) pos) (ky f g):=⟨fw (N9 (Kb A.out r.out) (Mu A.out r.out)) λτ H Q P=>by
 obtain⟨s,l,t,v,J,a,z,e,q⟩:=P;obtain⟨x,c,C,e⟩:=za e;obtain⟨y,G,E,e⟩:=za e;split at e
 ·split at e
  ·cases e;refine .inr ⟨s,l,t,_,c,a,z,C,λd H1 u k h n=>?_⟩;refine⟨d,l,c,_,_,a.ext k,h,E,λm H2 w j b o=>?_⟩;cases o;cases n.ext j with
   |tup h1 h2 h3=>exact⟨_,_,rfl,rfl,cx.of h1,λp i=>q _ _ _ ((k.trans j).trans (bx.new i _)) (b.new i _) (.newT b i h3.rev)⟩
  ·split at e
   ·rename_i xs I;cases e;refine .inl ⟨s,l,t,x,c,a,z,C,λd H1 u k h n=>?_⟩;refine⟨d,l,c,_,_,a.ext k,h,E,λm H2 w j b o=>?_⟩;cases o;obtain⟨p,Y,rfl,U,S⟩:=jZ b (n.ext j) I;exact⟨_,_,rfl,rfl,cV.of U,λp i=>q _ _ _ ((k.trans j).trans (bx.new i _)) (b.new i _) (.newL b i S.rev)⟩
   ·cases e
 ·cases e⟩
end Dd
namespace L2
open Spec PyProof.Rows
end L2
namespace Dd
open L2
end Dd
namespace L2
open Spec PyProof.Rows
end L2
namespace L2
namespace St
noncomputable abbrev lt(a b:Nat):Prop:=a<b
theorem D6(e:Array Nat)(j:Nat)(f:∀a b,a<=b->b<e.size->e.getD a j<=e.getD b j):∀(fuel lo hi:Nat),lo<=hi->hi<=e.size->hi-lo<=fuel->(∀i,i<lo->e.getD i j<j)->(∀i,hi<=i->i<e.size->j<=e.getD i j) ->
  SetTable.below.go e j fuel lo hi<=e.size/\(∀i,i<SetTable.below.go e j fuel lo hi->e.getD i j<j)/\(∀i,SetTable.below.go e j fuel lo hi<=i->i<e.size->j<=e.getD i j)
 |0,lo,hi,h1,h2,h3,a,b=>by
  have:lo=hi:=by lia
  subst this;unfold SetTable.below.go;exact⟨h2,a,b⟩
 |fuel+1,lo,hi,h1,h2,h3,a,b=>by
  unfold SetTable.below.go;by_cases c:lo<hi
  ·rw[if_pos c];dsimp only;by_cases d:e.getD ((lo+hi)/2) j<j
   ·rw[if_pos d]
    exact D6 e j f fuel _ hi (by lia) h2 (by lia) (λi g=>by
     have:=f i ((lo+hi)/2) (by lia) (by lia)
     lia) b
   ·rw[if_neg d]
    exact D6 e j f fuel lo _ (by lia) (by lia) (by lia) a (λi g h=>by
     have:=f ((lo+hi)/2) i g h
     lia)
  ·rw[if_neg c];have:lo=hi:=by lia
   subst this;exact⟨h2,a,b⟩
def Up(a:Array Nat):Prop:=a.toList.Pairwise lt
theorem tG(a:Array Nat)(i d:Nat):a.getD i d=a.toList.getD i d:=by
 rw[lM,cK,gR]
theorem Up.mono(h:Up xs)(d a b:Nat)(i:a<=b)(g:b<xs.size):xs.getD a d<=xs.getD b d:=by
 rcases pH a b with c|c
 ·have f:b<xs.toList.length:=by simpa using g
  have e:a<xs.toList.length:=by lia
  rw[tG,tG,cK,cK,bS e,bS f];exact dg (uq.mp h a b e f c)
 ·have:a=b:=by lia
  subst this;exact bj _
theorem vm(h:Up xs)(j:Nat):SetTable.below xs j<=xs.size/\(∀i,i<SetTable.below xs j->xs.getD i j<j)/\(∀i,SetTable.below xs j<=i->i<xs.size->j<=xs.getD i j):=
 D6 xs j (h.mono j) xs.size 0 xs.size (by lia) (by lia) (by lia) (λi b=>absurd b (by lia)) (λi c a=>absurd a (by lia))
theorem Sw(h:Up a)(j:Nat):∀y∈a.toList.take (SetTable.below a j),y<j:=λy e=>by
 obtain⟨f,c,g⟩:=vm h j;obtain⟨i,d,rfl⟩:=List.mem_iff_getElem.mp e;rw[gw] at d;have b:i<a.toList.length:=by lia
 have:=c i (by lia);rw[tG,cK,bS b] at this;rw[O3];exact this
theorem Fb(h:Up a)(j:Nat):∀y∈a.toList.drop (SetTable.below a j),j<=y:=λy d=>by
 obtain⟨k,f,e⟩:=vm h j;obtain⟨i,c,rfl⟩:=List.mem_iff_getElem.mp d;rw[mZ] at c;have g:a.toList.length=a.size:=by simp
 have b:SetTable.below a j+i<a.toList.length:=by lia
 have:=e (SetTable.below a j+i) (by lia) (by lia);rw[tG,cK,bS b] at this;rw[O4];exact this
theorem Nh(h:Up xs) (hj:j∈xs.toList):xs[SetTable.below xs j]?=some j:=by
 have c:=Sw h j;have b:=Fb h j;rw[←kc (SetTable.below xs j) xs.toList] at hj;rcases dB.mp hj with hj|hj
 ·exact absurd (c j hj) (oi _)
 ·have a:(xs.toList.drop (SetTable.below xs j)).Pairwise lt:=um (O5 _ _) h;have:(xs.toList.drop (SetTable.below xs j))[0]?=some j:=by
   cases e:xs.toList.drop (SetTable.below xs j) with
   |nil=>rw[e] at hj;cases hj
   |cons y l=>
    rw[e] at hj b a;rcases bZ.mp hj with rfl|hj
    ·rfl
    ·have f:=b y (by simp);have d:y<j:=(rF.mp a).1 j hj;lia
  rw[oA] at this;rw[←gR]
  simpa using this
theorem Cq{b:Type}(a:Array b)(p:Nat)(x:b):(SetTable.insertAt a p x).toList=a.toList.take p++x::a.toList.drop p:=by
 unfold SetTable.insertAt;rw[kU,m9,Pk,Pk];simp[List.extract];exact jD (by simp)
theorem Up.insert(h:Up xs) (f:j∉xs.toList):Up (SetTable.insertAt xs (SetTable.below xs j) j):=by
 unfold Up;rw[Cq,rJ];refine⟨um (Da _ _) h,rF.mpr ⟨λy c=>?_,um (O5 _ _) h⟩,λa g b hb=>?_⟩
 ·have d:=Fb h j y c;have i:y≠j:=λe=>f (e ▸ pR c)
  show j<y;lia
 ·have d:=Sw h j a g;rcases bZ.mp hb with rfl|hb
  ·exact d
  ·have:=Fb h j b hb;show a<b;lia
end St
namespace St
structure Tb (t:SetTable):Prop where
 up:Up t.place
 nd:t.dummies=#[]
 inm:∀y∈t.place.toList,y<=t.mask
 pl:t.plain=true
theorem QU(j:Nat):SetTable.has #[] j=false:=by
 unfold SetTable.has;simp
theorem Tb.slot(h:Tb t)(j:Nat):(t.slot j=.empty/\j∉t.place.toList)\/(∃i,t.slot j=.live i)/\j∈t.place.toList:=by
 unfold SetTable.slot;dsimp only;by_cases c:t.place[SetTable.below t.place j]?=some j
 ·right
  rw[if_pos (by rw[c];exact rC _)];rw[←gR] at c;exact⟨⟨_,rfl⟩,dY c⟩
 ·left
  rw[if_neg (by simpa using c),h.nd,QU];exact⟨rfl,λa=>c (Nh h.up a)⟩
noncomputable def uv(a:Nat):Nat->Nat->Nat->Nat
 |0,i,_=>i
 |k+1,i,per=>uv a k ((i*5+1+per/32)%(a+1)) (per/32)
noncomputable def i9(a:Nat) (p:SetTable.Probe):SetTable.Probe:={j:=(p.i*5+1+p.perturb/32)%(a+1),more:=SetTable.runEnd a ((p.i*5+1+p.perturb/32)%(a+1))-(p.i*5+1+p.perturb/32)%(a+1),i:=(p.i*5+1+p.perturb/32)%(a+1),perturb:=p.perturb/32,dummy:=p.dummy}
theorem KS{t:SetTable}{p:SetTable.Probe}(h:p.more=m+1):t.advance p={p with j:=p.j+1,more:=m}:=by
 unfold SetTable.advance;rw[if_pos (by lia),h]
 rfl
theorem KR{t:SetTable}{p:SetTable.Probe}(h:p.more=0):t.advance p=i9 t.mask p:=by
 unfold SetTable.advance;rw[if_neg (by lia)]
 rfl
theorem mi(g:Tb t)(h:Int):∀(m d:Nat) (p:SetTable.Probe),p.more=m->p.dummy=none ->
  (∃j,SetTable.probe.go t (λ_=>h+1) h (d+m+1) p=some (.empty j none)/\j∉t.place.toList/\j<=p.j+m) \/
  (p.j∈t.place.toList/\∃l,l.i=p.i/\l.perturb=p.perturb/\l.dummy=none/\SetTable.probe.go t (λ_=>h+1) h (d+m+1) p=SetTable.probe.go t (λ_=>h+1) h d (i9 t.mask l))
 |0,d,p,hm,hd=>by
  have e:SetTable.probe.go t (λ_=>h+1) h (d+0+1) p=match t.slot p.j with
   |.empty=>some (.empty p.j p.dummy)
   |.dummy=>SetTable.probe.go t (λ_=>h+1) h d (t.advance {p with dummy:=some p.j})
   |.live i=>if h+1==h then some (.candidate p.j i (t.advance p)) else SetTable.probe.go t (λ_=>h+1) h d (t.advance p):=rfl
  rw[e];rcases g.slot p.j with⟨f,k⟩|⟨⟨i,f⟩,k⟩
  ·rw[f,hd];exact .inl ⟨p.j,rfl,k,by lia⟩
  ·rw[f];dsimp only;rw[if_neg (by simp;lia)];exact .inr ⟨k,p,rfl,rfl,hd,by rw[KR hm]⟩
 |m+1,d,p,hm,hd=>by
  have e:SetTable.probe.go t (λ_=>h+1) h (d+(m+1)+1) p=match t.slot p.j with
   |.empty=>some (.empty p.j p.dummy)
   |.dummy=>SetTable.probe.go t (λ_=>h+1) h (d+(m+1)) (t.advance {p with dummy:=some p.j})
   |.live i=>if h+1==h then some (.candidate p.j i (t.advance p)) else SetTable.probe.go t (λ_=>h+1) h (d+(m+1)) (t.advance p):=rfl
  rw[e];rcases g.slot p.j with⟨f,k⟩|⟨⟨i,f⟩,k⟩
  ·rw[f,hd];exact .inl ⟨p.j,rfl,k,by lia⟩
  ·rw[f];dsimp only;rw[if_neg (by simp;lia),KS hm,←CT];rcases mi g h m d {p with j:=p.j+1,more:=m} rfl hd with⟨j,a,b,c⟩|⟨a,l,b⟩
   ·exact .inl ⟨j,a,b,by dsimp only at c;lia⟩
   ·exact .inr ⟨k,l,b⟩
theorem Se(h:i<=mask):i<=SetTable.runEnd mask i/\SetTable.runEnd mask i<=mask/\SetTable.runEnd mask i<=i+9:=by
 unfold SetTable.runEnd;split<;>lia
theorem mq(g:Tb t)(h:Int):∀(L d:Nat) (p:SetTable.Probe),10*L<=d->p.j=p.i->p.i<=t.mask->p.more=SetTable.runEnd t.mask p.i-p.i->p.dummy=none->(∃k,k<L/\uv t.mask k p.i p.perturb∉t.place.toList) ->
  ∃j,SetTable.probe.go t (λ_=>h+1) h d p=some (.empty j none)/\j∉t.place.toList/\j<=t.mask
 |0,_,_,_,_,_,_,_,⟨k,hk,_⟩=>absurd hk (by lia)
 |L+1,d,p,hf,hj,hi,hm,hd,⟨k,hk,hk2⟩=>by
  obtain⟨o,q,r⟩:=Se hi;have m:d=(d-p.more-1)+p.more+1:=by lia
  have w:=mi g h p.more (d-p.more-1) p rfl hd;rw[←m] at w;rcases w with⟨j,a,b,c⟩|⟨a,n,f,e,i,l⟩
  ·exact⟨j,a,b,by lia⟩
  ·rw[l];cases k with
   |zero=>exact absurd a (by rw[hj];exact hk2)
   |succ k=>
    refine mq g h L _ (i9 t.mask n) (by lia) rfl (by unfold i9;exact hX (yn _ (by lia))) rfl i ⟨k,by lia,?_⟩;unfold i9;dsimp only;rw[f,e];exact hk2
/- the leaps meet all places -/
noncomputable def o1(a:Nat):Nat->Nat->Nat->Nat->Nat
 |0,acc,_,_=>acc
 |L+1,acc,i,per=>o1 a L (acc ||| 2^i) ((i*5+1+per/32)%(a+1)) (per/32)
theorem wY(a j:Nat):∀(L acc i b:Nat),(o1 a L acc i b).testBit j=true->acc.testBit j=true\/∃k,k<L/\uv a k i b=j
 |0,acc,i,b,h=>.inl h
 |L+1,acc,i,b,h=>by
  rcases wY a j L _ _ _ h with h|⟨k,d,c⟩
  ·rw[Nat.testBit_or,Dj,OM,uf] at h;rcases h with h|h
   ·exact .inl h
   ·exact .inr ⟨0,by lia,h⟩
  ·exact .inr ⟨k+1,by lia,c⟩
def oZ(a h:Nat):Bool:=Nat.beq (o1 a (a+3) 0 (h%(a+1)) h) (2^(a+1)-1)
theorem Qp:(List.range 64).all (oZ 7)=true:=by decide +kernel
theorem AR:(List.range 64).all (oZ 31)=true:=by decide +kernel
theorem sn:(List.range 64).all (oZ 127)=true:=by decide +kernel
noncomputable def dH(m:Nat):Prop:=m=7\/m=31\/m=127
theorem Ua(b:dH mask)(a:h<64)(d:j<=mask):∃k,k<mask+3/\uv mask k (h%(mask+1)) h=j:=by
 have c:oZ mask h=true:=by
  rcases b with rfl|rfl|rfl
  ·exact cZ.mp Qp h (bB.mpr a)
  ·exact cZ.mp AR h (bB.mpr a)
  ·exact cZ.mp sn h (bB.mpr a)
 have e:=pS c;have t:(o1 mask (mask+3) 0 (h%(mask+1)) h).testBit j=true:=by
  rw[e,Nat.testBit_two_pow_sub_one];exact cC (by lia)
 rcases wY mask j _ _ _ _ t with z|z
 ·simp at z
 ·exact z
theorem room(g:Tb t)(h:t.place.size<=t.mask):∃j,j<=t.mask/\j∉t.place.toList:=by
 by_cases c:∃j,j<=t.mask/\j∉t.place.toList
 ·exact c
 ·exfalso
  have b:List.range (t.mask+1) ⊆ t.place.toList:=λj a=>by
   by_cases z:j∈t.place.toList
   ·exact z
   ·exact absurd ⟨j,by have:=bB.mp a;lia,z⟩ c
  have:=pY (pK) b;simp at this;lia
theorem NF(g:Tb t)(o:dH t.mask){h:Nat}(l:h<64)(b:t.place.size<=t.mask):∃j,t.freeSlot (h:Int)=some (j,false)/\j∉t.place.toList/\j<=t.mask:=by
 obtain⟨p,e,f⟩:=room g b;obtain⟨k,m,n⟩:=Ua o l e;have a:SetTable.bits (h:Int)=h:=by
  unfold SetTable.bits;lia
 have s:=mq g (h:Int) (t.mask+3) (10*SetTable.turns t.mask) (t.probeStart (h:Int)) (by unfold SetTable.turns;lia) rfl (by unfold SetTable.probeStart;exact hX (yn _ (by lia))) rfl rfl ⟨k,m,by
  show uv t.mask k (SetTable.bits (h:Int)%(t.mask+1)) (SetTable.bits (h:Int))∉_;rw[a,n]
  exact f⟩
 obtain⟨j,d,c,i⟩:=s;refine⟨j,?_,c,i⟩;unfold SetTable.freeSlot SetTable.probe;rw[d]
 rfl
end St
namespace St
theorem vw{b:Type}(a:Array b)(p:Nat)(x:b)(h:p<=a.size):(SetTable.insertAt a p x).size=a.size+1:=by
 have:=congrArg List.length (Cq a p x);simp at this;lia
theorem Jy{b:Array (Int×Value)}{h:Nat}(g:Tb t)(o:dH t.mask)(l:h<64)(e:t.place.size=b.size)(p:t.place.size<t.mask):
  ∃a c,layNew t b (h:Int) x=(a,c,false,false)/\Tb c/\c.mask=t.mask/\c.led=t.led/\c.place.size=a.size/\a.size=b.size+1/\a.toList.Perm (((h:Int),x)::b.toList):=by
 obtain⟨j,n,f,i⟩:=NF g o l (by lia);have d:=(vm g.up j).1;refine⟨SetTable.insertAt b (SetTable.below t.place j) ((h:Int),x),{t with place:=SetTable.insertAt t.place (SetTable.below t.place j) j},?_,?_,rfl,rfl,?_,?_,?_⟩
 ·have k:t.put j=({t with place:=SetTable.insertAt t.place (SetTable.below t.place j) j},SetTable.below t.place j):=by
   unfold SetTable.put;dsimp only;rw[g.nd,QU]
   rfl
  have m:({t with place:=SetTable.insertAt t.place (SetTable.below t.place j) j}:SetTable).fits (SetTable.insertAt b (SetTable.below t.place j) ((h:Int),x)).size=true:=by
   unfold SetTable.fits SetTable.fill;dsimp only;rw[vw _ _ _ d,vw _ _ _ (by lia),g.nd,e];simp;lia
  unfold layNew;rw[n];dsimp only;rw[k];dsimp only;unfold SetTable.orStandIn;rw[m]
  rfl
 ·refine⟨g.up.insert f,g.nd,λy hy=>?_,g.pl⟩;dsimp only at hy ⊢;rw[Cq] at hy;rcases dB.mp hy with hy|hy
  ·exact g.inm y (me hy)
  ·rcases bZ.mp hy with rfl|hy
   ·exact i
   ·exact g.inm y (pR hy)
 ·dsimp only;rw[vw _ _ _ d,vw _ _ _ (by lia),e]
 ·rw[vw _ _ _ (by lia)]
 ·rw[Cq];refine(OV).trans ?_;rw[kc]
/- laid anew -/
noncomputable def my(a:Array (Option Nat)) (b:Nat):List Nat:=(List.range (b+1)).filterMap λj=>a.getD j none
structure Ow (mask n:Nat) (owner:Array (Option Nat)):Prop where
 size:owner.size=mask+1
 perm:(my owner mask).Perm (List.range n)
theorem J9(h:Ow b n owner)(o:n<=b):∃j,j<=b/\owner.getD j (some 0)=none:=by
 by_cases c:∃j,j<=b/\owner.getD j (some 0)=none
 ·exact c
 ·exfalso
  have i:∀j∈List.range (b+1),(owner.getD j none).isSome=true:=λj d=>by
   have d:=bB.mp d;have k:j<owner.size:=by rw[h.size];exact d
   cases e:owner.getD j none with
   |some x=>rfl
   |none=>
    refine absurd ⟨j,by lia,?_⟩ c;rw[lM,mf k] at e ⊢;exact e
  have g:(my owner b).length=b+1:=by
   unfold my;have:∀l:List Nat,(∀j∈l,(owner.getD j none).isSome=true)->(l.filterMap λj=>owner.getD j none).length=l.length:=λl=>by
    induction l with
    |nil=>intro _;rfl
    |cons a l ih=>
     intro g;obtain⟨x,m⟩:=Option.isSome_iff_exists.mp (g a (by simp));rw[nk (f:=λj=>owner.getD j none) m,dh,dh,ih λj d=>g j (bT _ d)]
   rw[this _ i,pN]
  have:=h.perm.length_eq;rw[g,pN] at this;lia
theorem xu{owner:Array (Option Nat)}:∀(fuel i b:Nat),i<=mask->(∃k,k<fuel/\owner.getD (uv mask k i b) (some 0)=none)->∃j,SetTable.layClean.free mask owner fuel i b=some j/\j<=mask/\owner.getD j (some 0)=none
 |0,_,_,_,⟨k,hk,_⟩=>absurd hk (by lia)
 |fuel+1,i,b,hi,⟨k,hk,a⟩=>by
  obtain⟨l,f,h⟩:=Se hi;unfold SetTable.layClean.free;cases e:(List.range (SetTable.runEnd mask i+1-i)).find? λk=>(owner.getD (i+k) (some 0)).isNone with
  |some z=>
   have d:=OL e;have g:=bB.mp (PB e);exact⟨i+z,rfl,by lia,by simpa using d⟩
  |none=>
   dsimp only;have c:=yM.mp e 0 (bB.mpr (by lia));cases k with
   |zero=>
    exfalso
    rw[tW] at c;have a:owner.getD i (some 0)=none:=a;rw[a] at c;exact c rfl
   |succ k=>
    exact xu fuel _ _ (hX (yn _ (by lia))) ⟨k,by lia,a⟩
theorem BV{c j:Type}{f g:c->Option j}:∀{l:List c},(∀x∈l,f x=g x)->l.filterMap f=l.filterMap g
 |[],_=>rfl
 |a::l,h=>by
  have b:=BV (l:=l) λx i=>h x (bT _ i)
  have d:=h a (by simp);cases e:g a with
  |none=>rw[pX (d.trans e),pX e,b]
  |some z=>rw[nk (d.trans e),nk e,b]
theorem TB(b:Array (Option Nat)){j n:Nat}(g:b.getD j (some 0)=none)(k:j<b.size):∀l:List Nat,l.Nodup->j∈l ->
  (l.filterMap λi=>(b.setIfInBounds j (some n)).getD i none).Perm (n::l.filterMap λi=>b.getD i none)
 |[],_,h=>by cases h
 |a::l,nd,h=>by
  have o:∀i,i≠j->(b.setIfInBounds j (some n)).getD i none=b.getD i none:=λi m=>by
   rw[lM,lM,T0 (fO m)]
  have s:(b.setIfInBounds j (some n)).getD j none=some n:=by
   rw[lM,T1 k]
   rfl
  have q:b.getD j none=none:=by
   rw[lM,mf k] at g ⊢;exact g
  have d:=gZ.mp nd;by_cases c:a=j
  ·subst c;rw[nk (f:=λi=>(b.setIfInBounds a (some n)).getD i none) s,pX (f:=λi=>b.getD i none) q];have:(l.filterMap λi=>(b.setIfInBounds a (some n)).getD i none)=l.filterMap λi=>b.getD i none:=BV λi m=>o i λe=>d.1 (e ▸ m)
   rw[this]
  ·have r:j∈l:=by
    rcases bZ.mp h with h|h
    ·exact absurd h.symm c
    ·exact h
   have p:=TB b (n:=n) g k l d.2 r;cases e:b.getD a none with
   |none=>rw[pX (f:=λi=>(b.setIfInBounds j (some n)).getD i none) (by rw[o a c];exact e),pX (f:=λi=>b.getD i none) e];exact p
   |some z=>
    rw[nk (f:=λi=>(b.setIfInBounds j (some n)).getD i none) (by rw[o a c];exact e),nk (f:=λi=>b.getD i none) e];exact(List.Perm.cons z p).trans (List.Perm.swap n z _)
theorem Ow.step{a n:Nat}{b:Array (Option Nat)}(h:Ow a n b)(l:dH a){hv:Nat}(o:hv<64)(d:n<=a):
  ∃j,SetTable.layClean.free a b (SetTable.turns a) (SetTable.bits (hv:Int)%(a+1)) (SetTable.bits (hv:Int))=some j/\Ow a (n+1) (b.setIfInBounds j (some n)):=by
 have c:SetTable.bits (hv:Int)=hv:=by
  unfold SetTable.bits;lia
 obtain⟨q,f,g⟩:=J9 h d;obtain⟨k,s,m⟩:=Ua l o f;rw[c];obtain⟨j,e,r,i⟩:=xu (owner:=b) (mask:=a) (SetTable.turns a) (hv%(a+1)) hv (hX (yn _ (by lia))) ⟨k,by unfold SetTable.turns;lia,by rw[m];exact g⟩;refine⟨j,e,⟨by rw[Array.size_setIfInBounds];exact h.size,?_⟩⟩;have p:=TB b (n:=n) i (by rw[h.size];lia) (List.range (a+1)) pK (bB.mpr (by lia));refine p.trans ((List.Perm.cons n h.perm).trans ?_);rw[pJ];exact(List.perm_append_singleton n _).symm
noncomputable def jU(h:Int):Prop:=∃n:Nat,n<64/\h=n
theorem Q0{b:Nat}(f:dH b):∀(l:List Int) (n:Nat) (a:Array (Option Nat)),Ow b n a->(∀h∈l,jU h)->n+l.length<=b ->
  ∃c,l.foldl (λacc h=>do
   let (a,k) ←acc
   let j ←SetTable.layClean.free b a (SetTable.turns b) (SetTable.bits h%(b+1)) (SetTable.bits h)
   pure (a.setIfInBounds j (some k),k+1)) (some (a,n))=some (c,n+l.length)/\Ow b (n+l.length) c
 |[],n,a,o,_,_=>⟨a,rfl,o⟩
 |h::l,n,a,o,hs,hl=>by
  rw[dh] at hl ⊢;obtain⟨d,s,rfl⟩:=hs h (by simp);obtain⟨j,i,p⟩:=o.step f s (by lia);obtain⟨g,m,r⟩:=Q0 f l (n+1) _ p (λx q=>hs x (bT _ q)) (by lia);refine⟨g,?_,by rw[show n+(l.length+1)=n+1+l.length by lia];exact r⟩;rw[lE]
  have e:(do
   let (a,k) ←some (a,n)
   let j ←SetTable.layClean.free b a (SetTable.turns b) (SetTable.bits (d:Int)%(b+1)) (SetTable.bits (d:Int))
   pure (a.setIfInBounds j (some k),k+1):Option (Array (Option Nat)×Nat))=some (a.setIfInBounds j (some n),n+1):=by
   show(SetTable.layClean.free b a (SetTable.turns b) (SetTable.bits (d:Int)%(b+1)) (SetTable.bits (d:Int))).bind _=_;rw[i]
   rfl
  rw[e,m,show n+(l.length+1)=n+1+l.length by lia]
theorem WS(a:Nat):Ow a 0 (Array.replicate (a+1) none):=by
 refine⟨by simp,?_⟩;unfold my;have:(List.range (a+1)).filterMap (λj=>(Array.replicate (a+1) (none:Option Nat)).getD j none)=(List.range (a+1)).filterMap λ_=>(none:Option Nat):=BV λj _=>by
  rw[lM,Array.getElem?_replicate];split<;>rfl
 rw[this];have:∀l:List Nat,l.filterMap (λ_=>(none:Option Nat))=[]:=λl=>by induction l<;>simp_all
 rw[this];exact OH _
theorem NO(b:dH mask){hs:Array Int}(h:∀x∈hs.toList,jU x)(a:hs.size<=mask):∃owner,SetTable.layClean mask hs=some owner/\Ow mask hs.size owner:=by
 obtain⟨o,e,w⟩:=Q0 b hs.toList 0 _ (WS mask) h (by simpa using a);rw[iT] at e w;refine⟨o,?_,by simpa using w⟩;unfold SetTable.layClean;rw[←Array.foldl_toList,e]
 rfl
theorem Q4(b:Array (Option Nat)):∀l:List Nat,(l.filterMap λj=>(b.getD j none).map λk=>(j,k)).map (·.1)=l.filter λj=>(b.getD j none).isSome
 |[]=>rfl
 |a::l=>by
  have c:=Q4 b l;cases e:b.getD a none with
  |none=>rw[pX (f:=λj=>(b.getD j none).map λk=>(j,k)) (by rw[e];rfl),g9 (by rw[e];decide),c]
  |some z=>rw[nk (f:=λj=>(b.getD j none).map λk=>(j,k)) (by rw[e];rfl),gS (by rw[e];rfl),ce,c]
theorem Q5(b:Array (Option Nat)):∀l:List Nat,(l.filterMap λj=>(b.getD j none).map λk=>(j,k)).map (·.2)=l.filterMap λj=>b.getD j none
 |[]=>rfl
 |a::l=>by
  have c:=Q5 b l;cases e:b.getD a none with
  |none=>rw[pX (f:=λj=>(b.getD j none).map λk=>(j,k)) (by rw[e];rfl),pX (f:=λj=>b.getD j none) e,c]
  |some z=>rw[nk (f:=λj=>(b.getD j none).map λk=>(j,k)) (by rw[e];rfl),nk (f:=λj=>b.getD j none) e,ce,c]
theorem Oi{b:Type}(es:List b):(List.range es.length).filterMap (λi=>es[i]?)=es:=by
 induction es with
 |nil=>rfl
 |cons a l ih=>
  rw[dh,List.range_succ_eq_map,nk (f:=λi=>(a::l)[i]?) rfl,Dh]
  congr 1
theorem zE{t:SetTable}{b:Array (Int×Value)}{wanted:Nat}(g:Tb t)(E:∀e∈b.toList,jU e.1)(s:dH (SetTable.sizeAbove wanted-1))(o:b.size<=SetTable.sizeAbove wanted-1):
  ∃f h,relayAll t b wanted=(f,h,false)/\Tb h/\h.mask=SetTable.sizeAbove wanted-1/\h.led=t.led/\h.place.size=f.size/\f.size=b.size/\f.toList.Perm b.toList:=by
 obtain⟨a,r,w⟩:=NO s (hs:=b.map (·.1)) (λx p=>by
  rw[Array.toList_map] at p;obtain⟨e,G,rfl⟩:=bQ.mp p
  exact E e G) (by simpa using o)
 rw[Array.size_map] at w;generalize hmk:SetTable.sizeAbove wanted-1=mask at r w s o
 let live:=(List.range (mask+1)).filterMap λj=>(a.getD j none).map λk=>(j,k)
 have q:live.map (·.1)=(List.range (mask+1)).filter λj=>(a.getD j none).isSome:=Q4 a _
 have C:live.map (·.2)=my a mask:=Q5 a _;have m:=w.perm;rw[←C] at m;have c:((live.map (·.2)).filterMap λi=>b[i]?).Perm b.toList:=by
  refine(m.filterMap _).trans ?_;have:=Oi b.toList;rw[fM] at this;rw[show(List.range b.size).filterMap (λi=>b[i]?)=b.toList from(BV λi _=>(gR (xs:=b)).symm).trans this]
 have d:((live.map (·.2)).filterMap λi=>b[i]?).length=b.size:=by rw[c.length_eq,fM]
 have l:live.length=b.size:=by
  have:=m.length_eq;rw[bh,pN] at this;exact this
 have u:t.relaid (b.map (·.1)) wanted=some ({mask,place:=(live.map (·.1)).toArray,dummies:=#[],finger:=t.finger,led:=t.led,moves:=t.movedTo mask,plain:=t.plain},(live.map (·.2)).toArray):=by
  unfold SetTable.relaid SetTable.laid;rw[hmk,r]
  rfl
 refine⟨((live.map (·.2)).filterMap λi=>b[i]?).toArray,{mask,place:=(live.map (·.1)).toArray,dummies:=#[],finger:=t.finger,led:=t.led,moves:=t.movedTo mask,plain:=t.plain},?_,⟨?_,rfl,λy n=>?_,g.pl⟩,rfl,rfl,?_,?_,?_⟩
 ·unfold relayAll;rw[u];dsimp only;have A:coversAll (live.map (·.2)).toArray b.size=true:=by
   unfold coversAll;exact List.isPerm_iff.mpr m
  have z:(live.map (·.2)).toArray.filterMap (λx=>b[x]?)=((live.map (·.2)).filterMap λi=>b[i]?).toArray:=by simp
  rw[z,A];have v:({mask,place:=(live.map (·.1)).toArray,dummies:=#[],finger:=t.finger,led:=t.led,moves:=t.movedTo mask,plain:=t.plain}:SetTable).fits ((live.map (·.2)).filterMap λi=>b[i]?).toArray.size=true:=by
   unfold SetTable.fits SetTable.fill;dsimp only;rw[dQ,dQ,d,bh,l];simp;lia
  rw[v]
  rfl
 ·show(live.map (·.1)).toArray.toList.Pairwise lt;rw[List.toList_toArray,q];exact um yO List.pairwise_lt_range
 ·dsimp only at n ⊢;rw[q] at n;have:=bB.mp (dL.mp n).1;lia
 ·dsimp only;rw[dQ,dQ,d,bh,l]
 ·rw[dQ,d]
 ·rw[List.toList_toArray];exact c
end St
namespace St
theorem Mr{a:Type}{l:List a}(h:i<l.length):(l[i]::l.eraseIdx i).Perm l:=by
 rw[List.eraseIdx_eq_take_drop_succ];refine OV.symm.trans ?_;rw[←kY h,kc]
theorem xV{c:Type}(next:Nat->Nat):∀(fuel k:Nat) (left:List c) (b:Array c),left.length<=fuel->(pickOrder.go next fuel k left b).toList.Perm (b.toList++left)
 |0,k,left,b,h=>by
  have:left=[]:=yS.mp (by lia);subst this;unfold pickOrder.go;rw[jy]
 |fuel+1,k,left,b,h=>by
  unfold pickOrder.go;cases e:left[next k%left.length]? with
  |none=>
   have:left=[]:=by
    cases left with
    |nil=>rfl
    |cons a l=>
     have:=List.getElem?_eq_none_iff.mp e;have:=yn (next k) (show(a::l).length > 0 by simp);lia
   subst this;dsimp only;rw[jy]
  |some x=>
   dsimp only;obtain⟨d,rfl⟩:=cU.mp e;have f:=xV next fuel (k+1) (left.eraseIdx (next k%left.length)) (b.push left[next k%left.length]) (by rw[List.length_eraseIdx_of_lt d];lia);refine f.trans ?_;rw[m9,eE];exact uo _ (Mr d)
theorem Ob{b:Type}(next:Nat->Nat)(a:Array b):(pickOrder next a).toList.Perm a.toList:=by
 unfold pickOrder;exact xV next a.size 0 a.toList #[] (by simp)
theorem Ul(h:Up xs) (n:i<xs.size):SetTable.below xs (xs.getD i 0+1)=i+1:=by
 obtain⟨q,m,l⟩:=vm h (xs.getD i 0+1);have up:∀a b,a<b->b<xs.size->xs.getD a 0<xs.getD b 0:=λa b k o=>by
  have j:b<xs.toList.length:=by simpa using o
  have f:a<xs.toList.length:=by lia
  rw[tG,tG,cK,cK,bS f,bS j];exact uq.mp h a b f j k
 have dflt:∀a d,a<xs.size->xs.getD a d=xs.getD a 0:=λa d p=>by
  rw[lM,lM,mf p]
  rfl
 generalize SetTable.below xs (xs.getD i 0+1)=b at q m l;rcases Nat.lt_trichotomy b (i+1) with c|c|c
 ·have:=l i (by lia) n;have e:=dflt i (xs.getD i 0+1) n;lia
 ·exact c
 ·have:=m (i+1) c;have g:i+1<xs.size:=by lia
  have e:=dflt (i+1) (xs.getD i 0+1) g;have:=up i (i+1) (by lia) g;lia
theorem Um(h:Up xs):SetTable.below xs 0=0:=by
 obtain⟨b,a,d⟩:=vm h 0;rcases yL (SetTable.below xs 0) with c|c
 ·exact c
 ·exact absurd (a 0 c) (by lia)
end St
end L2
namespace L2
open PySem.W PyProof.Rows Spec
namespace St
structure Es (l:List (Int×Value)) (ks:List Nat):Prop where
 all:∀e∈l,∃(n:Nat) (t:Tok),n<64/\e=((n:Int),Value.int (n:Int) t)
 perm:(l.map (·.1)).Perm (ks.map λ(n:Nat)=>(n:Int))
 nd:ks.Nodup
theorem Es.small(h:Es l c):∀k∈c,k<64:=λk d=>by
 have f:(k:Int)∈l.map (·.1):=h.perm.mem_iff.mpr (bQ.mpr ⟨k,d,rfl⟩);obtain⟨e,a,b⟩:=bQ.mp f;obtain⟨n,t,g,rfl⟩:=h.all e a;dsimp only at b;lia
theorem Es.len(h:Es l ks):l.length=ks.length:=by
 have:=h.perm.length_eq
 simpa using this
theorem Es.few(h:Es l ks):l.length<=64:=by
 rw[h.len];have:=pY h.nd (l₂:=List.range 64) λk a=>bB.mpr (h.small k a)
 simpa using this
theorem Es.of_perm{a:List (Int×Value)}(h:Es l ks)(p:a.Perm l):Es a ks:=
 ⟨λe b=>h.all e (p.mem_iff.mp b),(p.map _).trans h.perm,h.nd⟩
theorem Es.add(h:Es l ks) (b:n<64)(a:n∉ks):Es (((n:Int),Value.int (n:Int) t)::l) (n::ks):=
 ⟨λe he=>by
  rcases bZ.mp he with rfl|he
  ·exact⟨n,t,b,rfl⟩
  ·exact h.all e he,h.perm.cons _,gZ.mpr ⟨a,h.nd⟩⟩
theorem SF{n:Nat}(h:n<64):hashInt (n:Int)=n:=by
 have e:rawHash (n:Int)=n:=by
  unfold rawHash;have b:(((n:Int).natAbs:Int)%((2^61-1:Nat):Int))=n:=by
   rw[Int.natAbs_natCast];exact Int.emod_eq_of_lt (by lia) (by lia)
  rw[b];dsimp only;have c:¬ ((n:Int)<0):=by lia
  rw[if_neg c];have a:((n:Int)==-1)=false:=by
   rw[pP];lia
  rw[a]
  rfl
 unfold hashInt;rw[e];have a:((n:Int)==-1)=false:=by
  rw[pP];lia
 rw[a]
 rfl
structure Tt (w:World) (es:Array (Int×Value)) (t:SetTable) (ks:List Nat):Prop where
 tb:Tb t
 mo:dH t.mask
 ld:t.led=!w.params.followText "set-order"
 sz:t.place.size=es.size
 room:t.place.size*5<t.mask*3
 el:Es es.toList ks
theorem Tt.fits(h:Tt w es t ks):t.fits es.size=true:=by
 have:=h.room;have a:=h.sz;unfold SetTable.fits SetTable.fill;rw[h.tb.nd];simp;lia
theorem Tt.few(h:Tt w es t ks):es.size<=64:=by
 have:=h.el.few
 simpa using this
theorem Tt.elems{a:List Nat}(h:Tt w es t a):ElemsOf (intKind P w) es.toList:=λe b=>by
 obtain⟨m,t,c,rfl⟩:=h.el.all e b;exact⟨⟨(m:Int),intKind_is _ _ _ _,(SF c).symm⟩,rfl⟩
noncomputable def Sn(w:World) (h:Heap) (a:Addr) (d:List Nat):Prop:=∃b c e t,h.get? a=some b/\b.ExactSet/\b.data=.set c e t/\Tt w c t d
theorem Sn.kept{h':Heap}(x:Sn w h a ks)(k:∀o,h.get? a=some o->h'.get? a=some o):Sn w h' a ks:=
 let ⟨ob,es,ep,t,e,r⟩:=x;⟨ob,es,ep,t,k _ e,r⟩
theorem Jn{t:SetTable}(b:t.dummies=#[])(f:dH t.mask)(g:t.place.size=m+1)(room:m*5<t.mask*3)(d:m+1<=64):
  (t.tooFull=false/\(m+1)*5<t.mask*3)\/(t.tooFull=true/\dH (SetTable.sizeAbove (SetTable.grown (m+1))-1)/\m+1<=SetTable.sizeAbove (SetTable.grown (m+1))-1/\(m+1)*5<(SetTable.sizeAbove (SetTable.grown (m+1))-1)*3):=by
 have a:t.fill=m+1:=by
  unfold SetTable.fill;rw[b,g]
  rfl
 rcases f with e|e|e
 ·by_cases c:m=4
  ·subst c
   right
   refine⟨by unfold SetTable.tooFull;rw[a,e];decide,?_,by decide,by decide⟩;exact .inr (.inl (by decide))
  ·left
   refine⟨?_,by lia⟩;unfold SetTable.tooFull;rw[a,e];simp;lia
 ·by_cases c:m=18
  ·subst c
   right
   refine⟨by unfold SetTable.tooFull;rw[a,e];decide,?_,by decide,by decide⟩;exact .inr (.inr (by decide))
  ·left
   refine⟨?_,by lia⟩;unfold SetTable.tooFull;rw[a,e];simp;lia
 ·left
  refine⟨?_,by lia⟩;unfold SetTable.tooFull;rw[a,e];simp;lia
theorem wN{h:Heap}(f:h.get? a=some o)(d:o.data=.set es ep t)(b:Array (Int×Value))(c:SetTable):
  (h.update a (Obj.putSet b c)).get? a=some {o with data:=.set b (ep+1) c}:=by
 have e:=putSet_of b c d;have g:=pV (Obj.putSet b c) f (by rw[e];rfl)
 rwa [e] at g
theorem Gx{s:Shared}{ks:List Nat}{n:Nat}(U:n<64)(S:Sn w s.heap a ks)
  (v:∀o b,Heap.SameBut a s.heap o->Sn w o a (if n∈ks then ks else n::ks)->Q b {s with heap:=o}):
  wpAny (model P w) B (setAddHashed a (.int (n:Int) tok) (hashInt (n:Int))) Q E s:=by
 obtain⟨ob,p,ep,t,C,q,G,T⟩:=id S;have a7:=T.few;have hb:p.size<scanBound:=by unfold scanBound;lia
 unfold setAddHashed setAddHashedIn;refine jl (ae (C4 C G T.fits ?_));dsimp only;rw[byScan_of (knd:=intKind P w) (x:=.int (n:Int) tok) rfl hb T.elems,if_pos rfl];unfold setAddByScan;refine ae (ae (og (ae (wpAny_setScan_of (knd:=intKind P w) (k:=(n:Int)) (intKind_is _ _ _ _) C G T.fits T.elems ?_))));cases hr:List.findIdx? (λe=>(intKind P w).is (n:Int) e.2) p.toList with
 |some j=>
  dsimp only;obtain⟨hj,hp,_⟩:=List.findIdx?_eq_some_iff_getElem.mp hr;obtain⟨m,A,hm,e⟩:=T.el.all _ (fZ hj);rw[e] at hp;have a0:(n:Int)=(m:Int):=(intKind P w).inj _ _ _ hp (intKind_is P w (m:Int) A);have h1:(n:Int)∈p.toList.map (·.1):=bQ.mpr ⟨_,fZ hj,by rw[e];exact a0.symm⟩;obtain⟨k,hk,ek⟩:=bQ.mp (T.el.perm.mem_iff.mp h1);have X:n∈ks:=by
   have:k=n:=by lia
   exact this ▸ hk
  have f:=v s.heap false (Heap.SameBut.refl a s.heap);rw[if_pos X] at f;exact ar (ar (f S))
 |none=>
  dsimp only;have no:n∉ks:=λhk=>by
   have h1:(n:Int)∈p.toList.map (·.1):=T.el.perm.mem_iff.mpr (bQ.mpr ⟨n,hk,rfl⟩);obtain⟨e,I,J⟩:=bQ.mp h1;obtain⟨m,A,hm,rfl⟩:=T.el.all e I;have z:=List.findIdx?_eq_none_iff.mp hr _ I;dsimp only at J z;rw[J,intKind_is] at z;cases z
  rw[SF U];obtain⟨c,H,J,g,l,y,a1,d,a4⟩:=Jy (x:=Value.int (n:Int) tok) T.tb T.mo U T.sz (by have:=T.room;lia);have h:Es c.toList (n::ks):=(T.el.add (t:=tok) U no).of_perm a4;rw[J];dsimp only;refine ae (ar ?_);rw[g.pl,if_pos rfl,hashByValue_scannable 8 (x:=Value.int (n:Int) tok) rfl];refine ae (ar ?_);rw[show plainKind (Value.int (n:Int) tok)=true from rfl,if_pos rfl];have a6:c.size<=64:=by have:=h.few;simpa using this
  refine ae (wpAny_storeSet_of C G ?_ (by rw[l6];lia));have g1:=wN C G c H;have r:=ng s.heap a (Obj.putSet c H);have f:=λo b=>v o b
  rw[if_neg no] at f;rcases Jn (t:=H) (m:=p.size) g.nd (by rw[l];exact T.mo) (by lia) (by have:=T.room;have:=T.sz;rw[l];lia) (by lia) with⟨c1,c2⟩|⟨c1,c2,c3,c4⟩
  ·rw[c1];refine ar (ar (f _ _ r ⟨_,c,ep+1,H,g1,q,rfl,g,by rw[l];exact T.mo,y.trans T.ld,a1,?_,h⟩));lia
  ·rw[c1]
   obtain⟨i,A,e2,a2,u,a3,Y,a8,a5⟩:=zE (wanted:=SetTable.grown c.size) g (λe I=>by
    obtain⟨m,tt,hm,rfl⟩:=h.all e I
    exact⟨m,hm,rfl⟩) (by rw[d];exact c2) (by rw[d];exact c3)
   rw[e2];refine ae (ar ?_);refine ae (wpAny_storeSet_of g1 rfl ?_ (by show i.size<=_;rw[l6];lia));refine ar (ar (f _ _ (r.trans (ng _ a _)) ⟨_,i,ep+1+1,A,wN g1 rfl i A,q,rfl,a2,by rw[u,d];exact c2,a3.trans (y.trans T.ld),Y,?_,h.of_perm a5⟩));rw[u,d];lia
end St
namespace St
noncomputable def met:List Nat->List Nat->List Nat
 |[],ks=>ks
 |n::l,ks=>met l (if n∈ks then ks else n::ks)
theorem SK:entryFor table "set.update.loop"=some Builtin.«set.update.loop»:=entryFor_of_tree (by kernel_rfl)
theorem Fd:plainId "set.update.loop"=true:=by decide +kernel
section
variable {P:Program}{w:World}{B:Around}{R:Result->Shared->Prop}{it:Addr}{fp:List Addr}{wr:List Addr}{G:Array GenState->Array GenState->Prop}{N:Nat}{It:Nat->Value->Prop}{St:Nat->Shared->Prop}
theorem xE(W:WalksS P w B.in1 it fp wr G N It St)(a:Addr)(p:a∉fp)(c:List Nat)(C:c.length=N)(small:∀n∈c,n<64)
  (g:∀i v,It i v->∃t,v=Value.int ((c.getD i 0:Nat):Int) t):∀(r:List Nat) (i:Nat) (k:List Nat) (s:Shared),c.drop i=r->i<=N->St i s->Sn w s.heap a k ->
   (∀ d,Moved (a::wr) G s d->Sn w d.heap a (met r k)->R (.ok (.ret .none)) d)->codeAny (model P w) B (.builtin "set.update.loop" ⟨[.ref a,.ref it],[]⟩) R s
 |[],i,k,s,hr,hi,au,S,fin=>by
  have e:i=N:=by
   have:=congrArg List.length hr;simp at this;lia
  subst e;refine yx SK ?_;rw[Pj Fd _];refine ae (m:=pyNext (.ref it)) (W.done s _ _ au λd j=>?_);have q:a∉wr:=λz=>p (W.sub _ z)
  exact ar (fin d (j.mono λb f=>bT _ f) (S.kept λo e=>j.heap a o q e))
 |n::r,i,k,s,hr,hi,au,S,fin=>by
  have h:i<N:=by
   have:=congrArg List.length hr;simp at this;lia
  have x:c.getD i 0=n/\n∈c/\c.drop (i+1)=r:=by
   have A:c[i]?=some n:=by
    have:=congrArg (λl:List Nat=>l[0]?) hr
    simpa using this
   refine⟨by rw[cK,A];rfl,dY A,?_⟩;rw[←CY,hr]
   rfl
  have q:a∉wr:=λz=>p (W.sub _ z)
  refine yx SK ?_;rw[Pj Fd _];refine ae (m:=pyNext (.ref it)) (W.item i s _ _ h au λv d pv y j=>?_);obtain⟨t,rfl⟩:=g i v pv;rw[x.1];refine ae (m:=holding [Value.int (n:Int) t] (setAdd a (.int (n:Int) t))) (jl ?_);unfold setAdd;refine jl (ae (wpAny_pyHash_int ?_));refine Gx (s:={d with toks:=d.toks+1}) (small n x.2.1) (S.kept λo e=>j.heap a o q e) λJ b sb I=>?_
  refine ar ⟨plainId_quiet Fd _,xE W a p c C small g r (i+1) _ _ x.2.2 h (W.frame _ d _ _ y (tU _) λb f o e=>?_) I λE u H=>?_⟩
  ·rw[sb.2 b (λz:b=a=>p (z ▸ f))];exact e
  ·refine fin E (Moved.trans W.gtrans ((j.mono λb f=>bT _ f).then_heap (tU _) λb o f e=>?_) u) H;rw[sb.2 b (λz:b=a=>f (z ▸ dk))];exact e
end
noncomputable def iC(w:World):Obj:={ cls:=.type "set",dict:=none,data:=.set #[] 0 (.fresh 0 0 (!w.params.followText "set-order")) }
theorem Hu{s:Shared}(x:Value){W:Value->Shared->Prop}(a:W (.ref s.heap.objs.size) {s with heap:=s.heap.push (iC w)}):
  codeAny (model P w) B (.call (.builtin "set.__new__") ⟨[.type "set",x],[]⟩) (wants W E) s:=by
 refine codeAny_call_builtin_code (plainId_quiet F.plain_set_new _) (wpAny_of_eq (F.newCall_set_1 x) (yx F.entry_set_new ?_));rw[Pj F.plain_set_new _];have sub:=sub_set_self;unfold Builtin.«set.__new__» Builtin.Frozenset.newClass;obtain⟨b,g,d,c,os⟩:=s
 wp_walk
 refine yz (ar ?_);simp only[newObj];exact ae (wpAny_alloc (ar (ar a)))
theorem Hv{h:Heap}(e:h.get? a=some (iC w)):Sn w h a []:=
 ⟨_,#[],0,_,e,⟨rfl,rfl,rfl⟩,rfl,⟨List.Pairwise.nil,rfl,λy b=>(by cases b),rfl⟩,.inl rfl,rfl,rfl,(by show 0*5<7*3;decide),⟨λe c=>(by cases c),OH _,mY⟩⟩
section
variable {P:Program}{w:World}{B:Around}{E:Value->Shared->Prop}{s:Shared}
theorem IK{l:Addr}{a:List Value}{f:List Nat}{W:Value->Shared->Prop}(hh:B.handled=none)(J:s.heap.IsList l a.toArray)(iv:IntsAre a (f.map λ(n:Nat)=>(n:Int)))(small:∀n∈f,n<64)
  (C:∀(g:Heap) (y:Nat),Sn w g s.heap.objs.size (met f [])->(∀b o,s.heap.get? b=some o->g.get? b=some o)->W (.ref s.heap.objs.size) {s with heap:=g,toks:=y}):
  wpAny (model P w) B (call (.type "set") [.ref l]) W E s:=by
 have H:a.length=f.length:=by simpa using iv.length
 obtain⟨c,tl,a0⟩:=pG.mro;have A:=pG.made;have U:=pG.sub;have h1:=pG.notType;have h2:=pG.canCreate;have a3:=F.typeCall_set_1 (.ref l);refine wpAny_call (codeAny_of_tree (show wpAny _ _ (callAny (.type "set") _) _ _ _ from ar ⟨Code.quiet_builtin _ (by decide +kernel),yx F.entry_type_call ?_⟩))
 rw[Around.under_plain (weight_type_call_type "set" [.ref l] []) rfl]
 repeat (any_goals (first|assumption|wp_step))
 refine rj (Hu (w:=w) (.ref l) (E:=E) (W:=λv X=>v=.ref s.heap.objs.size/\X={s with heap:=s.heap.push (iC w)}) ⟨rfl,rfl⟩) λr X u=>?_
 match r,u with
 |.error e,u=>exact u
 |.ok (.ret v),u=>
  obtain⟨rfl,rfl⟩:=u;have S:(s.heap.push (iC w)).get? s.heap.objs.size=some (iC w):=fL _ rfl;have ty:Shared.TypeIs { s with heap:=s.heap.push (iC w) } (.ref s.heap.objs.size) "set":=⟨_,S,rfl⟩
  have a6:=pG.init.lookup;have a2:=pG.init.bind (.ref s.heap.objs.size)
  repeat (any_goals (first|assumption|wp_step))
  refine rj (Ph (R:=wants (λv x=>v=.none/\∃g y,x={s with heap:=g,toks:=y}/\Sn w g s.heap.objs.size (met f [])/\∀b o,s.heap.get? b=some o->g.get? b=some o) E) pG.init.plain F.entry_set_init (check_set_init_1 ty ?body)) λr2 x d=>?_
  case body=>
   obtain⟨ol,j,q,Y,k⟩:=id J;obtain⟨oc,od,a5,G⟩:=ol;simp only at q k;subst q k;have m:(s.heap.push (iC w)).get? l=some { cls:=.type "list",dict:=od,data:=.seq a.toArray Y,slots:=G }:=dC _ j
   have h:(s.heap.push (iC w)).IsList l a.toArray:=⟨_,m,rfl,Y,rfl⟩
   have a4:=F.sub_list_set;have a1:=F.sub_list_frozenset;have ne:(Value.type "list"==Value.type "dict")=false:=by decide
   unfold Builtin.«set.__init__» noKeywords Builtin.Frozenset.updateFrom;generalize hPI:pyIter=PI
   wp_walk
   subst hPI;have Q:l<s.heap.objs.size:=cW j;have I:(s.heap.push (iC w)).objs.size=s.heap.objs.size+1:=CV ..
   refine C5 h (ae (wpAny_runValue ?_))
   refine xE ((Walks.list (by simp[hh]) _ l (dO (by rw[I];exact ud Q)) a.toArray).toS) s.heap.objs.size (λz=>by
    rw[I] at z;rcases bZ.mp z with z|z
    ·exact dO (yD _) z
    ·exact yt Q (em.mp z)) f (by simp[H]) small (λi v hv=>?_) f 0 [] _ rfl (ir _) ⟨⟨_,fL _ rfl,rfl,rfl⟩,h.push _⟩ (Hv (dC _ S)) λx mv S2=>?_
   ·obtain⟨t,e⟩:=IntsAre.int_at iv i v (by simpa using hv);refine⟨t,e.trans ?_⟩
    congr 1
    rw[cK,fK,cK];cases f[i]?<;>rfl
   ·rw[Moved.eq_with mv];refine ar (ar ⟨rfl,x.heap,x.toks,rfl,S2,λb o e=>?_⟩);have lt:=cW e
    exact mv.heap b o (λz=>by
     rw[I] at z;rcases bZ.mp z with z|z
     ·exact dO lt z
     ·exact dO (ud lt) (em.mp z)) (dC _ (dC _ e))
  match r2,d with
  |.error e,d=>exact d
  |.ok (.ret v),d=>
   obtain⟨rfl,g,y,rfl,S',p⟩:=d
   repeat (any_goals (first|assumption|wp_step))
   exact C _ _ S' p
end
end St
namespace St
theorem wG:Manifest.owners.lookup (String.ofList ("rotareti_tes".toList).reverse)=some Manifest.sig_set_iterator:=by kernel_rfl
theorem sV:Slot "set_iterator" "__next__" "set_iterator.__next__":=by
 refine Slot.of (owner:="set_iterator") (n:="__next__") ?_ (by decide +kernel) (by decide +kernel) (by decide +kernel) ?_ ?_
 ·rw[typeLookup_type,builtinLookup_eq_fast]
  kernel_rfl
 ·first
   |exact .inl (by decide +kernel)
   |exact .inr (by decide +kernel)
 ·rw[isSubtype_type]
  kernel_rfl
theorem Re:entryFor table "set_iterator.__next__"=some Builtin.«set_iterator.__next__»:=entryFor_of_tree (by kernel_rfl)
theorem xP(a:Value):argsOk "set_iterator.__next__" ⟨[a],[]⟩:=by
 unfold argsOk;rw[signature?_of (id:="set_iterator.__next__") (n:="__txen__".toList) (o:="rotareti_tes".toList) (by kernel_rfl) wG]
 kernel_rfl
theorem x4:Slot "set_iterator" "__iter__" "set_iterator.__iter__":=by
 refine Slot.of (owner:="set_iterator") (n:="__iter__") ?_ (by decide +kernel) (by decide +kernel) (by decide +kernel) ?_ ?_
 ·rw[typeLookup_type,builtinLookup_eq_fast]
  kernel_rfl
 ·first
   |exact .inl (by decide +kernel)
   |exact .inr (by decide +kernel)
 ·rw[isSubtype_type]
  kernel_rfl
theorem MY:entryFor table "set_iterator.__iter__"=some Builtin.«dict_keyiterator.__iter__» :=
 entryFor_alias (id':="dict_keyiterator.__iter__") (by kernel_rfl) rfl (by decide +kernel) (by kernel_rfl)
theorem Kz(a:Value):argsOk "set_iterator.__iter__" ⟨[a],[]⟩:=by
 unfold argsOk;rw[signature?_of (id:="set_iterator.__iter__") (n:="__reti__".toList) (o:="rotareti_tes".toList) (by kernel_rfl) wG]
 kernel_rfl
theorem LQ:entryFor table "set.__iter__"=some Builtin.«frozenset.__iter__» :=
 entryFor_alias (id':="frozenset.__iter__") (by kernel_rfl) rfl (by decide +kernel) (by kernel_rfl)
noncomputable def At(h:Heap) (a:Addr) (c:Array (Int×Value)) (d:Nat) (t:SetTable):Prop:=∃b,h.get? a=some b/\b.ExactSet/\b.data=.set c d t
theorem At.kept{h':Heap}(x:At h a es ep t)(k:∀o,h.get? a=some o->h'.get? a=some o):At h' a es ep t:=
 let ⟨ob,e,r⟩:=x;⟨ob,k _ e,r⟩
theorem At.is{s:Shared}(x:At s.heap a es ep t):s.TypeIs (.ref a) "set":=let ⟨ob,e,c,_⟩:=x; ⟨ob,e,c.1⟩
theorem At.lt(x:At h a es ep t):a<h.objs.size:=let ⟨_,e,_⟩:=x;cW e
noncomputable def ord(w:World) (a:Addr) (b:Array (Int×Value)) (c:Nat):Array (Int×Value):=if w.params.followText "set-order"=true then pickOrder (w.params.setOrder a c) b else b
theorem Rh(w:World)(a:Addr)(b:Array (Int×Value))(c:Nat):(ord w a b c).toList.Perm b.toList:=by
 unfold ord;split
 ·exact Ob _ _
 ·exact OH _
theorem BY(w:World)(a:Addr)(b:Array (Int×Value))(c:Nat):(ord w a b c).size=b.size:=by
 have:=(Rh w a b c).length_eq
 simpa using this
noncomputable def slotAt(w:World) (t:SetTable):Nat->Nat
 |0=>0
 |i + 1=>if w.params.followText "set-order"=true then 0 else t.place.getD i 0 + 1
theorem Sh{w:World}(h:w.params.followText "set-order"=true)(t:SetTable):∀ i,slotAt w t i=0
 |0=>rfl
 |i+1=>if_pos h
theorem Rr{w:World}(h:¬ w.params.followText "set-order"=true)(t:SetTable)(i:Nat):slotAt w t (i + 1)=t.place.getD i 0 + 1:=if_neg h
theorem UR{w:World}(h:¬ w.params.followText "set-order"=true){t:SetTable}(up:Up t.place):∀ i,i<=t.place.size->SetTable.below t.place (slotAt w t i)=i
 |0,_=>Um up
 |i+1,hi=>by rw[Rr h];exact Ul up (by lia)
theorem xI{s:Shared}(x:At s.heap a es ep t)(T:Tt w es t ks)(m:i<=es.size)(b:Q (((ord w a es ep)[i]?).map λe=>(e.2,slotAt w t (i+1))) s):
  wpAny (model P w) B (setNext a (slotAt w t i) i ep) Q E s:=by
 obtain⟨l,g,h,f⟩:=x;unfold setNext setsByText;refine ae (C4 g f T.fits ?_);dsimp only;refine ae (ae (yz (ar ?_)));show wpAny _ _ (if w.params.followText "set-order"=true then _ else _) _ _ _
 by_cases hb:w.params.followText "set-order"=true
 ·rw[Sh hb] at b;rw[if_pos hb,if_neg (by simp),Sh hb];unfold setWalk setsByText;refine ae (ae (C4 g f T.fits ?_));dsimp only;refine ae (ae (yz (ar ?_)));show wpAny _ _ (if w.params.followText "set-order"=true then _ else _) _ _ _
  rw[if_pos hb];refine ae (yz (ar (ar ?_)));unfold ord at b;rw[if_pos hb] at b;exact b
 ·rw[if_neg hb];have j:t.led=true:=by rw[T.ld];simpa using hb
  have n:=T.sz;refine yw (λz=>?_) (λ_=>?_)
  ·change (!t.plain&&_)=true at z
   rw[T.tb.pl] at z;cases z
  refine ae (yw (λz=>?_) (λ_=>ar ?_))
  ·change (!t.led&&_)=true at z
   rw[j] at z;cases z
  rw[UR hb T.tb.up i (by lia)];unfold ord at b;rw[if_neg hb,Rr hb] at b;by_cases c:i<es.size
  ·rw[mf c] at b ⊢;have d:i<t.place.size:=by lia
   rw[mf d];have k:t.place.getD i 0=t.place[i]:=by
    rw[lM,mf d]
    rfl
   rw[k] at b;exact ar b
  ·rw[yR (by lia)] at b ⊢;exact ar b
def hJ(w:World) (h:Heap) (c a:Addr) (i n b:Nat) (t:SetTable):Prop:=∃ o,h.get? c=some o/\o.cls=.type "set_iterator"/\o.data=.fields #[.int (slotAt w t i:Nat) 0,.int i 0,.ref a,.int n 0,.int b 0]
theorem hJ.kept{h':Heap}(x:hJ w h it a i n ep t)(k:∀o,h.get? it=some o->h'.get? it=some o):hJ w h' it a i n ep t:=
 let ⟨o,e,r⟩:=x;⟨o,k _ e,r⟩
theorem hJ.is{s:Shared}(x:hJ w s.heap it a i n ep t):s.TypeIs (.ref it) "set_iterator":=let ⟨o,e,c,_⟩:=x; ⟨o,e,c⟩
noncomputable def WW(a:Addr) (n b:Nat):Obj:={ cls:=.type "set_iterator",data:=.fields #[.int 0 0,.int 0 0,.ref a,.int n 0,.int b 0] }
theorem Jv{s:Shared}{W:Value->Shared->Prop}(x:At s.heap a es ep t)(T:Tt w es t ks)(d:W (.ref s.heap.objs.size) {s with heap:=s.heap.push (WW a es.size ep)}):wpAny (model P w) B (pyIter (.ref a)) W E s:=by
 obtain⟨f,c,e,b⟩:=id x;refine OX x.is F.slot_set_iter (kS F.slot_set_iter x.is LQ ?body (F.args_set_iter_1 _))
 case body=>
  unfold Builtin.«frozenset.__iter__» Builtin.Frozenset.sizeOf;refine ae (m:=Builtin.Frozenset.slot0 "__iter__" _) (ar (ae (ae (Pe c b T.fits (ar ?_)))))
  unfold setDrawn setsByText;refine ae (ae (C4 c b T.fits ?_));dsimp only;refine ae (ae (yz (ar (ar ?_))));refine yw (λz=>?_) (λ_=>ae (ar ?_))
  ·change (_&&(!t.plain&&_))=true at z
   rw[T.tb.pl] at z;simp at z
  refine ae (wpAny_setEpoch_of c b T.fits ?_);unfold newFields;exact ae (jz (ar ⟨_,rfl, "set_iterator",_,⟨_,fL _ rfl,rfl⟩,sV.lookup,d⟩))
theorem Ik{h:Heap}{o:Obj}{i n c:Nat}(g:h.get? it=some o)(j:o.cls=.type "set_iterator")(f:o.data=.fields #[.int (slotAt w t i:Nat) 0,.int i 0,.ref a,.int n 0,.int c 0]):
  hJ w ((h.update it (Obj.mapFields (·.setIfInBounds 0 (rawInt (slotAt w t (i+1):Nat))))).update it (Obj.mapFields (·.setIfInBounds 1 (rawInt ((i:Int)+1))))) it a (i+1) n c t:=by
 have d:=rH f (·.setIfInBounds 0 (rawInt (slotAt w t (i+1):Nat)));have e:=pV _ g (yQ d);have b:=rH d (·.setIfInBounds 1 (rawInt ((i:Int)+1)));refine⟨_,pV _ e (yQ b),(C9 ..).trans ((C9 ..).trans j),?_⟩;rw[b];simp[rawInt]
theorem Ju{s:Shared}{W:Option Value->Shared->Prop}(x:At s.heap a es ep t)(T:Tt w es t ks)(d:hJ w s.heap it a i es.size ep t)(h:(ord w a es ep)[i]?=some e)
  (f:∀g:Heap,hJ w g it a (i+1) es.size ep t->Heap.SameBut it s.heap g->W (some e.2) {s with heap:=g}):wpAny (model P w) B (pyNext (.ref it)) W E s:=by
 obtain⟨r,c,p,b⟩:=id d;obtain⟨q,o,k,n⟩:=id x;have lt:i<es.size:=by
  have:=(TX.mp h).1
  rwa [BY] at this
 unfold pyNext;refine ae (yu (wpAny_callSpecial?_slot (name:=Str.ofString "__next__") d.is sV (kS sV d.is Re ?body (xP _))))
 case body=>
  refine ae (m:=slotArgs "__next__" 0 _) (ar (ae (CU c b ?_)))
  refine ae (Pe o n T.fits ?_);rw[if_neg (by simp)];refine ae (m:=setNext a (slotAt w t i) i ep) (xI x T (dg lt) ?_);rw[h];dsimp only[Option.map];refine ae (ry c b (by simp) ?_);have j:=rH b (·.setIfInBounds 0 (rawInt (slotAt w t (i+1):Nat)));have l:=pV _ c (yQ j);refine ae (ry l j (by simp) ?_);exact ar ⟨_,rfl,ar (f _ (Ik c p b) ((ng ..).trans (ng ..)))⟩
theorem Hc{B:Around}{s:Shared}{W:Option Value->Shared->Prop}(k:B.handled=none)(x:At s.heap a es ep t)(T:Tt w es t ks)(c:hJ w s.heap it a i es.size ep t)(j:i=es.size)
  (d:∀g:Heap,Heap.ExtBut it s.heap g->W none {s with heap:=g}):wpAny (model P w) B (pyNext (.ref it)) W E s:=by
 obtain⟨p,f,q,e⟩:=id c;obtain⟨o,n,h,l⟩:=id x;unfold pyNext;refine ae (yu (wpAny_callSpecial?_slot (name:=Str.ofString "__next__") c.is sV (kS sV c.is Re ?body (xP _))))
 case body=>
  refine ae (m:=slotArgs "__next__" 0 _) (ar (ae (CU f e ?_)))
  refine ae (Pe n l T.fits ?_);rw[if_neg (by simp)];refine ae (m:=setNext a (slotAt w t i) i ep) (xI x T (gO j) ?_);rw[yR (by rw[BY];lia)];dsimp only[Option.map];refine ae (ry f e (by simp) (ae ?_));simp only[newExc,newTuple];refine ae (jz (ae (m:=firstArgMember _ _) (wpAny_of_eq (a:=Value.none) (by first|rfl|(simp only[firstArgMember];rfl)) (jz ?_ (by size_fits)))) (by size_fits));simp only[raiseNew];refine ae (wpAny_handled ?_);rw[show B.in1.handled=none from k];refine ae (ar (wpAny_throw ?_));refine ae (wpAny_isInstance (T:="StopIteration") (b:=true) ?ty isSubtype_stop (ar (d _ (((ng ..).extBut.push _).push _))))
  exact⟨_,fL _ rfl,rfl⟩
theorem M9{B:Around}(x:B.handled=none)(y:a≠it)(T:Tt w es t ks):
  Walks P w B it [it,a] [it] es.size (λi v=>∃e,(ord w a es ep)[i]?=some e/\v=e.2) (λi h=>hJ w h it a i es.size ep t/\At h a es ep t) where
 sub:=λb s=>bZ.mpr (.inl (em.mp s))
 frame:=λ_ _ _ z m=>⟨z.1.kept λo e=>m it dk o e,z.2.kept λo e=>m a (bT _ (em.mpr rfl)) o e⟩
 item:=λi f n k u z d=>by
  have l:(ord w a es ep)[i]?=some ((ord w a es ep)[i]'(by rw[BY];exact u)):=mf _;exact Ju z.2 T z.1 l λg p q=>d _ g f.toks ⟨_,l,rfl⟩ ⟨p,z.2.kept λo e=>q.extBut a o y e⟩ λc o j e=>q.extBut c o (λr=>j (em.mpr r)) e
 done:=λf n k z d=>Hc x z.2 T z.1 rfl λg b=>d g f.toks λc o j e=>b c o (λq=>j (em.mpr q)) e
 self:=λi f n k z d=>by
  refine OX z.1.is x4 (kS x4 z.1.is MY ?_ (Kz _));exact ar ⟨_,rfl, "set_iterator",_,z.1.is,sV.lookup,d⟩
theorem Jo{s:Shared}(c:s.TypeIs (.ref a) "set")(d:Q false s):wpAny (model P w) B (Builtin.List.listLengthHint (.ref a)) Q E s:=by
 unfold Builtin.List.listLengthHint;refine ae (wpAny_specialOf c F.slot_set_len.lookup ?_);generalize hid:("set.__len__" : String)=id0
 wp_delta
 rw[show splitId id0=some ("set","__len__") from by subst hid; decide +kernel]
 subst hid;refine ae (wpAny_isInstance (b:=true) c sub_set_self (yw (λz=>absurd z (by decide)) (λ_=>yw (λ_=>ae (yq c (ar d))) (λz=>absurd (by decide +kernel) z))))
theorem Iu(T:Tt w es t ks):KdlSrc P w "set" a a es.size (λi v=>∃ e,(ord w a es ep)[i]?=some e/\v=e.2) (λh=>At h a es ep t) where
 type:=λ_ x=>x.is
 there:=λ_ x=>⟨x.lt,x.lt⟩
 keep:=λ_ _ x c=>x.kept λo e=>c a (.inl rfl) o e
 notList:=by decide
 notTuple:=by decide
 hint:=λ_ _ _ _ x b=>Jo x.is b
 iter:=λ_ f d x=>⟨_,_,λ_ _ b=>Jv x T b,M9 d (dO x.lt) T,⟨⟨_,fL _ rfl,rfl,rfl⟩,x.kept λo e=>dC _ e⟩⟩
end St
end L2
namespace L2
open Spec PyProof.Rows PySem.W
noncomputable def hF(a:List Nat):List Int:=a.map λ(n:Nat)=>(n:Int)
def oN(w:World) (q:Addr) (a:List Nat):HO:=.ext λh=>St.Sn w h q a
def p4(w:World) (K:Fg):List V->Hp->VK->Prop:=λb H Q=>∃(l:Addr) (a:List Nat),b=[.ref l]/\cV K H l ((hF a).map V.int)/\(∀n∈a,n<64)/\∀q,H q=none->Q (.ref q) (aZ H q (oN w q (St.met a [])))
theorem Nl{X:Cx}(i:X.calm=true):bE X (.type "set") (p4 X.w X.K):=by
 intro E s w H y t Q I r h;obtain⟨l,c,rfl,m,small,q⟩:=h;obtain⟨u,rfl,g⟩:=vals1 r;cases g;obtain⟨j,n,f,A⟩:=I.list m;refine St.IK (I.ok.hd i) f.isList (vn n) small λx p S b=>?_
 refine⟨.ref s.heap.objs.size,_,I.laid (a:=s.heap.objs.size) (o:=oN X.w s.heap.objs.size (St.met c [])) (t':=p) b (bj _) ⟨S,?_,λC v z k=>z.kept k⟩,rfl,q _ (I.hok.fresh (bj _))⟩;obtain⟨d,_,_,_,e,_⟩:=S;exact⟨d,e⟩
def i6(w:World):List V->Hp->VK->Prop:=λd H Q=>∃(a:Addr) (c:List Nat),d=[.ref a]/\H a=some (oN w a c) /\
 ∀(q:Addr) (b:List Int),H q=none->b.Perm (hF c)->b.Pairwise (·<=·)->Q (.ref q) (aZ H q (.lst (b.map V.int)))
theorem Vq{X:Cx}(hc:X.calm=true):bE X (.builtin "sorted") (i6 X.w):=by
 intro aU s σ H xs us Q I r h;obtain⟨a,ks,rfl,U,q⟩:=h;obtain⟨u,rfl,ru⟩:=vals1 r;cases ru;obtain⟨S,_,_⟩:=(show ba X.prog X.w H s.heap a (oN X.w a ks) from I.hok a _ U)
 obtain⟨J,f,j,t,ho,l,hd,T⟩:=S;have a0:=T.few;refine Srt.Tk (St.Iu (P:=X.prog) (ep:=j) T) (I.ok.hd hc) ⟨J,ho,l,hd⟩ (cL (by lia)) λvs hl hv=>?_
 have v:=St.Rh X.w a f j;have k:vs=(St.ord X.w a f j).toList.map (·.2):=by
  apply ue;intro i;by_cases hi:i<f.size
  ·have G:vs[i]?=some vs[i]:=bS (by lia);obtain⟨e,x,h3⟩:=hv i _ G;rw[G,h3,fK,gR,x]
   rfl
  ·rw[oD (by lia),oD (by rw[bh,fM,St.BY];lia)]
 generalize hL:(St.ord X.w a f j).toList=L at v k;have E:=T.el.of_perm v;have m:am ((L.map (·.1)).map V.int) vs:=by
  rw[k,eM];refine EQ λe he=>?_
  obtain⟨n,t2,hn,rfl⟩:=E.all e he;exact⟨t2,rfl⟩
 have ln:(L.map (·.1)).length=f.size:=by
  rw[bh,v.length_eq,fM]
 refine⟨Srt.dR (ones (L.map (·.1))),K8 m,λx g tk d=>KY (by lia) m,λp b g tk c y z d C Y=>?_⟩;have lv:vs.length=(L.map (·.1)).length:=by lia
 rw[lv] at y z;obtain⟨w,A,q2,q3⟩:=Mp m y z;refine⟨.ref b,_,I.laidN (o:=.lst (w.map V.int)) d C ⟨?_,_,c,q3,by simpa using Y⟩,rfl,q b w (I.away C) (A.trans E.perm) q2⟩;rw[bh,A.length_eq,ln];exact cL (by lia)
end L2
namespace Dd
open L2 PyProof.Rows
noncomputable def hD:List Int->List Int
 |[]=>[]
 |n::l=>if n∈l then hD l else n::hD l
theorem u9:∀{l:List Int},k∈hD l↔k∈l
 |[]=>Iff.rfl
 |n::l=>by
  unfold hD;split
  ·rename_i h;rw[u9 (l:=l),bZ];exact⟨.inr,λz=>z.elim (λe=>e ▸ h) id⟩
  ·rw[bZ,bZ,u9 (l:=l)]
theorem BG:∀l:List Int,(hD l).Nodup
 |[]=>mY
 |n::l=>by
  unfold hD;split
  ·exact BG l
  ·rename_i h;exact gZ.mpr ⟨λz=>h (u9.mp z),BG l⟩
theorem Ea:∀{l b:List Nat},k∈St.met l b↔k∈l\/k∈b
 |[],b=>by simp[St.met]
 |n::l,b=>by
  unfold St.met;rw[Ea (l:=l),bZ];split
  ·rename_i h;exact⟨λz=>z.elim (λa=>.inl (.inr a)) .inr,λz=>z.elim (λa=>a.elim (λe=>.inr (e ▸ h)) .inl) .inr⟩
  ·rw[bZ];exact⟨λz=>z.elim (λa=>.inl (.inr a)) (λa=>a.elim (λe=>.inl (.inl e)) .inr),λz=>z.elim (λa=>a.elim (λe=>.inr (.inl e)) .inl) (λa=>.inr (.inr a))⟩
theorem qU:∀{l a:List Nat},a.Nodup->(St.met l a).Nodup
 |[],a,h=>h
 |n::l,a,h=>by
  unfold St.met;split
  ·exact qU h
  ·rename_i c;exact qU (gZ.mpr ⟨c,h⟩)
theorem JQ{l:List Nat}(h:l.Nodup):(hF l).Nodup:=by
 unfold hF;rw[rO] at h ⊢;exact C6.mpr (h.imp λa e=>a (by lia))
theorem Ma:(hF (St.met ns [])).Perm (hD (hF ns)):=by
 refine(TW (JQ (qU mY)) (BG _)).mpr λk=>?_
 rw[u9];unfold hF;rw[bQ,bQ];constructor
 ·rintro⟨n,h,rfl⟩;exact⟨n,(Ea.mp h).elim id (λz=>by cases z),rfl⟩
 ·rintro⟨n,h,rfl⟩;exact⟨n,Ea.mpr (.inl h),rfl⟩
noncomputable def gy(n:Int):Bool:=decide (0<=n)&&decide (n<64)
theorem US{l:List Int}(h:l.all gy=true):∃b:List Nat,l=hF b/\∀n∈b,n<64:=by
 refine⟨l.map Int.toNat,?_,λn a=>?_⟩
 ·unfold hF;rw[eM];refine(yo l).symm.trans (kb λn a=>?_);have:=cZ.mp h n a;simp[gy] at this;show n=((n.toNat:Nat):Int)
  lia
 ·obtain⟨m,c,rfl⟩:=bQ.mp a;have:=cZ.mp h m c;simp[gy] at this;lia
def dW:List D->aa->bv D:=λb a=>match b with
 |[x]=>match (eS a x).bind bN with
  |some l=>if l.all gy=true then .ok (.lst ((sortI (hD l)).map .int)) a else .stuck
  |none=>.stuck
 |_=>.stuck
def T4(w:World) (K:Fg):List V->Hp->VK->Prop:=λa H Q=>p4 w K a H λu H1=>i6 w [u] H1 Q
theorem Ui{w:World}{K:Fg}:ji K dW (T4 w K):=λG H I E A z n Q g o e q=>by
 unfold dW at e;split at e
 ·obtain⟨u,rfl,a⟩:=o.one;split at e
  ·rename_i l c;obtain⟨C,r,c⟩:=rN.mp c;split at e
   ·rename_i k;cases e;obtain⟨p,y,rfl,x,j⟩:=jZ g a r;have e:=qw j c;subst e;obtain⟨h,rfl,small⟩:=US k;refine⟨p,h,rfl,cV.of x,small,λb f=>⟨b,_,rfl,zx,λt i d s m=>?_⟩⟩;have v:i=sortI (hD (hF h)):=MZ (s.trans Ma) m;subst v;exact q _ _ _ ((bx.new f _).trans (bx.new d _)) ((g.new f _).new d _) (.newL (g.new f _) d (u8 _))
   ·cases e
  ·cases e
 ·cases e
theorem FV{X:Cx}(o:X.calm=true)(r:ji X.K g (T4 X.w X.K))(i:Gl X x)(a:X.mg x=none)(m:bootBuiltins x=some (.builtin "sorted"))(l:Gl X y)(d:X.mg y=none)(j:bootBuiltins y=some (.type "set"))(q:JA X [e] f)
  (b:x≠"__name__":=by decide)(k:(x==("__debug__" : Str))=false:=by decide)(c:y≠"__name__":=by decide)(n:(y==("__debug__" : Str))=false:=by decide)(s:fh e=true:=by rfl):
  JE X (.Call (.Name x p) [.Call (.Name y p2) [e] [] pos2] [] pos) (aE g f):=
 ⟨fw (Rj (Vq o) i a m (xT (R5 (Nl o) l d j q.out c n (SU s)) wH) b k) λt H Q h=>qC r t H Q h⟩
end Dd
namespace L2
open Spec PyProof.Rows PySem.W
end L2
namespace Dd
open L2 PyProof.Rows
end Dd
namespace L2
open Spec PyProof.Rows
end L2
namespace Dd
open L2 PyProof.Rows
end Dd
namespace L2
open Spec PyProof.Rows
end L2
namespace Dd
open L2 PyProof.Rows
end Dd
namespace L2
open Spec PyProof.Rows
end L2
namespace Dd
open L2 PyProof.Rows
end Dd
namespace L2
open Spec PyProof.Rows
end L2
namespace L2
open Spec PyProof.Rows Builtin Builtin.ObjectAttr
end L2
namespace L2
open Spec PyProof.Rows
end L2
namespace Dd
open L2 PyProof.Rows
end Dd
namespace L2
open Spec PyProof.Rows
end L2
namespace Dd
open L2 PyProof.Rows
end Dd
namespace L2
open Spec PyProof.Rows
end L2
namespace Dd
open L2 PyProof.Rows
end Dd
namespace L2
open Spec PyProof.Rows
end L2
namespace Dd
open L2 PyProof.Rows
end Dd
namespace L2
open Spec PyProof.Rows
def zH(_K:Fg):V->List V->Hp->VK->Prop:=λx c H Q=>∃(a:Addr) (k:cy) (v:V) (b:List (cy×V)),x=.ref a/\c=[kV k,v]/\H a=some (.dK b)/\b.length<sizeLine /\
 (∀u,ck b k=some u->Q u H)/\(ck b k=none->Q v (aZ H a (.dK (ec b k v))))
theorem JP: DN X "dict.setdefault" (zH X.K):=by
 intro aU s σ H x xs v us Q I S J h;obtain⟨a,k,d,b,rfl,rfl,e,hl,Y,P⟩:=h;cases S;obtain⟨u,r,rfl,C,o⟩:=vals2 J;obtain⟨z,n,l,c,m⟩:=qD I.hok e;have E:l.length<=sizeLine:=by rw[←c.length];exact z
 have j:(ec b k d).length<=sizeLine:=by have:=Fm b k d;lia
 refine yp TZ m.typeIs F.entry_dict_setdefault (F.args_dict_setdefault_3 _ _ _) (kt_meets_setdefault (aX X.prog X.w) a (ju C) n r) ⟨l,m,E,λw G=>?_,λp t i A=>?_⟩
 ·have f:=c.val k;rw[G] at f;cases g:ck b k with
  |none=>rw[g] at f;exact f.elim
  |some y=>rw[g] at f;exact⟨y,H,I.tok _,f,Y y g⟩
 ·have g:ck b k=none:=by
   have f:=c.val k;rw[p] at f;cases g:ck b k with
   |none=>rfl
   |some y=>rw[g] at f;exact f.elim
  have U:∃q,t.get? a=some q:=let ⟨q,_,_,hq,_⟩:=i;⟨q,hq⟩
  exact⟨d,_,uL I (by rw[e];exact True.intro) A U (qQ j n (c.put k o) i),o,P g⟩
def mx(d:List V) (H:Hp) (Q:VK):Prop:=∃(a:Addr) (n:Int) (c:List Int) (b:List (cy×V)),d=[.ref a]/\Rd H a (.dK b)/\b.map (·.1)=(n::c).map Sum.inl/\Q (.int (cH true n c)) H
theorem Ut{X:Cx}(hc:X.calm=true):bE X (.builtin "max") mx:=by
 intro aU s σ H xs us Q I r h;obtain⟨a,n,d,l,rfl,e,ek,q⟩:=h;obtain⟨u,rfl,ru⟩:=vals1 r;cases ru;obtain⟨z,hd,c,j,dd⟩:=jt I.hok e;obtain⟨ep,J⟩:∃ep,s.heap.DictAt (aX X.prog X.w) a c ep:=by
  obtain⟨o,Y,ep,h⟩:=dd;exact⟨ep,o,Y,h⟩
 obtain⟨oI,St,m,W,au⟩:=(W.kdl_dict (prog:=X.prog) (w:=X.w) (knd:=aX X.prog X.w) (kvs:=c) (ep:=ep) hd).iter X.A.in1 s (I.ok.hd hc) J;have S:c.map (·.1)=(n::d).map Sum.inl:=j.keys.symm.trans ek;have f:c.length=(n::d).length:=by have:=congrArg List.length S;simpa using this
 have g:∀i v,(∃k x,c[i]?=some (k,x)/\(aX X.prog X.w).is k v=true)->∃t,v=.int ((n::d).getD i 0) t:=λi v p=>by
  obtain⟨k,x,hi,C⟩:=p;have P:(c.map (·.1))[i]?=some k:=by rw[fK,hi];rfl
  rw[S,fK] at P;obtain⟨y,hy,rfl⟩:=jE.mp P;rw[cK,hy];rcases mX (show gF (Sum.inl y) v=true from C) with⟨i,t,G,rfl⟩|⟨x,t,G,rfl⟩
  ·cases G;exact⟨t,rfl⟩
  ·cases G
 have A:a<s.heap.objs.size:=J.lt_size;refine call_max_walk (m _ _ ⟨s.heap.objs.size,_,_,_,_,St,_,rfl,W,au,λb hb=>?_,by rw[f];simp,CmpOf.ints_gt (λi=>(n::d).getD i 0) g,λv h' tk U C=>?_⟩)
 ·rw[CV];have E:b=s.heap.objs.size\/b=a:=by simpa using hb
  rcases E with z|z
  ·rw[z];exact yD _
  ·rw[z];exact ud A
 ·obtain⟨t,rfl⟩:=g _ _ U;rw[f,Uo (by simp)];exact⟨.int (cH true n d),H,I.kept (t':=tk) λb u e=>C b u (by simp;exact dO (cW e)) (dC _ e),⟨_,rfl⟩,q⟩
def zI(_K:Fg):V->List V->Hp->VK->Prop:=λx c H Q=>∃(a:Addr) (k:cy) (v:V) (b:List (cy×V)),x=.ref a/\c=[kV k]/\H a=some (.dK b)/\ck b k=some v/\Q v (aZ H a (.dK (df b k)))
theorem JN: DN X "dict.pop" (zI X.K):=by
 intro t s o H x m v j Q I b g h;obtain⟨a,k,d,c,rfl,rfl,e,l,q⟩:=h;cases b;obtain⟨u,rfl,f⟩:=g.one;exact FU I e f l (.inl rfl) λn p i r=>⟨d,_,i,r,q⟩
end L2
namespace Dd
open L2 PyProof.Rows
noncomputable def eF(a:List (Int×D)) (k:Int):Option D:=(a.find? λb=>decide (b.1=k)).map (·.2)
noncomputable def k6(a:List (Int×D)) (k:Int) (v:D):List (Int×D):=
 if(a.any λb=>decide (b.1=k))=true then a.map (λb=>if b.1=k then(b.1,v) else b) else a++[(k,v)]
noncomputable def ic(a:List (Int×D)) (k:Int):List (Int×D):=a.filter λb=>decide (b.1≠k)
theorem r9:(Sum.inl a:cy)=Sum.inl b↔a=b:=⟨λe=>Sum.inl.inj e,λe=>by rw[e]⟩
section
variable {K:Fg}{ρ:Loc}{H:Hp}{kvs:List (Int×D)}{vs:List (cy×V)}
theorem ei.val(h:ei K ρ H kvs vs)(k:Int):match eF kvs k with
  |some d=>∃v,ck vs (Sum.inl k)=some v/\At K ρ H d v
  |none=>ck vs (Sum.inl k)=none:=by
 induction h with
 |nil=>rfl
 |@cons p q ps qs h t ih=>
  obtain⟨b,f⟩:=h;by_cases e:p.1=k
  ·have a:eF (p::ps) k=some p.2:=by simp[eF,lF,e]
   rw[a];exact⟨q.2,vf (by rw[b,e]),f⟩
  ·have a:eF (p::ps) k=eF ps k:=by simp[eF,lF,e]
   have c:ck (q::qs) (Sum.inl k)=ck qs (Sum.inl k):=ve (by rw[b,r9];exact e);rw[a,c];exact ih
theorem ei.keys(h:ei K ρ H kvs vs):vs.map (·.1)=(kvs.map (·.1)).map Sum.inl:=by
 induction h with
 |nil=>rfl
 |@cons p q ps qs h t ih=>rw[ce,ce,ce,ih,h.1]
theorem ei.put(h:ei K ρ H kvs vs)(k:Int){d:D}{v:V}(a:At K ρ H d v):ei K ρ H (k6 kvs k d) (ec vs (Sum.inl k) v):=by
 have b:∀{kvs:List (Int×D)}{vs:List (cy×V)},ei K ρ H kvs vs->(kvs.any λf=>decide (f.1=k))=(vs.any λf=>decide (f.1=Sum.inl k)):=λh=>by
  induction h with
  |nil=>rfl
  |@cons p q ps qs h t ih=>
   rw[rq,rq,ih,h.1]
   congr 1
   simp only[r9]
 unfold k6 ec;rw[b h];split
 ·rename_i j;clear j b
  induction h with
  |nil=>exact .nil
  |@cons p q ps qs h t ih=>
   refine .cons ?_ ih;obtain⟨c,i⟩:=h;dsimp only;by_cases e:p.1=k
   ·rw[if_pos e,if_pos (by rw[c,e])];exact⟨c,a⟩
   ·rw[if_neg e,if_neg (by rw[c,r9];exact e)];exact⟨c,i⟩
 ·have g:∀{kvs:List (Int×D)}{vs:List (cy×V)},ei K ρ H kvs vs->ei K ρ H (kvs++[(k,d)]) (vs++[(Sum.inl k,v)]):=λh=>by
   induction h with
   |nil=>exact .cons ⟨rfl,a⟩ .nil
   |cons h t ih=>exact .cons h ih
  exact g h
theorem ei.drop(h:ei K ρ H kvs vs)(k:Int):ei K ρ H (ic kvs k) (df vs (Sum.inl k)):=by
 unfold ic df
 induction h with
 |nil=>exact .nil
 |@cons p q ps qs h t ih=>
  by_cases e:p.1=k
  ·rw[g9 (by simp[e]),g9 (by simp[h.1,e])];exact ih
  ·rw[gS (by simp[e]),gS (by simp[h.1,e])];exact .cons h ih
theorem ei.length(h:ei K ρ H kvs vs):kvs.length=vs.length:=rx h
end
section
variable {H:Hp}{vs:List (cy×V)}
theorem BE{p:Addr}(g:H p=some (.dK vs)):∀a u,H p≠some (.frz a u):=λa u z=>by rw[g] at z;cases z
end
def iF:SE:=λ_ a=>.ok (.ref a.length) (a++[.dI []])
def ku(f:SE) (g:SA):SE:=λc e=>(f c e).bind λx b=>match x with
 |.ref n=>match b[n]? with
  |some (.dI _)=>(g c b).bind λd a=>match d,a[n]? with
   |[.int k],some (.dI kvs)=>match eF kvs k with
    |some v=>.ok v (a.set n (.dI (ic kvs k)))
    |none=>.stuck
   |_,_=>.stuck
  |_=>.stuck
 |_=>.stuck
def fW(f:SE) (g:SA):SE:=λc h=>(f c h).bind λx b=>match x with
 |.ref n=>match b[n]? with
  |some (.dI _)=>(g c b).bind λe a=>match e,a[n]? with
   |[.int k,d],some (.dI kvs)=>if kvs.length<sizeLine then(match eF kvs k with
    |some v=>.ok v a
    |none=>.ok d (a.set n (.dI (k6 kvs k d)))) else .stuck
   |_,_=>.stuck
  |_=>.stuck
 |_=>.stuck
def gI:List D->aa->bv D:=λb a=>match b with
 |[.ref n]=>match a[n]? with
  |some (.dI kvs)=>match kvs.map (·.1) with
   |k::ks=>.ok (.int (cH true k ks)) a
   |[]=>.stuck
  |_=>.stuck
 |_=>.stuck
def jd(f:SE):ST:=λb c=>(f b c).bind λv a=>match v with
 |.ref n=>match a[n]? with
  |some (.dI kvs)=>.ok (!kvs.isEmpty) a
  |_=>.stuck
 |_=>.stuck
theorem Le:JE X (.Dict [] [] pos) iF:=⟨fw Mz λi H Q b p f=>by
 obtain⟨g,j,h,v,d,a,c,e,q⟩:=b;cases e;obtain⟨E,R⟩:=c.alloc f (x:=.dI []) (o:=.dK []) λE=>⟨[],zx,.nil⟩
 exact q _ _ _ E R (.last c.len.symm)⟩
section
variable {X:Cx}{o:Expr}{e:Expr}{a:Expr}{es:List Expr}{f:SE}{ga:SA}{apos:Pos}{cpos:Pos}
theorem IW(ho:JE X o f)(ha:JA X (e::es) ga)(d:attributeBase o "pop" X.env (eval o X.env)=eval o X.env:=by rfl)
  (l:((backTo cpos (starEach (e::es) X.env)).all (λx=>!x.1)&&(backToKw cpos (keywordEach [] X.env)).all (λx=>x.1.isSome)
   && decide ((e::es).length+([]:List Keyword).length+(if([]:List Keyword).isEmpty then 0 else 1)<30))=true:=by rfl)
  (c:(apos.endLine==cpos.line)=true:=by rfl)(hs:starEach (e::es) X.env=(false,eval e X.env)::starEach es X.env:=by rfl)(b:(backTo cpos (starEach es X.env)).any (·.1)=false:=by rfl):
  JE X (.Call (.Attribute o "pop" apos) (e::es) [] cpos) (ku f ga):=⟨fw (nQ Dz Dt F.type_dict_pop JN ho.out ha.out d l c hs b) λτ H Q t=>by
 obtain⟨ρ,I,au,v,a4,a,rp,e,q⟩:=t;obtain⟨x,j,e1,e⟩:=za e;refine⟨ρ,I,au,x,j,a,rp,e1,λr H1 u S h P=>?_⟩;split at e
 ·rename_i n;split at e
  ·rename_i U h0;obtain⟨p,rfl,hp,a0,g0,_⟩:=iO h P h0 (by intro z;cases z);obtain⟨ys,s,e2,e⟩:=za e;refine⟨.inr (.inr (.inl ⟨rfl,.inl ⟨_,g0⟩⟩)),r,I,j,ys,s,a.ext S,h,e2,λm H2 ws A g a2=>?_⟩;split at e
   ·rename_i k Y hn;split at e
    ·rename_i z hv;cases e;obtain⟨w,rfl,a3⟩:=a2.one;cases a3;obtain⟨p',ep,i,C,y,G⟩:=iO g (P.ext A) hn (by intro z;cases z);cases ep;have J:=G.val k;rw[hv] at J;obtain⟨vv,g5,g6⟩:=J;have E:bx m H2 m (aZ H2 p (.dK (df C (Sum.inl k)))):=bx.wr i (BE y) _;exact⟨p,Sum.inl k,vv,C,rfl,rfl,y,g5,q _ _ _ ((S.trans A).trans E) (g.wr i (BE y) ⟨_,zx,(G.drop k).ext E⟩) (g6.ext E)⟩
    ·cases e
   ·cases e
  ·cases e
 ·cases e⟩
theorem Lg(ho:JE X o f)(ha:JA X (e::es) ga)(i:attributeBase o "setdefault" X.env (eval o X.env)=eval o X.env:=by rfl)
  (A:((backTo cpos (starEach (e::es) X.env)).all (λx=>!x.1)&&(backToKw cpos (keywordEach [] X.env)).all (λx=>x.1.isSome)
   && decide ((e::es).length+([]:List Keyword).length+(if([]:List Keyword).isEmpty then 0 else 1)<30))=true:=by rfl)
  (g:(apos.endLine==cpos.line)=true:=by rfl)(hs:starEach (e::es) X.env=(false,eval e X.env)::starEach es X.env:=by rfl)(b:(backTo cpos (starEach es X.env)).any (·.1)=false:=by rfl):
  JE X (.Call (.Attribute o "setdefault" apos) (e::es) [] cpos) (fW f ga):=⟨fw (nQ Dz TZ F.type_dict_setdefault JP ho.out ha.out i A g hs b) λτ H Q S=>by
 obtain⟨ρ,σ,au,v,a7,a,rp,e,q⟩:=S;obtain⟨x,t,e1,e⟩:=za e;refine⟨ρ,σ,au,x,t,a,rp,e1,λG H1 u x1 r a1=>?_⟩;split at e
 ·rename_i n;split at e
  ·rename_i a0 h0;obtain⟨p,rfl,hp,a6,g0,_⟩:=iO r a1 h0 (by intro z;cases z);obtain⟨ys,I,e2,e⟩:=za e;refine⟨.inr (.inr (.inl ⟨rfl,.inl ⟨_,g0⟩⟩)),G,σ,t,ys,I,a.ext x1,r,e2,λC H2 ws J c a2=>?_⟩;split at e
   ·rename_i k d a5 hn;split at e
    ·rename_i m;obtain⟨w,w2,rfl,a3,a4⟩:=a2.two;cases a3;obtain⟨p',ep,s,P,Y,U⟩:=iO c (a1.ext J) hn (by intro z;cases z);cases ep;have l:=U.val k;refine⟨p,Sum.inl k,w2,P,rfl,rfl,Y,by rw[←U.length];exact m,λy h=>?_,λh=>?_⟩
     ·split at e
      ·rename_i z j;cases e;rw[j] at l;obtain⟨vv,g5,g6⟩:=l;rw[g5] at h;cases h;exact q _ _ _ (x1.trans J) c g6
      ·rename_i j;rw[j] at l;rw[show ck P (Sum.inl k)=none from l] at h;cases h
     ·split at e
      ·rename_i z j;rw[j] at l;obtain⟨vv,g5,g6⟩:=l;rw[g5] at h;cases h
      ·rename_i j;cases e;have E:bx C H2 C (aZ H2 p (.dK (ec P (Sum.inl k) w2))):=bx.wr s (BE Y) _;exact q _ _ _ ((x1.trans J).trans E) (c.wr s (BE Y) ⟨_,zx,(U.put k a4).ext E⟩) (a4.ext E)
    ·cases e
   ·cases e
  ·cases e
 ·cases e⟩
end
section
variable {e:Expr}{a:Expr}
theorem II{K:Fg}:ji K gI mx:=λs H t r o z h Q b c e q=>by
 unfold gI at e;split at e
 ·split at e
  ·rename_i n d f;split at e
   ·rename_i k i l;cases e;obtain⟨u,rfl,a⟩:=c.one;obtain⟨p,rfl,v,m,g,j⟩:=iO b a f (by intro z;cases z);exact⟨p,k,i,m,rfl,.inl g,by rw[j.keys,l],q _ _ _ (.refl _ _) b (.int _)⟩
   ·cases e
  ·cases e
 ·cases e
end
section
variable {X:Cx}{e:Expr}{a:Expr}{f:SE}
theorem Lz(h:JE X a f)(G:∀b,isTrue a X.env b=(do let v ←b;standAt a.pos;holding [v] (truthy v)):=by intro _;rfl):JT X a (jd f):=⟨kO (Rk h.out G) λS H Q i=>by
 obtain⟨r,A,w,v,s,k,y,e,q⟩:=i;obtain⟨x,j,I,e⟩:=za e;refine⟨r,A,w,x,j,k,y,I,λl H1 u J d E=>?_⟩;split at e
 ·rename_i n;split at e
  ·rename_i c m;cases e;obtain⟨p,rfl,P,g,C,t⟩:=iO d E m (by intro z;cases z);have o:c.isEmpty=g.isEmpty:=by
    have:=t.length;cases c<;>cases g<;>simp at this ⊢
   exact⟨_,.inr (.inr ⟨g,C,by rw[o]⟩),q _ _ J d⟩
  ·cases e
 ·cases e⟩
end
end Dd
namespace L2
open Spec PyProof.Rows
end L2
namespace Dd
open L2 PyProof.Rows
end Dd
namespace L2
open Spec PyProof.Rows
end L2
namespace Dd
open Spec PyProof.Rows L2
end Dd
namespace L2
open Spec PyProof.Rows PySem.W
end L2
namespace Dd
open Spec PyProof.Rows L2
end Dd
namespace Dd
open L2 PyProof.Rows
theorem sv{X:Cx}(d:X.N[i]?=some x:=by rfl)(c:uy X.env.scope x:=by first|exact Or.inl rfl|exact Or.inr (Or.inl rfl)|exact Or.inr (Or.inr rfl))(b:(x==("__debug__" : Str))=false:=by decide)
 (a:(x==("__classdict__" : Str))=false:=by decide):JE X (.Name x pos) (aA i):=iM (pv i d c b a)
theorem bO{X:Cx}(c:fI X.prog X.w X.K X.mg X.base x k ps F)(m:cg j X.A)(i:JA X (e::es) g)(l:∀f q v a,F f q=.ok v a->f.length=ps.length:=by exact λ_ _ _ _ h=>BB h)(r:k<=j:=by first|decide|lia)(o:Gl X x:=by rfl)
 (d:(x==("__debug__" : Str))=false:=by decide)(n:starEach (e::es) X.env=(false,eval e X.env)::starEach es X.env:=by rfl)(b:(backTo pos (starEach es X.env)).any (·.1)=false:=by rfl):JE X (.Call (.Name x p) (e::es) [] pos) (aE F g):=By c l (m.mono r) o i d n b
theorem cD{X:Cx}{a:Pos}(b:X.N.Nodup)(c:JE X e f)(d:X.N[i]?=some x:=by rfl)(h:L2.Loc X.env.scope x:=by first|exact Or.inl rfl|exact Or.inr rfl)(g:swapsWith e (some (.Name x pos')) a.line X.env=pure false:=by rfl)(j:X.fn x=true\/X.env.scope.names.lookup x=some .local:=by first|exact .inl rfl|exact .inr rfl|assumption):
 JS X (.Assign [.Name x pos'] e a) (aF i f):=Bz b d h c g j
theorem eQ{X:Cx}(c:X.N.Nodup)(d:X.N[i]?=some x:=by rfl)(a:L2.Loc X.env.scope x:=by first|exact Or.inl rfl|exact Or.inr rfl)(b:X.fn x=true\/X.env.scope.names.lookup x=some .local:=by first|exact .inl rfl|exact .inr rfl|assumption):JG X (.Name x pos) (gN i):=iX c d a b
theorem fQ(c:JI X tg iter it)(e:JG X tg bd)(a:JB X body b)(f:PassesOwn (model X.prog X.w) X.A X.env X.xe:=by exact tZ)(g:X.calm=true:=by rfl)(d:∀x,foldedSetIterable iter X.env x=pure x:=by intro _;rfl):
 JS X (.For tg iter body [] pos) (bP it bd b):=xm f g c e a d
theorem DJ(N:List Str) (g:JI X (.Name x p) iter it)(e:∀d C c s H,JE (eY X N scope d C c s H) elt f)(b:N.Nodup:=by decide +kernel)(S:bA X N k is scope:=by exact kD (by rfl))(a:X.calm=true:=by rfl)
  (i:N.Nodup->∀d C c s H,JG (eY X N scope d C c s H) (.Name x p) (gN 0):=by exact λb _ _ _ _ _=>eQ b)(h:∀x,foldedSetIterable iter X.env x=pure x:=by intro _;rfl):JE X (.ListComp elt [⟨.Name x p,iter,[],0⟩] scope pos) (aG it k is (gN 0) aI f):=
 mR a g (i b) (λ_ _ _ _ _=>BS) e S h
theorem bm(c:JE X a f)(b:fh a=true:=by rfl):JA X [a] (aB f aC):=zq c iP b
theorem bG(e:JE X a f)(c:JE X b g)(h:fh a=true:=by rfl)(d:fh b=true:=by rfl):JA X [a,b] (aB f (aB g aC)):=zq e (bm c d) h
theorem ez(d:JE X a f)(c:JE X b g):JE X (.BinOp a .Add b pos) (aS aM f g):=eK J3 HC d c
theorem iy(d:JE X a f)(c:JE X b g):JE X (.BinOp a .Sub b pos) (aS cf f g):=eK HM (iW λ_ _ _ _=>.int _) d c
structure En where
 P:Program
 w:World
 K:Fg
 mg:Str->Option Value
 base:Heap
 h:Heap
 X:K.In h
 G:h.Ns mainGlobals mg
abbrev Cl(Y:En) (x:Str) (k:Nat) (a:List Str) (F:cS):Prop:=fI Y.P Y.w Y.K Y.mg Y.base x k a F
section
variable {Y:En}{x:Str}{au:Stmt}{ps:List Str}{k:Nat}{b:SS}
theorem dG(N:List Str)(T:ai Y.K x au)(g:N.Nodup->∀(f:Addr) (c:Value) (A:Around) (e:List Env) (s:Shared) (H:Hp) (E:XK),cg k (A.deeper (envOfC x (ag au) s.heap.objs.size f c))->JB (gn jX Y.P Y.w Y.K Y.mg Y.base N x (ag au) f c A e s H E).nox (bq au) b)
 (S:cb N ps (ag au):=by exact⟨rfl,rfl,rfl,by decide +kernel,rfl,by decide +kernel,by decide +kernel⟩)
 (m:∀(kV h i:Value) (j:Option Addr) (c l:Value) (a:List Value),a.length=ps.length->bindArgs (W.fnOf x x (cr au) (bq au) (ag au) .none kV h i j c l) ⟨a,[]⟩=pure (ps.zip a):=by
  first|exact λ_ _ _ _ _ _ a d=>AF a d λ_=>rfl|exact λ_ _ _ _ _ _ a d=>oV a d λ_ _=>rfl|exact λ_ _ _ _ _ _ a d=>AE a d λ_ _ _=>rfl|exact λ_ _ _ _ _ _ a d=>P7 a d λ_ _ _ _=>rfl|exact λ_ _ _ _ _ _ a d=>AG a d rfl):
 Cl Y x (k+1) ps (cB N.length ps.length b):=QH T Y.X Y.G S m (g S.nd)
end
end Dd
namespace L2
open Spec PyProof.Rows PySem.W
end L2
namespace Dd
open L2 PyProof.Rows
end Dd
namespace L2
open Spec PyProof.Rows
end L2
namespace Dd
open L2 PyProof.Rows
end Dd
namespace L2
open Spec PyProof.Rows
end L2
namespace Dd
open L2 PyProof.Rows
end Dd
namespace L2
open Spec PyProof.Rows PySem.W
section
variable {K:Type}[DecidableEq K](knd:PySem.KeyKind prog w K)
variable {knd}
end
end L2
namespace Dd
open Spec PyProof.Rows PySem.W L2
end Dd
namespace Dd
open L2
def vg:cS:=cB 5 2 (aD (aF 2 (eC (.int 0)))
 (aD (eH (eB (aS fB (aA 1) (aE cu (aB (aA 0) aC)))) (aF 2 (aE lj (aB (aS cF (aA 0) (aA 1)) aC))) eV)
 (aD (aF 3 (aS aM (aS bC (eC (.int 7919)) (aA 1)) (eC (.int 17))))
 (aD (bP (h7 (aB (aE ge (aB (aE cu (aB (aA 0) aC)) (aB (eC (.int 60)) aC))) aC)) (gN 4) (aF 3 (aS fU (aS aM (aS aM (aS bC (aA 3) (eC (.int 48271))) (aS fU (aS cF (aA 0) (aA 4)) (eC (.int 2147483647)))) (aA 4)) (eC (.int 2147483629)))))
 (aD (eH (eB (aS fB (aA 2) (aS P4 (eC (.int 10)) (eC (.int 18))))) (aF 2 (eC (.int 0))) eV)
 (aW (de (aB (aA 2) (aB (aA 3) aC)))))))))
def zl:cS:=cB 5 2 (aD (eH (eB (aS lO (aS cF (aA 0) (eC (.int 0))) (eC (.int 0)))) (aD (aF 2 (aS fU (aS cF (aA 0) (eC (.int 0))) (aA 1)))
 (aD (ff (aA 0) (eC (.int 0)) (aS gB (aS cF (aA 0) (eC (.int 0))) (aA 1)))
 (aW (aA 2)))) eV)
 (aD (aF 3 (eC (.int 0)))
 (aD (aF 4 (eC (.int 1)))
 (aD (dE (eB (aS fB (aA 4) (aA 1))) (aD (ff (aA 0) (eC (.int 1)) (aS fU (aS aM (aS bC (aS cF (aA 0) (eC (.int 1))) (eC (.int 48271))) (eC (.int 7919))) (eC (.int 2147483647))))
 (aD (aF 3 (aS aM (aS bC (aA 3) (eC (.int 1073741789))) (aS fU (aS bC (aS gB (aS cF (aA 0) (eC (.int 1))) (eC (.int 8))) (eC (.int 69621))) (eC (.int 1073741789)))))
 (aF 4 (aS bC (aA 4) (eC (.int 1073741789)))))))
 (aW (aS fU (aA 3) (aA 1)))))))
def jY:cS:=cB 2 2 (eH (eB (aS (iB false) (aA 1) (aA 0))) (bR (kx (aA 0) (aA 1))) (f6 (aA 0) (aA 1) (eC (.bl true))))
def Fs:SS:=(f6 (aA 1) (aA 2) (lh (iG (aA 1) (aA 2) (eC (.bl false)))))
def zw:cS:=cB 3 1 (aD (aF 1 eX)
 (aD (bP (aH (aA 0)) (gN 2) Fs)
 (aW (aE bJ (aB (aE bi (aB (aG (h8 (aA 1)) 1 [1] (gN 0) (cM (aS eW (aA 1) (aA 0))) (aA 0)) aC)) aC)))))
def Fy:SS:=(aF 2 (aS gB (aS bC (aA 2) (aS cf (aA 0) (aA 3))) (aS aM (aA 3) (eC (.int 1)))))
def tJ:cS:=cB 4 2 (aD (aF 2 (eC (.int 1)))
 (aD (bP (h7 (aB (aA 1) aC)) (gN 3) Fy)
 (aW (aA 2))))
def Fx:SS:=(eH (eB (aS jL (aS fU (aE tJ (aB (aS cf (aS cf (aA 1) (aA 3)) (eC (.int 1))) (aB (aS cf (aA 0) (aS bC (eC (.int 2)) (aA 3))) aC))) (eC (.int 2))) (eC (.int 1)))) (bR (cq (aA 2) (aB (aE bJ (aB (aG (aH (dU (aB (aS cf (aS aM (aA 0) (aA 1)) (aA 3)) (aB (aA 3) aC)))) 1 [] (gN 0) (eB (aS lO (aA 0) (eC (.int 0)))) (aA 0)) aC)) aC))) eV)
def vk:cS:=cB 4 2 (aD (aF 2 (de aC))
 (aD (bP (h7 (aB (aS aM (aS gB (aA 0) (eC (.int 2))) (eC (.int 1))) aC)) (gN 3) Fx)
 (aW (aE bJ (aB (aE bi (aB (aA 2) aC)) aC)))))
def Cz:cS:=cB 4 3 (aD (aF 3 (aG (aH (aE vk (aB (aS cF (aA 1) (aA 2)) (aB (aS cF (aA 1) (aS aM (aA 2) (eC (.int 1)))) aC)))) 1 [1,2] (gN 0) aI (aS aM (aS aM (kt (aA 1) dv (dr (aA 2))) (aA 0)) (kt (aA 1) (dr (aS aM (aA 2) (eC (.int 2)))) dv))))
 (aW (aE zw (aB (aS aM (aS aM (aE eJ (aB (aA 0) aC)) (dU (aB (aA 1) aC))) (aA 3)) aC))))
def pz:cS:=cB 1 1 (aW (aG (h7 (aB (aS cf (aE cu (aB (aA 0) aC)) (eC (.int 1))) aC)) 1 [0] (gN 0) (eB (aS fB (aS cF (aA 1) (aA 0)) (aS bC (eC (.int 2)) (aS cF (aA 1) (aS aM (aA 0) (eC (.int 1))))))) (aA 0)))
def Ft:SS:=(eH (eB (aS lO (aA 4) (eC (.int 0)))) (aD (bR (cq (aA 3) (aB (aS aM (eC (.int 1)) (aE zl (aB (aA 0) (aB (aS cF (dU (aB (aA 4) (aB (aE ge (aB (aA 4) (aB (eC (.int 5)) aC))) (aB (aE ge (aB (aA 4) (aB (eC (.int 2)) aC))) aC)))) (aE zl (aB (aA 0) (aB (eC (.int 3)) aC)))) aC)))) aC)))
 (aF 4 (aS cf (aA 4) (aS cF (aA 3) (kr fA (eC (.int 1))))))) eV)
def nE:cS:=cB 6 3 (aD (aF 3 (de aC))
 (aD (aF 4 (aA 1))
 (aD (bP (h7 (aB (aE zl (aB (aA 0) (aB (aS aM (aA 2) (eC (.int 1))) aC))) aC)) (gN 5) Ft)
 (aW (aE bJ (aB (aA 3) aC))))))
def nG:cS:=cB 4 4 (aW (aE zw (aB (aG (h7 (aB (aE zl (aB (aA 0) (aB (aS aM (aA 1) (eC (.int 1))) aC))) aC)) 1 [0,2,3] (gN 0) aI (aE nE (aB (aA 1) (aB (aA 2) (aB (aA 3) aC))))) aC)))
def FC:SS:=(f6 (aA 1) (aA 2) (eC (.bl true)))
def Cp:cS:=cB 3 1 (aD (aF 1 eX)
 (aD (bP (aH (aA 0)) (gN 2) FC)
 (aW (aA 1))))
def Cg:cS:=cB 2 2 (aW (aS jL (aS mz (aA 0) (aA 1)) (aA 1)))
def FG:SS:=(eH (cM (aE Cg (aB (aS cf (aS cf (aA 1) (aA 3)) (eC (.int 1))) (aB (aS cf (aA 0) (aS bC (eC (.int 2)) (aA 3))) aC)))) (bR (cq (aA 2) (aB (uw (eB (aS lO (aA 3) (eC (.int 0)))) (aR (aB (aS cf (aS aM (aA 0) (aA 1)) (aA 3)) (aB (aA 3) aC))) (aR (aB (aS aM (aA 0) (aA 1)) aC))) aC))) eV)
def vC:cS:=cB 4 2 (aD (aF 2 (de aC))
 (aD (bP (h7 (aB (aS aM (aS gB (aA 0) (eC (.int 2))) (eC (.int 1))) aC)) (gN 3) FG)
 (aW (aE bi (aB (aA 2) aC)))))
def ra:cS:=cB 4 2 (aD (aF 2 (kt (aA 0) dv (dr (aA 1))))
 (aD (aF 3 (kt (aA 0) (dr (aS aM (aA 1) (eC (.int 2)))) dv))
 (aW (aG (aH (aE vC (aB (aS cF (aA 0) (aA 1)) (aB (aS cF (aA 0) (aS aM (aA 1) (eC (.int 1)))) aC)))) 1 [3,2] (gN 0) aI (aS aM (aS aM (aA 2) (aA 0)) (aA 1))))))
def j5:cS:=cB 1 1 (aW (iH (aE eO (aB (aA 0) (aB (eC (.ty "int")) aC))) (lh (aE eO (aB (aA 0) (aB (eC (.ty "bool")) aC))))))
def vr:cS:=cB 2 2 (aW (iH (aE eO (aB (aA 1) (aB (eC (.ty "tuple")) aC))) (iH (aE (iI true) (aB (aG (aH (aA 1)) 1 [] (gN 0) aI (aE j5 (aB (aA 0) aC))) aC)) (aS (iB false) (aA 1) (aA 0)))))
def Cv:cS:=cB 2 2 (aW (aS fB (aA 0) (aS bC (eC (.int 2)) (aA 1))))
def nF:cS:=cB 2 2 (aD (eH (qb (fG (cM (aE j5 (aB (aA 1) aC)))) (fG (eB (gG zV fB (eC (.int 0)) (aA 1) (aS cf (aE cu (aB (aA 0) aC)) (eC (.int 1))))))) (aW (eC (.bl false))) eV)
 (aW (aE Cv (aB (aS cF (aA 0) (aA 1)) (aB (aS cF (aA 0) (aS aM (aA 1) (eC (.int 1)))) aC)))))
def FF:SS:=(bR (aE jY (aB (aA 0) (aB (aA 3) aC))))
def Cu:cS:=cB 4 3 (aD (eH (fG (cM (aE vr (aB (aA 0) (aB (aA 1) aC))))) fR eV)
 (aD (eH (fG (cM (aE nF (aB (aA 1) (aB (aA 2) aC))))) fR eV)
 (aD (bR (aE jY (aB (aA 0) (aB (aA 1) aC))))
 (bP (aH (aE ra (aB (aA 1) (aB (aA 2) aC)))) (gN 3) FF))))
def BM:cS:=cB 1 1 (aW (aG (h7 (aB (aS cf (aE cu (aB (aA 0) aC)) (eC (.int 1))) aC)) 1 [0] (gN 0) (cM (aE nF (aB (aA 1) (aB (aA 0) aC)))) (aA 0)))
def sZ:cS:=cB 1 1 (aW (aE gp (aB (aG (ja (aA 0)) 2 [] (gT 2 (bf (gN 0) (bf (gN 1) dA))) aI (aS bC (aA 0) (aA 1))) aC)))
def SZ:SS:=(aD (eH (eB (aS WT (aA 4) (aA 1))) (bR (cq (aA 3) (aB (aA 4) aC))) eV)
 (aD (eH (eB (aS jL (aA 4) (aA 0))) mr eV)
 (aF 4 (aS mz (aS cf (aA 4) (aA 0)) (aA 0)))))
def BN:cS:=cB 5 3 (aD (aF 3 (de aC))
 (aD (aF 4 (eC (.int 0)))
 (aD (dE (eB (aS zV (aA 4) (aA 2))) SZ)
 (aW (mI (aA 3))))))
def TM:SS:=(bR (cq (aA 3) (aB (aR (aB (aS aM (aA 4) (aR (aB (aS aM (aA 1) (aA 6)) aC))) (aB (aS cf (aA 5) (aA 6)) aC))) aC)))
def TN:SS:=(bP (aH (aE BN (aB (aA 1) (aB (aS cf (aA 5) (aA 2)) (aB (aA 5) aC))))) (gN 6) TM)
def CA:cS:=cB 7 3 (aD (aF 3 (de aC))
 (aD (bP (aH (aA 0)) (gT 2 (bf (gN 4) (bf (gN 5) dA))) TN)
 (aW (mI (aA 3)))))
def TQ:SS:=(aD (jI 3 (oI (λ_ _=>True) λi j=>.int (i-j)) (aA 4))
 (aF 2 (aE CA (aB (aA 2) (aB (aA 4) (aB (aA 3) aC))))))
def CB:cS:=cB 5 2 (aD (aF 2 (dU (aB (aR (aB (aR aC) (aB (aA 1) aC))) aC)))
 (aD (aF 3 (aE gp (aB (aA 0) aC)))
 (aD (bP (aH (aA 0)) (gN 4) TQ)
 (aW (aG (aH (aA 2)) 2 [] (gT 2 (bf (gN 0) (bf (gN 1) dA))) aI (aA 0))))))
def SX:SS:=(bR (aE jY (aB (aA 2) (aB (aA 4) aC))))
def SY:SS:=(eH (eB (aS zV (aA 1) (aE gp (aB (aA 3) aC)))) (bP (aH (aE CB (aB (aA 3) (aB (aA 1) aC)))) (gN 4) SX) eV)
def tf:cS:=cB 5 2 (aD (eH (qb (fG (cM (aE j5 (aB (aA 1) aC)))) (eB (aS fB (aA 1) (eC (.int 0))))) fR eV)
 (aD (aF 2 eX)
 (aD (bP (aH (aA 0)) (gN 3) SY)
 (aW (aE bJ (aB (aE bi (aB (aA 2) aC)) aC))))))
def Fz:SS:=(bR (aE jY (aB (aA 1) (aB (aA 2) aC))))
def tK:cS:=cB 3 1 (aD (aF 1 eX)
 (aD (bP (aH (aA 0)) (gN 2) Fz)
 (aW (aE bJ (aB (aE bi (aB (aA 1) aC)) aC)))))
def ny:cS:=cB 2 2 (aW (aE tK (aB (aS aM (aA 0) (aA 1)) aC)))
def TH:SS:=(bR (eh (aA 6) (aB (aG (h7 (aB (aS aM (aE ge (aB (aA 5) (aB (aA 8) aC))) (eC (.int 1))) aC)) 1 [7,8,5] (gN 0) (eB (aS jL (aS mz (aA 3) (aA 0)) (aA 0))) (aR (aB (aS aM (aA 1) (aR (aB (aS aM (aA 3) (aA 0)) aC))) (aB (aS cf (aA 2) (aA 0)) aC)))) aC)))
def FE:SS:=(aD (aF 6 (de aC))
 (aD (bP (aH (aA 4)) (gT 2 (bf (gN 7) (bf (gN 8) dA))) TH)
 (aF 4 (mI (aA 6)))))
def TJ:SS:=(aD (aF 4 (dU (aB (aR (aB (aR aC) (aB (aA 1) aC))) aC)))
 (aD (bP (aH (aA 3)) (gN 5) FE)
 (bR (eh (aA 2) (aB (aG (aH (aA 4)) 2 [] (gT 2 (bf (gN 0) (bf (gN 1) dA))) (eB (aS jL (aA 1) (eC (.int 0)))) (aA 0)) aC)))))
def vz:cS:=cB 9 2 (aD (aF 2 (de aC))
 (aD (bP (aH (aA 0)) (gN 3) TJ)
 (aW (aE zw (aB (mI (aA 2)) aC)))))
def Rz:cS->SS:=λa=>(aD (aF 4 (aE tf (aB (aA 1) (aB (aA 3) aC))))
 (eH (cM (aA 4)) (aD (aF 5 (aG (aH (aA 0)) 1 [3] (gN 0) (jQ (cM (aA 0)) (eB (aS jL (aS cF (aA 0) (kr fA (eC (.int 1)))) (aA 1)))) (kt (aA 0) dv (dr (kr fA (eC (.int 1)))))))
 (aF 2 (aE ny (aB (aA 2) (aB (aE a (aB (aA 5) (aB (aA 4) aC))) aC))))) eV))
def qf:cS->cS:=λa=>cB 6 2 (aD (aF 2 (uw (eB (aS (i8 false) (aR aC) (aA 0))) (aA 1) (aR aC)))
 (aD (bP (aH (aE dW (aB (aG (aH (aA 0)) 1 [] (gN 0) (cM (aA 0)) (aS cF (aA 0) (kr fA (eC (.int 1))))) aC))) (gN 3) (Rz a))
 (aW (aA 2))))
def Tx:SS:=(bR (aE Cu (aB (aA 2) (aB (aA 3) (aB (aA 4) aC)))))
def B5:cS:=cB 5 2 (aD (aF 2 (aE Cp (aB (aA 0) aC)))
 (aD (bP (aH (aA 1)) (gT 2 (bf (gN 3) (bf (gN 4) dA))) Tx)
 (aW (aE bJ (aB (aE bi (aB (aA 2) aC)) aC)))))
def vy:cS:=cB 2 2 (bR (aE jY (aB (fW (aA 0) (aB (aE sZ (aB (aA 1) aC)) (aB eX aC))) (aB (aA 1) aC))))
def BO:SS:=(bR (aE vy (aB (aA 1) (aB (aA 2) aC))))
def Et:SS:=(bR (aE vy (aB (aA 1) (aB (aA 6) aC))))
def Eu:SS:=(aD (aF 5 (aE BM (aB (aA 2) aC)))
 (eH (cM (aA 5)) (aD (bR (cq (aA 3) (aB (aR (aB (aA 2) (aB (aS cF (aA 5) (eC (.int 0))) aC))) aC)))
 (bP (aH (aE ra (aB (aA 2) (aB (aS cF (aA 5) (eC (.int 0))) aC)))) (gN 6) Et)) eV))
def Ev:SS:=(aD (aF 4 (ku (aA 1) (aB (aE gI (aB (aA 1) aC)) aC)))
 (bP (aH (aE bi (aB (aA 4) aC))) (gN 2) Eu))
def nI:cS:=cB 7 1 (aD (aF 1 iF)
 (aD (bP (aH (aA 0)) (gN 2) BO)
 (aD (aF 3 (de aC))
 (aD (dE (jd (aA 1)) Ev)
 (aW (mI (aA 3)))))))
def B4:cS:=cB 1 1 (aW (aE B5 (aB (aA 0) (aB (aE nI (aB (aA 0) aC)) aC))))
def Fw:SS:=(aF 4 (aE vz (aB (aA 4) (aB (aA 5) aC))))
def Tw:SS:=(aD (aF 4 (aA 1))
 (aD (bP (aH (ky (aA 3) (kr fA (eC (.int 1))))) (gN 5) Fw)
 (bR (eh (aA 2) (aB (aE eJ (aB (aA 4) aC)) aC)))))
def vj:cS:=cB 6 2 (aD (aF 2 (de aC))
 (aD (bP (aH (aA 0)) (gN 3) Tw)
 (aW (aE zw (aB (mI (aA 2)) aC)))))
end Dd
namespace L2
namespace St
end St
namespace St
end St
end L2
namespace L2
open PySem.W PyProof.Rows Spec
namespace St
section
variable (P:Program)(w:World)
end
end St
namespace St
end St
namespace St
end St
end L2
namespace L2
open Spec PyProof.Rows PySem.W
end L2
namespace Dd
open L2 PyProof.Rows
end Dd
namespace L2
open Spec PyProof.Rows PySem.W
end L2
namespace Dd
open L2 PyProof.Rows
end Dd
namespace Dd
open L2
noncomputable def ca(j:Int):Prop:=-(2^62)<=j/\j<2^62
instance (j:Int):Decidable (ca j):=by unfold ca;infer_instance
theorem kg(a:-1000000000000<=j)(b:j<=1000000000000):ca j:=⟨by lia,by lia⟩
@[simp] theorem AN:eC d σ au=.ok d au:=rfl
@[simp] theorem wn:aA i σ au=(match σ[i]? with
 |some (some d)=>.ok d au
 |_=>.stuck):=rfl
@[simp] theorem kM:aS g f f' σ au=(f σ au).bind λx a=>(f' σ a).bind λy st2=>g x y st2:=rfl
@[simp] theorem Wf:kr g f σ au=(f σ au).bind λx st1=>g x st1:=rfl
@[simp] theorem j3:aE g f σ au=(f σ au).bind λa st1=>g a st1:=rfl
@[simp] theorem vW:aC σ au=.ok [] au:=rfl
@[simp] theorem lT:aB f g σ au=(f σ au).bind λx a=>(g σ a).bind λb st2=>.ok (x::b) st2:=rfl
@[simp] theorem Qi:eB f σ au=(f σ au).bind λv a=>(match v with
 |.bl b=>.ok b a
 |_=>.stuck):=rfl
@[simp] theorem uD:cM f σ au=(f σ au).bind λv a=>(match jp a v with
 |some b=>.ok b a
 |none=>.stuck):=rfl
@[simp] theorem qR:iH f f' σ au=(f σ au).bind λv a=>(match v with
 |.bl true=>f' σ a
 |.bl false=>.ok (.bl false) a
 |_=>.stuck):=rfl
@[simp] theorem F3:T9 f f' σ au=(f σ au).bind λv a=>(match v with
 |.bl true=>.ok (.bl true) a
 |.bl false=>f' σ a
 |_=>.stuck):=rfl
@[simp] theorem wm:lh f σ au=(f σ au).bind λv a=>(match v with
 |.bl b=>.ok (.bl (!b)) a
 |_=>.stuck):=rfl
@[simp] theorem Gz:jQ f f' σ au=(f σ au).bind λb st1=>if b=true then f' σ st1 else .ok false st1:=rfl
@[simp] theorem FK:qb f f' σ au=(f σ au).bind λb st1=>if b=true then .ok true st1 else f' σ st1:=rfl
@[simp] theorem vZ:fG f σ au=(f σ au).bind λb st1=>.ok (!b) st1:=rfl
@[simp] theorem Wi:aI σ au=.ok true au:=rfl
@[simp] theorem F2:uw c f f' σ au=(c σ au).bind λb st1=>if b=true then f σ st1 else f' σ st1:=rfl
@[simp] theorem Hb:aR g σ au=(g σ au).bind λb a=>if b.length<=sizeLine then .ok (.tup b) a else .stuck:=rfl
@[simp] theorem Ha:dU g σ au=(g σ au).bind λb a=>if b.length<=sizeLine then .ok (.lst b) a else .stuck:=rfl
@[simp] theorem Jl:de g σ au=(g σ au).bind λb a=>if b.length<=sizeLine then .ok (.ref a.length) (a++[.lst b]) else .stuck:=rfl
@[simp] theorem Wx:gG g g' f f' f'' σ au=(f σ au).bind λx c=>(f' σ c).bind λy b=>(g x y b).bind λz a=>(match z with
 |.bl true=>(f'' σ a).bind λw d=>g' y w d
 |.bl false=>.ok (.bl false) a
 |_=>.stuck):=rfl
@[simp] theorem Wo:eX σ au=.ok (.ref au.length) (au++[.dT []]):=rfl
@[simp] theorem Wg:eV σ au=.ok (.nx σ) au:=rfl
@[simp] theorem Wm:mr σ au=.ok (.brk σ) au:=rfl
@[simp] theorem nw:aW f σ au=(f σ au).bind λv st1=>.ok (.ret v) st1:=rfl
@[simp] theorem Ws:p0 σ au=.ok (.ret .non) au:=rfl
@[simp] theorem BJ:bR f σ au=(f σ au).bind λ_ st1=>.ok (.nx σ) st1:=rfl
@[simp] theorem q7:aF i f σ au=(f σ au).bind λv st1=>.ok (.nx (σ.set i (some v))) st1:=rfl
@[simp] theorem Ip:aD s t σ au=(match s σ au with
 |.ok (.nx σ1) st1=>t σ1 st1
 |r=>r):=rfl
@[simp] theorem jw:eH c s t σ au=(c σ au).bind λb st1=>if b=true then s σ st1 else t σ st1:=rfl
@[simp] theorem Im:jI i g f σ au=(match σ[i]? with
 |some (some x)=>(f σ au).bind λy b=>(g x y b).bind λz a=>.ok (.nx (σ.set i (some z))) a
 |_=>.stuck):=rfl
@[simp] theorem qZ:bP it bd body σ au=(it σ au).bind λa st1=>dS bd body a σ st1:=rfl
@[simp] theorem wp:aH f σ au=(f σ au).bind λx a=>(match eG x with
 |some xs=>.ok xs a
 |none=>.stuck):=rfl
@[simp] theorem F6:h7 g σ au=(g σ au).bind λb a=>(match b with
 |[.int j]=>if ca j then .ok (rng 0 j.toNat) a else .stuck
 |_=>.stuck):=rfl
@[simp] theorem F7: T8 g σ au=(g σ au).bind λb a=>(match b with
  |[.int i,.int j]=>if ca i/\ca j then .ok (rng i (j-i).toNat) a else .stuck
  |_=>.stuck):=by
  show(g σ au).bind _=_
  congr 1
  funext b a
  split
  · unfold ca
    simp only[and_assoc]
  · rename_i h
    first
      |rfl
      | (split
         · rename_i i j
           exact absurd rfl (h i j)
         · rfl)
@[simp] theorem Wq:h8 f σ au=(f σ au).bind λx a=>(match x with
 |.ref n=>(match a[n]? with
  |some (.dT kvs)=>.ok (aJ (kvs.map (·.1))) (a.set n (.fT kvs))
  |_=>.stuck)
 |_=>.stuck):=rfl
@[simp] theorem mU:aG it k is bd c f σ au=(it σ au).bind λd b=>if d.length<=sizeLine then(bo bd c f d (aT k is σ) b).bind λe a=>.ok (.lst e) a else .stuck:=rfl
@[simp] theorem F1:mI f σ au=(f σ au).bind λx a=>(match x with
 |.ref n=>(match a[n]? with
  |some (.lst xs)=>.ok (.lst xs) (a.set n .dead)
  |_=>.stuck)
 |_=>.stuck):=rfl
@[simp] theorem Wr:dv σ au=.ok none au:=rfl
@[simp] theorem Ka:dr f σ au=(f σ au).bind λv a=>(match v with
 |.int i=>.ok (some i) a
 |_=>.stuck):=rfl
@[simp] theorem F4 {lo:DS->aa->bv (Option Int)}:kt f lo hi σ au=(f σ au).bind λx c=>(lo σ c).bind λl b=>(hi σ b).bind λh a=>(match x with
 |.tup xs=>.ok (.tup (cutD xs l h)) a
 |x=>match eS a x with
  |some xs=>.ok (.lst (cutD xs l h)) a
  |none=>.stuck):=rfl
@[simp] theorem RP:cq f g σ au=(f σ au).bind λx b=>(match x,eS b x with
 |.ref n,some _=>(g σ b).bind λc a=>(match c,a[n]? with
  |[y],some (.lst xs)=>if xs.length<sizeLine then .ok .non (a.set n (.lst (xs++[y]))) else .stuck
  |_,_=>.stuck)
 |_,_=>.stuck):=rfl
@[simp] theorem NB:eh f g σ au=(f σ au).bind λx b=>(match x,eS b x with
 |.ref n,some _=>(g σ b).bind λc a=>(match c,a[n]? with
  |[y],some (.lst xs)=>(match eS a y with
   |some zs=>if xs.length+zs.length<=sizeLine then .ok .non (a.set n (.lst (xs++zs))) else .stuck
   |none=>.stuck)
  |_,_=>.stuck)
 |_,_=>.stuck):=rfl
@[simp] theorem MV:ff f g h σ au=(h σ au).bind λv c=>(f σ c).bind λx b=>(g σ b).bind λy a=>(match x,y with
 |.ref n,.int k=>(match a[n]? with
  |some (.lst xs)=>(match ko xs.length k with
   |some j=>.ok (.nx σ) (a.set n (.lst (xs.set j v)))
   |none=>.stuck)
  |_=>.stuck)
 |_,_=>.stuck):=rfl
@[simp] theorem LD:iG f g h σ au=(f σ au).bind λx a=>(match pairsOf a x with
 |some _=>(g σ a).bind λy c=>(h σ c).bind λz b=>(match pairsOf b x,et y with
  |some kvs,some k=>.ok ((cO kvs k).getD z) b
  |_,_=>.stuck)
 |none=>.stuck):=rfl
@[simp] theorem Wp:kx f g σ au=(f σ au).bind λx b=>(match pairsOf b x with
 |some _=>(g σ b).bind λy a=>(match x,et y with
  |.ref n,some k=>(match a[n]? with
   |some (.dT kvs)=>(match cO kvs k with
    |some v=>.ok v (a.set n (.dT (ig kvs k)))
    |none=>.stuck)
   |_=>.stuck)
  |_,_=>.stuck)
 |none=>.stuck):=rfl
@[simp] theorem xY:f6 f g h σ au=(h σ au).bind λv c=>(f σ c).bind λx b=>(g σ b).bind λy a=>(match x,et y with
 |.ref n,some k=>(match a[n]? with
  |some (.dT kvs)=>if kvs.length<sizeLine then .ok (.nx σ) (a.set n (.dT (iA kvs k v))) else .stuck
  |_=>.stuck)
 |_,_=>.stuck):=rfl
theorem vJ:cB n np b ds au=if ds.length=np then(match b (ds.map some++List.replicate (n-np) none) au with
 |.ok (.ret v) st'=>.ok v st'
 |.ok (.nx _) st'=>.ok .non st'
 |.exc x st'=>.exc x st'
 |_=>.stuck) else .stuck:=rfl
@[simp] theorem zW [DecidableRel C]:oI C h (.int i) (.int j) au=if C i j then .ok (h i j) au else .stuck:=rfl
@[simp] theorem Wj:aM (.int i) (.int j) au=.ok (.int (i+j)) au:=rfl
@[simp] theorem wE:aM (.tup a) (.tup b) au=if a.length+b.length<=sizeLine then .ok (.tup (a++b)) au else .stuck:=rfl
@[simp] theorem Wk:fB (.int i) (.int j) au=.ok (.bl (decide (i<j))) au:=rfl
@[simp] theorem Wl:fA (.int i) au=.ok (.int (-i)) au:=rfl
@[simp] theorem qz (ns:List Int):bN (ns.map .int)=some ns:=by
 induction ns with
 |nil=>rfl
 |cons n ns ih=>rw[ce,bN,ih];rfl
@[simp] theorem WF (l:List (List Int)):fX (aJ l)=some l:=by
 induction l with
 |nil=>rfl
 |cons n ns ih=>
  unfold aJ at ih ⊢;rw[ce,fX,qz,ih];rfl
@[simp] theorem tH (ns:List Int):et (aL ns)=some ns:=qz ns
theorem BQ:dataOf au (.int i)=some (.int i):=rfl
@[simp] theorem F9:jL (.int i) (.int j) au=.ok (.bl (decide (i=j))) au:=by
 show fC false (.int i) (.int j) au=_;unfold fC;rw[BQ,BQ];dsimp only;rw[if_pos ⟨rfl,rfl⟩];show bv.ok (D.bl (i==j)) au=_;rw[show(i==j)=decide (i=j) from by rw[kR];simp]
@[simp] theorem Gc:DL (.int i) (.int j) au=.ok (.bl (!decide (i=j))) au:=by
 show fC true (.int i) (.int j) au=_;unfold fC;rw[BQ,BQ];dsimp only;rw[if_pos ⟨rfl,rfl⟩];show bv.ok (D.bl (!(i==j))) au=_;rw[show(i==j)=decide (i=j) from by rw[kR];simp]
theorem RL(a:List Int):cm (a.map .int)=some (dI a):=by
 induction a with
 |nil=>rfl
 |cons n a ih=>rw[ce,cm,ih];rfl
theorem RM(l:List (List Int)):cm (aJ l)=some (l.map bU):=by
 induction l with
 |nil=>rfl
 |cons n ns ih=>
  unfold aJ at ih ⊢;rw[ce,cm,ih,d4,RL];rfl
abbrev aK(l:List (List Int)):D:=.tup (aJ l)
theorem Ez(l:List (List Int)):dataOf au (aK l)=some (.tuple (l.map bU)):=by
 show(cm (aJ l)).map PyData.tuple=_;rw[RM];rfl
theorem QN(l:List Int):dataOf au (aL l)=some (bU l):=by
 show(cm (l.map .int)).map PyData.tuple=_;rw[RL];rfl
theorem JX(a b:List (List Int)):fC neg (aK a) (aK b) au=.ok (.bl (if neg then !decide (a=b) else decide (a=b))) au:=by
 unfold fC;rw[Ez,Ez];dsimp only;rw[if_pos ⟨Cs a,Cs b⟩];have e:PyData.eqv (.tuple (a.map bU)) (.tuple (b.map bU))=decide (a=b):=RJ a b;rw[e]
theorem small(n:Nat)(h:n<=1000000):n<=sizeLine:=by rw[l6];lia
theorem d5(n:Nat)(h:n<=1000000):n<sizeLine:=by rw[l6];lia
theorem xt(I:Nat->DS->aa->Prop):∀(j:List D) (k:Nat) (b:DS) (a:aa),I k b a ->
  (∀i x b a,j[i]?=some x->I (k+i) b a->∃g c d,bd x b=some g/\body g a=.ok (.nx c) d/\I (k+i+1) c d)->∃f e,dS bd body j b a=.ok (.nx f) e/\I (k+j.length) f e
 |[],k,b,a,h,_=>⟨b,a,rfl,h⟩
 |x::j,k,b,a,h,s=>by
  obtain⟨g,c,d,o,q,m⟩:=s 0 x b a rfl h;obtain⟨f,e,r,l⟩:=xt I j (k+1) c d m λi y b a p n=>by
   have:=s (i+1) y b a (by simpa using p) (by rw[show k+(i+1)=k+1+i by lia];exact n);rw[show k+(i+1)+1=k+1+i+1 by lia] at this;exact this
  refine⟨f,e,?_,by rw[dh,show k+(j.length+1)=k+1+j.length by lia];exact l⟩;unfold dS;rw[o];dsimp only;rw[q];exact r
theorem pf(I:Nat->DS->aa->Prop) (f:I 0 σ au)
  (s:∀i x σ au,xs[i]?=some x->I i σ au->∃a b c,bd x σ=some a/\body a au=.ok (.nx b) c/\I (i+1) b c):∃d st',dS bd body xs σ au=.ok (.nx d) st'/\I xs.length d st':=by
 have:=xt I xs 0 σ au f λi x σ au g e=>by
  rw[iT] at e ⊢;exact s i x σ au g e
 rw[iT] at this;exact this
theorem qj{lo:Int}(h:(rng lo n)[i]?=some x):i<n/\x=.int (lo+i):=uQ h
theorem kP(lo:Int)(n:Nat):(rng lo n).length=n:=by simp[rng]
theorem Ey(I:Nat->List D->DS->aa->Prop):∀(m:List D) (k:Nat) (acc:List D) (j:DS) (g:aa),I k acc j g ->
  (∀i x acc j g,m[i]?=some x->I (k+i) acc j g->∃a b d,bd x j=some a/\c a g=.ok b d/\((b=false/\I (k+i+1) acc a d)\/(b=true/\∃y e,f a d=.ok y e/\I (k+i+1) (acc++[y]) a e))) ->
  ∃o n l,bo bd c f m j g=.ok o l/\I (k+m.length) (acc++o) n l
 |[],k,acc,j,g,h,_=>⟨[],j,g,rfl,by rw[jy];exact h⟩
 |x::m,k,acc,j,g,h,s=>by
  have v:∀i y acc j g,m[i]?=some y->I (k+1+i) acc j g->∃a b d,bd y j=some a/\c a g=.ok b d/\((b=false/\I (k+1+i+1) acc a d)\/(b=true/\∃z e,f a d=.ok z e/\I (k+1+i+1) (acc++[z]) a e)):=λi y acc j g A w=>by
   have:=s (i+1) y acc j g (by simpa using A) (by rw[show k+(i+1)=k+1+i by lia];exact w);rw[show k+(i+1)+1=k+1+i+1 by lia] at this;exact this
  obtain⟨a,b,d,t,u,p⟩:=s 0 x acc j g rfl h;rcases p with⟨rfl,p⟩|⟨rfl,y,e,C,p⟩
  ·obtain⟨o,n,l,r,q⟩:=Ey I m (k+1) acc a d p v;refine⟨o,n,l,?_,by rw[dh,show k+(m.length+1)=k+1+m.length by lia];exact q⟩;unfold bo;rw[t];dsimp only;rw[u];exact r
  ·obtain⟨o,n,l,r,q⟩:=Ey I m (k+1) (acc++[y]) a e p v;refine⟨y::o,n,l,?_,by rw[dh,show k+(m.length+1)=k+1+m.length by lia];rw[eE] at q;exact q⟩;unfold bo;rw[t];dsimp only;rw[u];dsimp only[zo];rw[if_pos rfl,C];dsimp only[zo];rw[r]
   rfl
theorem nA(I:Nat->List D->DS->aa->Prop) (k:I 0 [] σ au)
  (s:∀i x acc σ au,xs[i]?=some x->I i acc σ au->∃a b d,bd x σ=some a/\c a au=.ok b d/\((b=false/\I (i+1) acc a d)\/(b=true/\∃y e,f a d=.ok y e/\I (i+1) (acc++[y]) a e))):
  ∃h g st',bo bd c f xs σ au=.ok h st'/\I xs.length h g st':=by
 have:=Ey I xs 0 [] σ au k λi x acc σ au l j=>by
  rw[iT] at j ⊢;exact s i x acc σ au l j
 rw[iT] at this
 simpa using this
theorem OD(I:Nat->DS->aa->Prop)(d:DS->aa->Prop) (p:I k σ au)(w:k<mj)
  (s:∀j σ au,I j σ au->∃b e,c σ au=.ok b e/\((b=false/\d σ e)\/(b=true/\∃i f g,body σ e=.ok (.nx f) g/\I i f g/\i<j))):∃a st',dE c body σ au=.ok (.nx a) st'/\d a st':=by
 have l:∀n j σ au,I j σ au->j<n->∃a st',db c body n σ au=.ok (.nx a) st'/\d a st':=by
  intro n
  induction n with
  |zero=>intro j σ au _ h;lia
  |succ n ih=>
   intro j σ au o r;obtain⟨b,e,q,h⟩:=s j σ au o;unfold db;rw[q];dsimp only[zo];rcases h with⟨rfl,h⟩|⟨rfl,i,f,g,t,m,x⟩
   ·exact⟨σ,e,by rw[if_neg (by decide)],h⟩
   ·obtain⟨a,st',v,u⟩:=ih i f g m (by lia);refine⟨a,st',?_,u⟩;rw[if_pos rfl,t];exact v
 exact l mj k σ au p w
@[simp] theorem WE:cP au (.tup xs)=some xs:=rfl
@[simp] theorem WD:cP au (.scr xs)=some xs:=rfl
@[simp] theorem WC:cP au (.lst xs)=some xs:=rfl
@[simp] theorem WB:eG (.tup xs)=some xs:=rfl
@[simp] theorem Wz:eG (.lst xs)=some xs:=rfl
@[simp] theorem WA:eG (.scr xs)=some xs:=rfl
@[simp] theorem Wn:eS au (.lst xs)=some xs:=rfl
theorem nz(h:au[n]?=some (.lst xs)):eS au (.ref n)=some xs:=by
 unfold eS;dsimp only;rw[h]
theorem E4(h:au[n]?=some (.lst xs)):cP au (.ref n)=some xs:=nz h
theorem nt(h:cP au x=some xs)(a:L2.atI xs i=some d):cF x (.int i) au=.ok d au:=by
 unfold cF;rw[h];dsimp only;rw[a]
@[simp] theorem Wu:cu [.tup xs] au=.ok (.int xs.length) au:=rfl
@[simp] theorem K3:cu [.lst xs] au=.ok (.int xs.length) au:=rfl
@[simp] theorem Wt:cu [.scr xs] au=.ok (.int xs.length) au:=rfl
@[simp] theorem Wh:lj [.int i] au=.ok (.int (if i<0 then -i else i)) au:=rfl
@[simp] theorem We:ux g [.int i,.int j] au=.ok (.int (g i j)) au:=rfl
@[simp] theorem Wv:gp [aL ns] au=.ok (.int ns.sum) au:=by
 unfold gp;simp
@[simp] theorem WG:bJ [.tup xs] au=.ok (.tup xs) au:=rfl
@[simp] theorem Uj:bJ [.lst xs] au=.ok (.tup xs) au:=rfl
theorem Uk(h:au[n]?=some (.lst xs)):bJ [.ref n] au=.ok (.tup xs) au:=by
 unfold bJ;dsimp only;rw[nz h]
theorem Vp{l:List (List Int)}(h:l.length<=1000000):bi [.lst (aJ l)] au=.ok (.lst (aJ (av l))) au:=by
 unfold bi;simp[h]
theorem Vo(h:au[n]?=some (.dT kvs))(a:kvs.length<=1000000):bi [.ref n] au=.ok (.lst (aJ (av (kvs.map (·.1))))) au:=by
 unfold bi eS pairsOf;simp[h,a]
theorem QF{j:Nat}(h:xs[j]?=some d):L2.atI xs (j:Int)=some d:=DX h
theorem mV{a:aa}(h:n<a.length):(a.set n o)[n]?=some o:=pW h
section
variable {au:aa}{n:Nat}
theorem ip{o:O}(h:au[n]?=some o):n<au.length:=(cU.mp h).1
end
theorem MX{a:aa}:(a.set n o).set n p=a.set n p:=List.set_set _
section
variable {au:aa}{n:Nat}{i:Int}
theorem Iq{o:O}(h:au[n]?=some o):au.set n o=au:=by
 apply ue;intro i;by_cases e:i=n
 ·subst e;rw[pW (ip h),h]
 ·rw[ft (fO e)]
end
theorem gW{a:List D}(h:a.length=np)(e:b (a.map some++List.replicate (n-np) none) au=.ok (.ret v) st'):cB n np b a au=.ok v st':=by
 rw[vJ,if_pos h,e]
theorem qE{a:List D}(h:a.length=np)(e:b (a.map some++List.replicate (n-np) none) au=.ok (.nx σ) st'):cB n np b a au=.ok .non st':=by
 rw[vJ,if_pos h,e]
noncomputable abbrev fj(c x:Int):O:=.lst [.int c,.int x]
def cT(a:aa) (n:Nat):Prop:=∃c x:Int,a[n]?=some (fj c x)/\0<=c/\0<=x
structure bV (au st':aa) (n:Nat):Prop where
 len:au.length<=st'.length
 keep:∀ i,i<au.length->i≠n->st'[i]?=au[i]?
 bag:cT st' n
theorem bV.trans(a:bV au st1 n)(b:bV st1 st2 n):bV au st2 n:=
 ⟨ax a.len b.len,λi c d=>(b.keep i (da c a.len) d).trans (a.keep i c d),b.bag⟩
theorem bV.set{a:aa}{n:Nat}{c x:Int}(h:cT a n)(b:0<=c)(d:0<=x):bV a (a.set n (fj c x)) n:=by
 obtain⟨_,_,e,_⟩:=h;exact⟨by rw[iV];exact bj _,λi _ f=>ft (fO f),c,x,mV (ip e),b,d⟩
theorem bV.more{a:aa}{n:Nat}(h:cT a n)(g:aa):bV a (a++g) n:=by
 obtain⟨c,x,e,b,d⟩:=h;exact⟨by rw[cJ];lia,λi h _=>gx h,c,x,by rw[gx (ip e)];exact e,b,d⟩
theorem uR{au:aa}{n:Nat}{m:Int}(o:cT au n)(h1:1<=m)(H:m<2^1000):
  ∃r f,zl [.ref n,.int m] au=.ok (.int r) f/\0<=r/\r<m/\bV au f n/\f.length=au.length:=by
 obtain⟨c,x,i,w,u⟩:=id o;have A:∀{c x:Int}{au:aa},au[n]?=some (fj c x)->cF (.ref n) (.int 0) au=.ok (.int c) au:=λh=>nt (E4 h) rfl
 have C:∀{c x:Int}{au:aa},au[n]?=some (fj c x)->cF (.ref n) (.int 1) au=.ok (.int x) au:=λh=>nt (E4 h) rfl
 by_cases h0:0<c
 ·have S:ew c m:=⟨by lia,H⟩
  have U:ko 2 0=some 0:=rfl;refine⟨c%m,au.set n (fj (c/m) x),gW rfl ?_,yy _ (by lia),Int.emod_lt_of_pos _ (by lia),bV.set o (Int.ediv_nonneg w (by lia)) u,iV⟩;simp[A i,h0,i,U,show(0:Int)<m by lia,S]
 ·have g:=ip i
  have W:=OD (c:=eB (aS fB (aA 4) (aA 1))) (body:=aD (ff (aA 0) (eC (.int 1)) (aS fU (aS aM (aS bC (aS cF (aA 0) (eC (.int 1))) (eC (.int 48271))) (eC (.int 7919))) (eC (.int 2147483647))))
   (aD (aF 3 (aS aM (aS bC (aA 3) (eC (.int 1073741789))) (aS fU (aS bC (aS gB (aS cF (aA 0) (eC (.int 1))) (eC (.int 8))) (eC (.int 69621))) (eC (.int 1073741789)))))
   (aF 4 (aS bC (aA 4) (eC (.int 1073741789)))))) (k:=1000) (σ:=[some (.ref n),some (.int m),none,some (.int 0),some (.int 1)]) (au:=au)
   (λj l s=>∃b a d rr:Int,l=[some (.ref n),some (.int m),none,some (.int d),some (.int rr)]/\s=au.set n (fj b a)/\0<=b/\0<=a/\0<=d/\j<=1000/\2^(1000-j)<=rr)
   (λl s=>∃b a d:Int,(∃rr,l=[some (.ref n),some (.int m),none,some (.int d),some (.int rr)])/\s=au.set n (fj b a)/\0<=b/\0<=a/\0<=d)
   ⟨c,x,0,1,rfl,(Iq i).symm,w,u,by lia,by lia,by decide⟩ (by decide) (by
    rintro j l s ⟨b,a,d,rr,rfl,rfl,q,G,v,a4,a5⟩;have E:(au.set n (fj b a))[n]?=some (fj b a):=mV g;by_cases hlt:rr<m
    ·have hj:1<=j:=by
      rcases yL j with z|z
      ·subst z;have a0:(2:Int)^1000<=rr:=a5;lia
      ·exact z
     have e1:ko 2 1=some 1:=rfl;have m1:dX a 48271:=.inr ⟨by decide,by decide⟩;have P:dX d 1073741789:=.inr ⟨by decide,by decide⟩;have Q:dX rr 1073741789:=.inr ⟨by decide,by decide⟩;have X:∀y:Int,(au.set n (fj b y))[n]?=some (fj b y):=λy=>mV g
     have m4:∀y:Int,dX y 69621:=λy=>.inr ⟨by decide,by decide⟩
     have Y:∀y:Int,ew y 8:=λy=>⟨by decide,by decide +kernel⟩
     refine⟨true,au.set n (fj b a),by simp[hlt],.inr ⟨rfl,j-1,_,au.set n (fj b ((a*48271+7919)%2147483647)),?_,⟨b,(a*48271+7919)%2147483647,d*1073741789+(a*48271+7919)%2147483647/8*69621%1073741789,rr*1073741789,rfl,rfl,q,?_,?_,by lia,?_⟩,by lia⟩⟩
     ·simp[C E,E,e1,m1,P,Q,m4,Y,C (X _)]
     ·exact yy _ (by lia)
     ·have q:0<=d*1073741789:=OG v (by lia);have G:=yy ((a*48271+7919)%2147483647/8*69621) (show(1073741789:Int)≠0 by lia);lia
     ·have e:(2:Int)^(1000-(j-1))=2^(1000-j)*2:=by
       rw[←Int.pow_succ];congr 1;lia
      rw[e];have hp:(0:Int)<=2^(1000-j):=Int.pow_nonneg (by decide);lia
    ·exact⟨false,_,by simp[hlt],.inl ⟨rfl,b,a,d,⟨rr,rfl⟩,rfl,q,G,v⟩⟩)
  obtain⟨J,f,e,b,a,d,t,p,I,k2,k3⟩:=W;obtain⟨rr,rfl⟩:=t;subst p;refine⟨d%m,au.set n (fj b a),gW rfl ?_,yy _ (by lia),Int.emod_lt_of_pos _ (by lia),bV.set o I k2,iV⟩;simp[A i,h0,e,show(0:Int)<m by lia]
theorem Sv{a:List Int}(h:j<a.length):L2.atI (a.map D.int) (j:Int)=some (.int a[j]):=DX (by rw[fK,bS h];rfl)
theorem GA{a:List Int}{i:Nat}(A:a.length<=63)(z:i<=100000):∃c x:Int,0<=c/\0<=x/\vg [.scr (a.map .int),.int i] au=.ok (.ref au.length) (au++[fj c x]):=by
 have d:∃c:Int,0<=c/\eH (eB (aS fB (aA 1) (aE cu (aB (aA 0) aC)))) (aF 2 (aE lj (aB (aS cF (aA 0) (aA 1)) aC))) eV [some (.scr (a.map .int)),some (.int i),some (.int 0),none,none] au
   = .ok (.nx [some (.scr (a.map .int)),some (.int i),some (.int c),none,none]) au:=by
  by_cases h:i<a.length
  ·have e:cF (.scr (a.map .int)) (.int i) au=.ok (.int a[i]) au:=nt rfl (Sv h);refine⟨if a[i]<0 then -a[i] else a[i],by split<;>lia,?_⟩;simp[h,e]
  ·exact⟨0,by lia,by simp[h]⟩
 obtain⟨c,u,f⟩:=d;have p:(if(60:Int)<(a.length:Int) then(60:Int) else a.length).toNat<=a.length:=by split<;>lia
 have W:=pf (bd:=gN 4) (body:=aF 3 (aS fU (aS aM (aS aM (aS bC (aA 3) (eC (.int 48271))) (aS fU (aS cF (aA 0) (aA 4)) (eC (.int 2147483647)))) (aA 4)) (eC (.int 2147483629))))
  (xs:=rng 0 (if(60:Int)<(a.length:Int) then(60:Int) else a.length).toNat) (σ:=[some (.scr (a.map .int)),some (.int i),some (.int c),some (.int (7919*i+17)),none]) (au:=au)
  (λj l s=>s=au/\∃(b:Int) (v:Option D),l=[some (.scr (a.map .int)),some (.int i),some (.int c),some (.int b),v]/\0<=b) ⟨rfl,_,none,rfl,by lia⟩ (by
   rintro j x l s r ⟨rfl,b,v,rfl,m⟩;obtain⟨C,rfl⟩:=qj r;have k:j<a.length:=by lia
   have e:cF (.scr (a.map .int)) (.int (0+j)) s=.ok (.int a[j]) s:=nt rfl (by rw[l8];exact Sv k);rw[l8] at e;have y:dX b 48271:=.inr ⟨by decide,by decide⟩;refine⟨_,[some (.scr (a.map .int)),some (.int i),some (.int c),some (.int ((b*48271+a[j]%2147483647+j)%2147483629)),some (.int (0+j))],s,rfl,?_,rfl,_,_,rfl,yy _ (by lia)⟩
   simp[e,y])
 obtain⟨t,w,e,rfl,b,v,rfl,m⟩:=W;have n:dX 7919 (i:Int):=.inl ⟨by decide,by decide⟩;have q:mP 10 18:=⟨by decide,by decide,by decide⟩
 have o:ca (if(60:Int)<(a.length:Int) then(60:Int) else a.length):=by
  split<;>exact kg (by lia) (by lia)
 by_cases hlt:c<1000000000000000000
 ·refine⟨0,b,by lia,m,gW rfl ?_⟩;have g:=small 2 (by lia);simp at f;simp[f,n,o,e,q,hlt,g]
 ·refine⟨c,b,u,m,gW rfl ?_⟩;have g:=small 2 (by lia);simp at f;simp[f,n,o,e,q,hlt,g]
theorem fz(h:s σ au=.ok (.nx σ1) st1)(k:t σ1 st1=r):aD s t σ au=r:=by
 rw[Ip,h];exact k
noncomputable def aP(a:List (List Int)) (k:List Int):List (List Int):=if k∈a then a.filter (λx=>decide (x≠k)) else a++[k]
def aN(l:List (List Int)):List (List Int):=l.foldl aP []
theorem lU:x∈aP ks k↔(x∈ks/\x≠k)\/(x=k/\k∉ks):=by
 unfold aP;split
 ·rename_i h;simp[dL,h]
 ·rename_i h;simp only[dB,em];constructor
  ·rintro(z|rfl)
   ·exact .inl ⟨z,λe=>h (e ▸ z)⟩
   ·exact .inr ⟨rfl,h⟩
  ·rintro(⟨z,_⟩|⟨z,_⟩)
   ·exact .inl z
   ·exact .inr z
theorem tP{d:List (List Int)}(h:d.Nodup):(aP d k).Nodup:=by
 unfold aP;split
 ·exact h.filter _
 ·rename_i f;rw[yJ];exact⟨h,by simp,λa g b c=>by simp at c;subst c;exact λe=>f (e ▸ g)⟩
theorem Tq(a:List (List Int))(k:List Int):(aP a k).length<=a.length+1:=by
 unfold aP;split
 ·exact oz (pU _ _)
 ·simp
theorem sW:∀(l b:List (List Int)),b.Nodup->(l.foldl aP b).Nodup/\(l.foldl aP b).length<=b.length+l.length/\∀x,x∈l.foldl aP b↔(l.count x+if x∈b then 1 else 0)%2=1
 |[],b,h=>⟨h,by simp,λx=>by by_cases e:x∈b<;>simp[e]⟩
 |a::l,b,h=>by
  obtain⟨d,g,f⟩:=sW l (aP b a) (tP h);refine⟨d,?_,λx=>?_⟩
  ·have:=Tq b a;rw[lE,dh];lia
  ·rw[lE,f x,om];by_cases e:x=a
   ·subst e;by_cases k:x∈b
    ·have q:x∉aP b x:=by rw[lU];simp[k]
     simp only[q,k,gt,gj,rC]<;>lia
    ·have q:x∈aP b x:=by rw[lU];simp[k]
     simp only[q,k,gt,gj,rC]<;>lia
   ·have c:(a==x)=false:=by simpa using λz:a=x=>e z.symm
    by_cases k:x∈b
    ·have q:x∈aP b a:=by rw[lU];simp[k,e]
     simp[q,k,c]
    ·have q:x∉aP b a:=by rw[lU];simp[k,e]
     simp[q,k,c]
theorem vo(l:List (List Int)):(aN l).Nodup:=(sW l [] mY).1
theorem tQ(l:List (List Int)):(aN l).length<=l.length:=by have:=(sW l [] mY).2.1;simpa [aN] using this
theorem tr:x∈aN l↔l.count x%2=1:=by have:=(sW l [] mY).2.2 x;simpa [aN] using this
theorem Fo{a b:List (List Int)}(c:a.Nodup)(d:b.Nodup)(h:∀x,x∈a↔x∈b):a.Perm b:=(TW c d).mpr h
theorem Tj{a:List (List Int)}(h:a.Perm b):av a=av b:=B2 ((zp a).trans h) (vc a)
def aO(l:List (List Int)):List (List Int):=av (aN l)
theorem Ef{l m:List (List Int)}(a:m.Nodup)(h:∀x,x∈m↔l.count x%2=1):av m=aO l:=Tj (Fo a (vo l) λx=>by rw[h,tr])
theorem Rf:x∈aO l↔l.count x%2=1:=by unfold aO;rw[(zp _).mem_iff,tr]
theorem qu(h:x∈aO l):x∈l:=by
 rw[Rf] at h;rcases yL (l.count x) with z|z
 ·rw[z] at h;cases h
 ·exact rE.mp z
theorem Fn(l:List (List Int)):(aO l).length<=l.length:=by unfold aO;rw[vA];exact tQ l
theorem nH(l:List (List Int)):(aO l).Nodup:=(zp _).nodup_iff.mpr (vo l)
noncomputable abbrev aQ(a:List (List Int)):List (List Int×D):=a.map λk=>(k,.bl true)
theorem E8:cO (aQ ks) k=if k∈ks then some (.bl true) else none:=by
 induction ks with
 |nil=>rfl
 |cons a ks ih=>
  unfold cO aQ at ih ⊢;rw[ce,lF];by_cases e:a=k
  ·simp[e]
  ·simp only[cI e];rw[ih];simp[bZ,show ¬ k=a from λz=>e z.symm]
theorem Ux:ig (aQ ks) k=aQ (ks.filter λx=>decide (x≠k)):=by
 unfold ig aQ;rw[rA]
 rfl
theorem R9(h:k∉ks):iA (aQ ks) k (.bl true)=aQ (ks++[k]):=by
 unfold iA;rw[if_neg]
 ·simp[aQ]
 ·simp only[List.any_map,C1,not_exists,not_and];intro x a e;have:x=k:=by simpa using e
  exact h (this ▸ a)
theorem BZ(h:au[n]?=some (.dT kvs)):pairsOf au (.ref n)=some kvs:=by
 unfold pairsOf;dsimp only;rw[h]
theorem Ms(h:au[n]?=some (.fT kvs)):pairsOf au (.ref n)=some kvs:=by
 unfold pairsOf;dsimp only;rw[h]
theorem xR(h:pairsOf au (.ref n)=some kvs):iB false (aL k) (.ref n) au=.ok (.bl (cO kvs k).isSome) au:=by
 unfold iB;rw[tH,h]
 rfl
theorem Mi(h:pairsOf au (.ref n)=some kvs)(a:cO kvs k=some v):eW (.ref n) (aL k) au=.ok v au:=by
 unfold eW;rw[tH,h];dsimp only;rw[a]
theorem uM(h:au[n]?=some (.dT (aQ ks)))(e:ks.length<=1000000):jY [.ref n,aL k] au=.ok .non (au.set n (.dT (aQ (aP ks k)))):=by
 have a:=xR (k:=k) (BZ h);rw[E8] at a;by_cases hk:k∈ks
 ·refine qE (σ:=[some (.ref n),some (aL k)]) rfl ?_;rw[if_pos hk] at a;have f:cO (aQ ks) k=some (.bl true):=by rw[E8,if_pos hk]
  have d:aP ks k=ks.filter λx=>decide (x≠k):=by unfold aP;rw[if_pos hk]
  rw[d,←Ux];have g:=BZ h;have b:=tH k;simp only[aL,aQ] at *
  simp[a,g,b,h,f]
 ·refine qE (σ:=[some (.ref n),some (aL k)]) rfl ?_;rw[if_neg hk] at a;have d:aP ks k=ks++[k]:=by unfold aP;rw[if_neg hk]
  rw[d,←R9 hk];have b:=tH k;have c:(aQ ks).length<sizeLine:=by rw[bh];exact d5 _ e
  simp only[aL,aQ] at *
  simp[a,b,h,c];rw[bh] at c;exact c
theorem jk{l:List (List Int)}{i:Nat}(h:(aJ l)[i]?=some x):∃k,l[i]?=some k/\x=aL k:=by
 unfold aJ at h;rw[fK] at h;cases e:l[i]? with
 |none=>rw[e] at h;cases h
 |some k=>rw[e] at h;exact⟨k,rfl,(g7 h).symm⟩
theorem zc(l:List (List Int)):(aJ l).length=l.length:=bh _
theorem ze{a:Type}{l:List a}{i:Nat}{k:a}(h:l[i]?=some k):l.take (i+1)=l.take i++[k]:=by
 obtain⟨b,e⟩:=cU.mp h;rw[PH b,e]
theorem GL(a:List D)(k:Nat):cutD a none (some (k:Int))=a.take k:=by
 unfold cutD;rw[HT.Rq,HT.xZ,OI,CL];rcases Nat.le_total k a.length with h|h
 ·rw[j6 h]
 ·rw[yE h,cX,jD h]
theorem K9(a:List D)(k:Nat):cutD a (some (k:Int)) none=a.drop k:=by
 unfold cutD;rw[HT.Rq,HT.xZ];rcases Nat.le_total k a.length with h|h
 ·rw[j6 h,jD (by rw[mZ];exact bj _)]
 ·rw[yE h,OT,List.drop_of_length_le h];simp
theorem VQ(l a:List (List Int))(h:a.Nodup):(l.foldl aP a).length<=a.length+l.length:=(sW l a h).2.1
theorem Ky{a b:List Int}:(a.map D.int)++(b.map D.int)=(a++b).map D.int:=iU.symm
theorem Fq(h:au[n]?=some (.dT (aQ ks)))(a:ks.length<=1000000):bi [.ref n] au=.ok (.lst (aJ (av ks))) au:=by
 rw[Vo h (by rw[bh];exact a),eM]
 congr 2
 exact congrArg (λl=>aJ (av l)) (yo ks)
end Dd
namespace K07
open L2
noncomputable def fi(e k:Int):Bool:=decide (V.int (Builtin.bitAnd e k)=V.int k)
theorem Sx(a b:Nat):Builtin.bitAnd (a:Int) (b:Int)=((a&&&b:Nat):Int):=rfl
theorem Rg(a b:Nat):fi a b=decide (a&&&b=b):=by
 unfold fi;rw[Sx];by_cases h:a&&&b=b
 ·rw[h];simp
 ·rw[cI h];refine cI λe=>h ?_
  injection e with e
  exact_mod_cast e
theorem NM(a b:Nat):(a&&&b=b)↔((a/2&&&b/2=b/2)/\¬ (b%2=1/\a%2=0)):=by
 have e:(a&&&b)/2=a/2&&&b/2:=OJ;have f:(a&&&b)%2=(a%2)*(b%2):=by
  have q:=@Nat.and_mod_two_eq_one a b;rcases mh a with h|h<;>rcases mh b with h'|h'<;>rw[h,h'] at q ⊢<;>lia
 constructor
 ·intro h;refine⟨by rw[←e,h],?_⟩;rintro⟨d,c⟩;rw[h,d,c] at f;lia
 ·rintro⟨d,c⟩;rw[←e] at d;have g:(a&&&b)%2=b%2:=by
   rw[f];rcases mh a with h|h<;>rcases mh b with h'|h'<;>simp[h,h']
   exact c ⟨h',h⟩
  lia
noncomputable def zY(l:List Nat) (e:Nat):List Nat:=[1]++((List.range e).map λk=>(l.getD k 0+l.getD (k+1) 0)%2)++[1]
def jJ:Nat->List Nat
 |0=>[1]
 |e+1=>zY (jJ e) e
def zU(e k:Nat):Bool:=decide (e&&&k=k)==(decide (k<=e)&&decide ((jJ e).getD (k%(e+1)) 0=1))
theorem Mt:(List.range 61).all (λe=>(List.range 62).all (zU e))=true:=by decide +kernel
theorem HP{e k:Nat}(c:e<61)(b:k<62):fi e k=(decide (k<=e)&&decide ((jJ e).getD (k%(e+1)) 0=1)):=by
 have h:=Mt;rw[cZ] at h;have a:=h e (bB.mpr c);rw[cZ] at a;have d:=a k (bB.mpr b);rw[Rg];exact eq_of_beq d
end K07
namespace K23
open L2 K07
noncomputable def ch:Nat->Nat->Nat
 |_,0=>1
 |0,_+1=>0
 |n+1,k+1=>ch n k+ch n (k+1)
theorem uJ(n:Nat):ch n 0=1:=by cases n<;>rfl
theorem uI:∀n k,n<k->ch n k=0
 |0,_+1,_=>rfl
 |n+1,k+1,h=>by
  show ch n k+ch n (k+1)=0;rw[uI n k (by lia),uI n (k+1) (by lia)]
theorem xf:∀n,ch n n=1
 |0=>rfl
 |n+1=>by
  show ch n n+ch n (n+1)=1;rw[xf n,uI n (n+1) (by lia)]
theorem Bx:∀(n k:Nat),(ch n (k+1):Int)*((k:Int)+1)=(ch n k:Int)*((n:Int)-(k:Int))
 |0,0=>by decide
 |0,k+1=>by
  show((0:Nat):Int)*_=((0:Nat):Int)*_;simp
 |n+1,0=>by
  have h:=Bx n 0;have c:ch (n+1) 1=ch n 0+ch n 1:=rfl;rw[c,uJ,uJ];rw[uJ] at h;simp only[pI] at h ⊢;simp at h ⊢;lia
 |n+1,k+1=>by
  have a:=Bx n k;have b:=Bx n (k+1);have c:ch (n+1) (k+1+1)=ch n (k+1)+ch n (k+1+1):=rfl;have d:ch (n+1) (k+1)=ch n k+ch n (k+1):=rfl;rw[c,d];generalize ch n k=A at a b ⊢;generalize ch n (k+1)=B at a b ⊢;generalize ch n (k+1+1)=C at a b ⊢;simp only[pI,tT,CF,Int.mul_sub,Int.mul_one,Int.natCast_one] at a b ⊢;lia
theorem Eh:∀n k,k<=n->ch n k%2=(jJ n).getD k 0
 |0,0,_=>rfl
 |n+1,0,_=>by rw[uJ];rfl
 |n+1,k+1,h=>by
  have e:(jJ (n+1))=[1]++((List.range n).map λk=>((jJ n).getD k 0+(jJ n).getD (k+1) 0)%2)++[1]:=rfl;rw[e,cK,eE,kZ (by simp)];simp only[rL,Nat.add_sub_cancel];show(ch n k+ch n (k+1))%2=_;by_cases c:k<n
  ·rw[gx (by simpa using c),fK,Dl c];have b:=Eh n k (by lia);have d:=Eh n (k+1) (by lia);show _=((jJ n).getD k 0+(jJ n).getD (k+1) 0)%2;lia
  ·have a:k=n:=by lia
   subst a;rw[kZ (by simp),xf,uI k (k+1) (by lia)];simp
theorem HD{m k:Nat}(b:m<61)(a:k<62):fi m k=decide (ch m k%2=1):=by
 rw[HP b a];by_cases c:k<=m
 ·rw[cC c,Bool.true_and,Nat.mod_eq_of_lt (by lia:k<m+1),Eh m k c]
 ·rw[cI c,Bool.false_and,uI m k (by lia)]
  rfl
noncomputable def eR(a b c:Int):List Int:=if 0<c then[a+b-c,c] else[a+b]
def ah(a b:Int) (n:Nat):List (List Int):=((List.range n).filter λ(c:Nat)=>fi (b-c-1) (a-2*c)).map λ(c:Nat)=>eR a b c
theorem Sd{a b:Int}{n:Nat}(h:fi (b-n-1) (a-2*n)=true):ah a b (n+1)=ah a b n++[eR a b n]:=by
 unfold ah;rw[pJ,kT,iU];simp[pM,h]
theorem Ro{a b:Int}{n:Nat}(h:¬ fi (b-n-1) (a-2*n)=true):ah a b (n+1)=ah a b n:=by
 unfold ah;rw[pJ,kT];simp[pM,h]
theorem qy(a b:Int)(n:Nat):(ah a b n).length<=n:=by
 unfold ah;rw[bh];exact ax (pU _ _) (by simp)
theorem UL{a b:Int}{i:Nat}(h:0<a+b-(i:Int)):(([a+b-(i:Int),(i:Int)].take 2).filter λx=>decide (0<x))=eR a b i:=by
 unfold eR;have e:[a+b-(i:Int),(i:Int)].take 2=[a+b-(i:Int),(i:Int)]:=rfl;rw[e,pM,if_pos (cC h),pM];by_cases c:0<(i:Int)
 ·rw[if_pos c,if_pos (cC c)]
  rfl
 ·have d:(i:Int)=0:=by lia
  rw[if_neg c,if_neg (by rw[cI c];decide),d,Int.sub_zero]
  rfl
end K23
namespace Dd
open L2 K07 K23
theorem U6:Cg [.int e,.int k] au=.ok (.bl (fi e k)) au:=by
 refine gW rfl ?_;have:decide (Builtin.bitAnd e k=k)=fi e k:=by
  unfold fi;rw[kR];simp
 simp[this]
theorem Fj:j5 [.int i] au=.ok (.bl true) au:=rfl
theorem LI:Cv [.int a,.int b] au=.ok (.bl (decide (a<2*b))) au:=by
 refine gW rfl ?_;have m:dX 2 b:=.inl ⟨by decide,by decide⟩;simp[m]
theorem Fe(r:List Int):(r.map D.int).length=r.length:=bh _
theorem pi{r:List Int}{i:Nat}{x:Int}(h:r[i]?=some x):cF (aL r) (.int i) au=.ok (.int x) au:=nt rfl (DX (by rw[fK,h];rfl))
theorem Ew:cu [aL r] au=.ok (.int r.length) au:=by show bv.ok (D.int ((r.map D.int).length:Nat)) au=_;rw[bh]
theorem V3(J:1<=a)(G:a<=60)(S:-1000<=b)(u:b<=1000):∃g,vC [.int a,.int b] au=.ok (.lst (aJ (av (ah a b (a/2+1).toNat)))) (au++g):=by
 have W:=pf (bd:=gN 3) (body:=FG) (xs:=rng 0 (a/2+1).toNat) (σ:=[some (.int a),some (.int b),some (.ref au.length),none]) (au:=au++[.lst []])
  (λi o s=>(∃v,o=[some (.int a),some (.int b),some (.ref au.length),v])/\s=au++[.lst (aJ (ah a b i))]) ⟨⟨none,rfl⟩,rfl⟩ (by
   rintro i y o s z ⟨⟨v,rfl⟩,rfl⟩;obtain⟨P,rfl⟩:=qj z;have x:i<=60:=by lia
   have Q:=qy a b i;have m:dX 2 (0+(i:Int)):=.inl ⟨by decide,by decide⟩;have h:=U6 (au:=au++[.lst (aJ (ah a b i))]) (e:=b-(0+(i:Int))-1) (k:=a-2*(0+(i:Int)));have j:(au++[O.lst (aJ (ah a b i))])[au.length]?=some (.lst (aJ (ah a b i))):=by simp
   have p:=nz j;have f:(aJ (ah a b i)).length<sizeLine:=by rw[zc];exact d5 _ (by lia)
   have A:=small 1 (by lia);have H:=small 2 (by lia);refine⟨[some (.int a),some (.int b),some (.ref au.length),some (.int (0+i))],[some (.int a),some (.int b),some (.ref au.length),some (.int (0+i))],au++[.lst (aJ (ah a b (i+1)))],rfl,?_,⟨_,rfl⟩,rfl⟩;unfold FG;rw[l8] at *
   by_cases c:fi (b-i-1) (a-2*i)=true
   ·rw[Sd c];rw[c] at h;by_cases c2:0<i
    ·have l:eR a b i=[a+b-i,(i:Int)]:=by unfold eR;rw[if_pos (by lia)]
     have d:(ah a b i).length<sizeLine:=by rw[zc] at f;exact f
     simp[h,m,p,d,c2,H,l,jp,aJ]
    ·have t:i=0:=by lia
     subst t;have l:eR a b 0=[a+b]:=by unfold eR;rw[if_neg (by lia)]
     have d:(ah a b 0).length<sizeLine:=by rw[zc] at f;exact f
     simp at h m;simp[h,m,p,d,A,l,jp,aJ]
   ·have I:fi (b-i-1) (a-2*i)=false:=by simpa using c
    rw[Ro c];rw[I] at h
    simp[h,m,jp])
 obtain⟨w,E,e,⟨v,rfl⟩,rfl⟩:=W;rw[kP] at e;refine⟨[.lst (aJ (ah a b (a/2+1).toNat))],gW rfl ?_⟩;have q:ew a 2:=⟨by decide,by decide +kernel⟩
 have C:ca (a/2+1):=kg (by lia) (by lia);have n:(ah a b (a/2+1).toNat).length<=1000000:=by have:=qy a b (a/2+1).toNat;lia
 have j:(au++[O.lst (aJ (ah a b (a/2+1).toNat))])[au.length]?=some (.lst (aJ (ah a b (a/2+1).toNat))):=by simp
 have r:bi [.ref au.length] (au++[.lst (aJ (ah a b (a/2+1).toNat))])=.ok (.lst (aJ (av (ah a b (a/2+1).toNat)))) (au++[.lst (aJ (ah a b (a/2+1).toNat))]):=by
  unfold bi;simp[nz j,n]
 simp[q,C,e,r]
noncomputable def aV(r:List Int) (p:Nat):Prop:=∃a b:Int,r[p]?=some a/\r[p+1]?=some b/\a<2*b
instance (r:List Int) (p:Nat):Decidable (aV r p):=
 match h1:r[p]?,h2:r[p+1]? with
 |some a,some b=>if h:a<2*b then .isTrue ⟨a,b,h1,h2,h⟩ else .isFalse λ⟨x,y,e1,e2,e3⟩=>by rw[h1] at e1;rw[h2] at e2;cases e1;cases e2;exact h e3
 |none,_=>.isFalse λ⟨x,y,e1,_⟩=>by rw[h1] at e1;cases e1
 |some _,none=>.isFalse λ⟨x,y,_,e2,_⟩=>by rw[h2] at e2;cases e2
theorem Td{r:List Int}{p:Int}:nF [aL r,.int p] au=.ok (.bl (decide (0<=p/\aV r p.toNat))) au:=by
 have f:=Fj (au:=au) (i:=p);have m:=Ew (au:=au) (r:=r);by_cases h:0<=p/\p<r.length-1
 ·obtain⟨k,rfl⟩:∃k:Nat,p=k:=⟨p.toNat,by lia⟩
  have u:k<r.length:=by lia
  have q:k+1<r.length:=by lia
  have d:r[k]?=some r[k]:=bS u;have j:r[k+1]?=some r[k+1]:=bS q;have v:=pi (au:=au) d;have l:=pi (au:=au) j;rw[pI] at l;have s:=LI (au:=au) (a:=r[k]) (b:=r[k+1]);have t:(r[k]<2*r[k+1])↔aV r k:=⟨λz=>⟨_,_,d,j,z⟩,λ⟨a,b,g,c,z⟩=>by rw[d] at g;rw[j] at c;cases g;cases c;exact z⟩
  refine gW rfl ?_;have n:(k:Int)<r.length-1:=h.2;simp only[aL] at *
  generalize D.tup (r.map D.int)=R at *
  simp[f,m,v,n,jp];simp at l;simp[l,s,t]
 ·have o:¬ (0<=p/\aV r p.toNat):=λe=>by
   obtain⟨z,a,b,g,c,_⟩:=e;have:=(cU.mp c).1;exact h ⟨z,by lia⟩
  refine gW rfl ?_;rw[cI o];simp only[aL] at *
  generalize D.tup (r.map D.int)=R at *
  by_cases z:0<=p
  ·have c:¬ p<(r.length:Int)-1:=λy=>h ⟨z,y⟩
   simp[f,m,z,c,jp]
  ·simp[f,m,z,jp]
def aw(r:List Int) (p:Nat):List (List Int):=(av (ah (r.getD p 0) (r.getD (p+1) 0) (r.getD p 0/2+1).toNat)).map λtwo=>r.take p++two++r.drop (p+2)
theorem Ct(r:List Int)(p:Nat):(aw r p).length<=(r.getD p 0/2+1).toNat:=by
 unfold aw;rw[bh,vA];exact qy _ _ _
theorem Th:∀r∈ah a b n,r.length<=2:=λr d=>by
 unfold ah at d;obtain⟨c,_,rfl⟩:=bQ.mp d;show(eR a b c).length<=2;unfold eR;split<;>simp
theorem Cc{a b:List Int}(h:a.length+b.length<=1000000):aM (aL a) (aL b) au=.ok (aL (a++b)) au:=by
 rw[wE,if_pos (by rw[bh,bh];exact small _ h),Ky]
theorem xh(r:List Int)(k:Nat):cutD (r.map .int) none (some (k:Int))=(r.take k).map .int:=by rw[GL,List.map_take]
theorem RI(r:List Int)(k:Nat):cutD (r.map .int) (some (k:Int)) none=(r.drop k).map .int:=by rw[K9,List.map_drop]
theorem TK{r:List Int}{p:Nat}(X:p+1<r.length)(J:r.length<=100)(q:1<=r.getD p 0)(m:r.getD p 0<=60)(w:-1000<=r.getD (p+1) 0)(j:r.getD (p+1) 0<=1000):
  ∃g,ra [aL r,.int p] au=.ok (.lst (aJ (aw r p))) (au++g):=by
 have G:r[p]?=some (r.getD p 0):=by rw[cK,bS (by lia)];rfl
 have E:r[p+1]?=some (r.getD (p+1) 0):=by rw[cK,bS (by lia)];rfl
 generalize hA:r.getD p 0=a at *
 generalize hB:r.getD (p+1) 0=b at *
 obtain⟨g,e⟩:=V3 (au:=au) q m w j;have S:(av (ah a b (a/2+1).toNat)).length<=100:=by
  rw[vA];have:=qy a b (a/2+1).toNat;lia
 have W:=nA (bd:=gN 0) (c:=aI) (f:=aS aM (aS aM (aA 2) (aA 0)) (aA 1)) (xs:=aJ (av (ah a b (a/2+1).toNat))) (σ:=[none,some (aL (r.drop (p+2))),some (aL (r.take p))]) (au:=au++g)
  (λi acc n s=>s=au++g/\(∃v,n=[v,some (aL (r.drop (p+2))),some (aL (r.take p))])/\acc=aJ (((av (ah a b (a/2+1).toNat)).take i).map λtwo=>r.take p++two++r.drop (p+2))) ⟨rfl,⟨none,rfl⟩,rfl⟩ (by
   rintro i y acc n s x ⟨rfl,⟨v,rfl⟩,rfl⟩;obtain⟨two,o,rfl⟩:=jk x;have I:two.length<=2:=Th two ((zp _).mem_iff.mp (dY o));have P:(r.take p).length<=100:=by rw[gw];lia
   have U:(r.drop (p+2)).length<=100:=by rw[mZ];lia
   have H:=Cc (au:=au++g) (a:=r.take p) (b:=two) (by lia);have h:=Cc (au:=au++g) (a:=r.take p++two) (b:=r.drop (p+2)) (by rw[cJ];lia);refine⟨[some (aL two),some (aL (r.drop (p+2))),some (aL (r.take p))],true,au++g,rfl,rfl,.inr ⟨rfl,aL (r.take p++two++r.drop (p+2)),au++g,?_,rfl,⟨_,rfl⟩,?_⟩⟩
   ·show(aM (aL (r.take p)) (aL two) (au++g)).bind _=_;rw[H];exact h
   ·rw[ze o,iU]
    simp[aJ])
 obtain⟨Q,t,A,h,rfl,_,rfl⟩:=W;rw[zc,cX] at h;refine⟨g,gW rfl ?_⟩;have d:(aJ (av (ah a b (a/2+1).toNat))).length<=sizeLine:=by rw[zc];exact small _ (by lia)
 have u:=pi (au:=au) G;have k:=pi (au:=au) E;rw[pI] at k;have C:=xh r p;have l:=RI r (p+2);rw[pI] at l;refine fz (σ1:=[some (aL r),some (.int p),some (aL (r.take p)),none]) (st1:=au) (by simp[C]) ?_;refine fz (σ1:=[some (aL r),some (.int p),some (aL (r.take p)),some (aL (r.drop (p+2)))]) (st1:=au) ?_ ?_
 ·simp at l;simp[l]
 ·have z:aH (aE vC (aB (aS cF (aA 0) (aA 1)) (aB (aS cF (aA 0) (aS aM (aA 1) (eC (.int 1)))) aC))) [some (aL r),some (.int p),some (aL (r.take p)),some (aL (r.drop (p+2)))] au=.ok (aJ (av (ah a b (a/2+1).toNat))) (au++g):=by
   simp only[aL] at *
   generalize D.tup (r.map D.int)=R at *
   simp at k;simp[u,k,e]
  rw[nw,mU,z,zo,if_pos d];show((bo _ _ _ _ [none,some (aL (r.drop (p+2))),some (aL (r.take p))] _).bind _).bind _=_;rw[h];unfold aw;rw[hA,hB]
  rfl
theorem VC{l:List (List Int)}(d:l.Nodup)(q:l.length<=1000000):Cp [aK l] au=.ok (.ref au.length) (au++[.dT (aQ l)]):=by
 have W:=pf (bd:=gN 2) (body:=FC) (xs:=aJ l) (σ:=[some (aK l),some (.ref au.length),none]) (au:=au++[.dT []])
  (λi a s=>(∃v,a=[some (aK l),some (.ref au.length),v])/\s=au++[.dT (aQ (l.take i))]) ⟨⟨none,rfl⟩,rfl⟩ (by
   rintro i y a s m ⟨⟨v,rfl⟩,rfl⟩;obtain⟨k,c,rfl⟩:=jk m;have f:(au++[O.dT (aQ (l.take i))])[au.length]?=some (.dT (aQ (l.take i))):=by simp
   have p:=(cU.mp c).1;have j:k∉l.take i:=λz=>by
    have e:(l.take (i+1)).Nodup:=(Da (i+1) l).nodup d;rw[ze c,yJ] at e;exact e.2.2 k z k (by simp) rfl
   have b:(aQ (l.take i)).length<sizeLine:=by
    rw[bh,gw];exact d5 _ (by lia)
   have g:=tH k;have h:=R9 j;refine⟨[some (aK l),some (.ref au.length),some (aL k)],[some (aK l),some (.ref au.length),some (aL k)],au++[.dT (aQ (l.take (i+1)))],rfl,?_,⟨_,rfl⟩,rfl⟩;rw[ze c,←h];unfold FC;simp only[aL] at *
   rw[xY];simp only[AN,zo,wn,yT,Pu,g,f,b,gt]
   simp)
 obtain⟨o,n,e,⟨v,rfl⟩,rfl⟩:=W;rw[zc,cX] at e;refine gW rfl ?_;refine fz (σ1:=[some (aK l),some (.ref au.length),none]) (st1:=au++[.dT []]) (by simp) ?_;refine fz (σ1:=[some (aK l),some (.ref au.length),v]) (st1:=au++[.dT (aQ l)]) (by rw[qZ];exact e) rfl
theorem Ng{r:List Int}(d:r.length<=1000000)(k:DS):aG (aH (aA 1)) 1 [] (gN 0) aI (aE j5 (aB (aA 0) aC)) [some τ0,some (aL r)] au=.ok (.lst (r.map λ_=>D.bl true)) au:=by
 have W:=nA (bd:=gN 0) (c:=aI) (f:=aE j5 (aB (aA 0) aC)) (xs:=r.map D.int) (σ:=[none]) (au:=au)
  (λi acc b s=>s=au/\(∃v,b=[v])/\acc=(r.take i).map λ_=>D.bl true) ⟨rfl,⟨none,rfl⟩,rfl⟩ (by
   rintro i y acc b s a ⟨rfl,⟨v,rfl⟩,rfl⟩;rw[fK] at a;cases hx:r[i]? with
   |none=>rw[hx] at a;cases a
   |some x=>
    rw[hx] at a;cases a;refine⟨[some (.int x)],true,s,rfl,rfl,.inr ⟨rfl,.bl true,s,rfl,rfl,⟨_,rfl⟩,?_⟩⟩;rw[ze hx]
    simp)
 obtain⟨j,h,g,e,rfl,_,rfl⟩:=W;rw[Fe,cX] at e;rw[mU];show(if(r.map D.int).length<=sizeLine then _ else _)=_;rw[if_pos (by rw[Fe];exact small _ d)];show((bo _ _ _ _ [none] _).bind _)=_;rw[e]
 rfl
theorem Vn(r:List Int):cN (r.map λ_=>D.bl true)=some (r.map λ_=>true):=by
 induction r with
 |nil=>rfl
 |cons a r ih=>rw[ce,cN,ih];rfl
theorem VG(h:au[n]?=some (.dT (aQ ks)))(b:r∈ks)(e:r.length<=1000000):vr [.ref n,aL r] au=.ok (.bl true) au:=by
 refine gW rfl ?_;have d:=Ng (au:=au) (τ0:=.ref n) e [];have a:=xR (k:=r) (BZ h);rw[E8,if_pos b] at a;have i:iI true [.lst (r.map λ_=>D.bl true)] au=.ok (.bl true) au:=by
  unfold iI;simp[Vn]
 have g:aE eO (aB (aA 1) (aB (eC (.ty "tuple")) aC)) [some (.ref n),some (aL r)] au=.ok (.bl true) au:=rfl
 have f:aE (iI true) (aB (aG (aH (aA 1)) 1 [] (gN 0) aI (aE j5 (aB (aA 0) aC))) aC) [some (.ref n),some (aL r)] au=.ok (.bl true) au:=by
  rw[j3,lT,d];exact i
 have c:aS (iB false) (aA 1) (aA 0) [some (.ref n),some (aL r)] au=.ok (.bl true) au:=a;show aW _ [some (.ref n),some (aL r)] au=_;rw[nw,qR,g,zo];show(iH _ _ [some (.ref n),some (aL r)] au).bind _=_;rw[qR,f,zo];show(aS (iB false) (aA 1) (aA 0) [some (.ref n),some (aL r)] au).bind _=_;rw[c]
 rfl
theorem VP(h:au[n]?=some (.dT (aQ ks)))(I:ks.Nodup)(hk:ks.length<=500000)(Q:r∈ks)(A:r.length<=100)(t:aV r p)
  (x:1<=r.getD p 0)(q:r.getD p 0<=60)(H:-1000<=r.getD (p+1) 0)(j:r.getD (p+1) 0<=1000):
  ∃g,Cu [.ref n,aL r,.int p] au=.ok .non ((au.set n (.dT (aQ ((r::aw r p).foldl aP ks))))++g):=by
 have Y:p+1<r.length:=by
  obtain⟨a,b,_,z,_⟩:=t;exact(cU.mp z).1
 have f:=ip h;have U:=VG h Q (by lia);have w:=Td (au:=au) (r:=r) (p:=p);rw[cC (p:=0<=(p:Int)/\aV r (p:Int).toNat) ⟨by lia,by rw[j9];exact t⟩] at w;have G:=uM (k:=r) h (by lia);obtain⟨g,C⟩:=TK (au:=au.set n (.dT (aQ (aP ks r)))) Y A x q H j;have hx:=Ct r p;have m:=tP (k:=r) I;have X:=Tq ks r;have W:=pf (bd:=gN 3) (body:=FF) (xs:=aJ (aw r p)) (σ:=[some (.ref n),some (aL r),some (.int p),none]) (au:=au.set n (.dT (aQ (aP ks r)))++g)
  (λi d s=>(∃v,d=[some (.ref n),some (aL r),some (.int p),v])/\s=au.set n (.dT (aQ (((aw r p).take i).foldl aP (aP ks r))))++g) ⟨⟨none,rfl⟩,rfl⟩ (by
   rintro i y d s P ⟨⟨v,rfl⟩,rfl⟩;obtain⟨k,o,rfl⟩:=jk P;have l:(au.set n (.dT (aQ (((aw r p).take i).foldl aP (aP ks r))))++g)[n]?=some (.dT (aQ (((aw r p).take i).foldl aP (aP ks r)))):=by
    rw[gx (by rw[iV];exact f),mV f]
   have c:(((aw r p).take i).foldl aP (aP ks r)).length<=1000000:=by
    have:=VQ ((aw r p).take i) (aP ks r) m;rw[gw] at this;lia
   have u:=uM (k:=k) l c;have J:(au.set n (.dT (aQ (((aw r p).take i).foldl aP (aP ks r))))++g).set n (.dT (aQ (aP (((aw r p).take i).foldl aP (aP ks r)) k)))=au.set n (.dT (aQ (((aw r p).take (i+1)).foldl aP (aP ks r))))++g:=by
    rw[ze o,lH,List.set_append_left _ _ (by rw[iV];exact f),MX]
    rfl
   rw[J] at u;refine⟨[some (.ref n),some (aL r),some (.int p),some (aL k)],[some (.ref n),some (aL r),some (.int p),some (aL k)],_,rfl,?_,⟨_,rfl⟩,rfl⟩;unfold FF;rw[BJ,j3];show((jY [.ref n,aL k] _).bind _)=_;rw[u]
   rfl)
 obtain⟨E,S,e,⟨v,rfl⟩,rfl⟩:=W;rw[zc,cX] at e;refine⟨g,qE (σ:=[some (.ref n),some (aL r),some (.int p),v]) rfl ?_⟩;refine fz (σ1:=[some (.ref n),some (aL r),some (.int p),none]) (st1:=au) ?_ ?_
 ·rw[jw,vZ,uD,j3];show((((vr [.ref n,aL r] au).bind _).bind _).bind _)=_;rw[U]
  rfl
 refine fz (σ1:=[some (.ref n),some (aL r),some (.int p),none]) (st1:=au) ?_ ?_
 ·rw[jw,vZ,uD,j3];show((((nF [aL r,.int p] au).bind _).bind _).bind _)=_;rw[w]
  rfl
 refine fz (σ1:=[some (.ref n),some (aL r),some (.int p),none]) (st1:=au.set n (.dT (aQ (aP ks r)))) ?_ ?_
 ·rw[BJ,j3];show((jY [.ref n,aL r] au).bind _)=_;rw[G]
  rfl
 ·rw[qZ,wp,j3];show((((ra [aL r,.int p] _).bind _)).bind _)=_;rw[C];exact e
structure iL (f:Nat->D) (kvs:List (List Int×D)) (l:List (List Int)):Prop where
 nd:(kvs.map (·.1)).Nodup
 mem:∀k,k∈kvs.map (·.1)↔k∈l
 val:∀p∈kvs,p.2=f (l.count p.1)
 len:kvs.length<=l.length
theorem iL.nil(f:Nat->D):iL f [] []:=⟨mY,λk=>by simp,λp h=>(by cases h),by simp⟩
theorem iL.at(h:iL f b l)(k:List Int):cO b k=if k∈l then some (f (l.count k)) else none:=by
 have d:∀b:List (List Int×D),(∀p∈b,p.2=f (l.count p.1))->cO b k=if k∈b.map (·.1) then some (f (l.count k)) else none:=by
  intro b
  induction b with
  |nil=>intro _;rfl
  |cons a b c=>
   intro g;have c:=c λp i=>g p (bT _ i)
   unfold cO at c ⊢;rw[lF];by_cases e:a.1=k
   ·have:=g a dk;simp only[e,pB,Option.map_some,ce,bZ,true_or,gt];rw[this,e]
   ·simp only[cI e];rw[c];simp only[ce,bZ,show ¬ k=a.1 from λz=>e z.symm,false_or]
 rw[d b h.val];simp only[h.mem]
theorem iL.put(h:iL f kvs l)(k:List Int):iL f (iA kvs k (f (l.count k+1))) (l++[k]):=by
 have g:(kvs.any λd=>decide (d.1=k))=decide (k∈l):=by
  rw[kR,lG,←h.mem,C1,bQ];constructor
  ·rintro⟨x,n,e⟩;exact⟨x,n,by simpa using e⟩
  ·rintro⟨p,hp,e⟩;exact⟨p,hp,by simpa using e⟩
 unfold iA;rw[g];by_cases hk:k∈l
 ·rw[if_pos (by simpa using hk)];have c:(kvs.map λd=>if d.1=k then(d.1,f (l.count k+1)) else d).map (·.1)=kvs.map (·.1):=by
   rw[eM]
   congr 1
   funext p
   dsimp only[Function.comp];split<;>rfl
  refine⟨by rw[c];exact h.nd,λx=>?_,λp hp=>?_,?_⟩
  ·rw[c,h.mem,dB,em];exact⟨.inl,λz=>z.elim id λe=>e ▸ hk⟩
  ·obtain⟨q,o,rfl⟩:=bQ.mp hp;have:=h.val q o;by_cases e:q.1=k
   ·rw[if_pos e];dsimp only;rw[e,j8];simp
   ·rw[if_neg e,this,j8];have:List.count q.1 [k]=0:=by rw[ka];simpa using e
    rw[this];rfl
  ·rw[bh,cJ];have:=h.len;lia
 ·rw[if_neg (by simpa using hk)];refine⟨?_,λx=>?_,λp hp=>?_,?_⟩
  ·rw[iU,yJ];refine⟨h.nd,by simp,λa j b i=>?_⟩;simp at i;subst i;exact λe=>hk ((h.mem _).mp (e ▸ j))
  ·rw[iU,dB,h.mem,dB];simp
  ·rcases dB.mp hp with hp|hp
   ·have m:=h.val p hp;have r:p.1≠k:=λe=>hk ((h.mem _).mp (e ▸ bQ.mpr ⟨p,hp,rfl⟩))
    rw[m,j8];have:List.count p.1 [k]=0:=by rw[ka];simpa using r
    rw[this];rfl
   ·simp at hp;subst hp;rw[j8,ka.mpr hk];simp
  ·rw[cJ,cJ];have:=h.len;simp;exact this
noncomputable def k7(n:Nat):D:=.bl (decide (n%2=1))
theorem N1(n:Nat):k7 (n+1)=.bl (!decide (n%2=1)):=by
 unfold k7
 congr 1
 by_cases h:n%2=1
 ·rw[cC h,cI (by lia)];rfl
 ·rw[cI h,cC (by lia)];rfl
theorem Fk(P:eG x=some (aJ l))(hl:l.length<=1000000)(j:(aN l).length<=1000000):∃g,zw [x] au=.ok (aK (aO l)) (au++g):=by
 have W:=pf (bd:=gN 2) (body:=Fs) (xs:=aJ l) (σ:=[some x,some (.ref au.length),none]) (au:=au++[.dT []])
  (λi d s=>∃(v:Option D) (a:List (List Int×D)),d=[some x,some (.ref au.length),v]/\s=au++[.dT a]/\iL k7 a (l.take i)) ⟨none,[],rfl,rfl,iL.nil _⟩ (by
   rintro i y d s t ⟨v,a,rfl,rfl,b⟩;obtain⟨k,o,rfl⟩:=jk t;have A:=b.put k;have q:(au++[O.dT a])[au.length]?=some (.dT a):=by simp
   have m:(cO a k).getD (.bl false)=.bl (decide ((l.take i).count k%2=1)):=by
    rw[b.at];split
    ·rfl
    ·rename_i z;rw[ka.mpr z];rfl
   have r:=tH k;have Q:=BZ q;have E:a.length<sizeLine:=by
    have h1:=b.len;have h2:(l.take i).length<=l.length:=by rw[gw];exact rD _ _
    exact d5 _ (by lia)
   refine⟨[some x,some (.ref au.length),some (aL k)],[some x,some (.ref au.length),some (aL k)],au++[.dT (iA a k (k7 ((l.take i).count k+1)))],rfl,?_,some (aL k),_,rfl,rfl,by rw[ze o];exact A⟩;rw[N1];unfold Fs;simp only[aL] at *
   simp only[xY,wm,LD,wn,AN,yT,Pu,zo,Q,r,m,q,E,gt]
   simp)
 obtain⟨S,U,e,v,a,rfl,rfl,b⟩:=W;rw[zc,cX] at b;have V:=nA (bd:=gN 0) (c:=cM (aS eW (aA 1) (aA 0))) (f:=aA 0) (xs:=aJ (a.map (·.1))) (σ:=[none,some (.ref au.length)]) (au:=au++[.fT a])
  (λi acc d s=>s=au++[.fT a]/\(∃w:Option D,d=[w,some (.ref au.length)])/\acc=aJ (((a.map (·.1)).take i).filter λk=>decide (l.count k%2=1))) ⟨rfl,⟨none,rfl⟩,rfl⟩ (by
   rintro i y acc d s t ⟨rfl,⟨w,rfl⟩,rfl⟩;obtain⟨k,o,rfl⟩:=jk t;have q:(au++[O.fT a])[au.length]?=some (.fT a):=by simp
   have C:k∈l:=(b.mem k).mp (dY o);have m:cO a k=some (k7 (l.count k)):=by rw[b.at,if_pos C]
   have r:eW (.ref au.length) (aL k) (au++[O.fT a])=.ok (k7 (l.count k)) _:=Mi (Ms q) m;refine⟨[some (aL k),some (.ref au.length)],decide (l.count k%2=1),au++[.fT a],rfl,?_,?_⟩
   ·rw[uD];show((eW (.ref au.length) (aL k) (au++[O.fT a])).bind _)=_;rw[r]
    rfl
   ·by_cases j:l.count k%2=1
    ·refine .inr ⟨cC j,aL k,_,rfl,rfl,⟨_,rfl⟩,?_⟩;rw[ze o,kT];simp[j,aJ]
    ·refine .inl ⟨cI j,rfl,⟨_,rfl⟩,?_⟩;rw[ze o,kT]
     simp[j,aJ])
 obtain⟨ys,Y,J,m,rfl,⟨w,rfl⟩,rfl⟩:=V;rw[zc,cX] at m;refine⟨[.fT a],gW rfl ?_⟩;have G:((a.map (·.1)).filter λk=>decide (l.count k%2=1)).Nodup:=b.nd.filter _;have I:∀k,k∈((a.map (·.1)).filter λk=>decide (l.count k%2=1))↔l.count k%2=1:=λk=>by
  rw[dL,b.mem,lG];refine⟨λh=>h.2,λh=>⟨?_,h⟩⟩;rcases yL (l.count k) with z|z
  ·rw[z] at h;cases h
  ·exact rE.mp z
 have E:av ((a.map (·.1)).filter λk=>decide (l.count k%2=1))=aO l:=Ef G I;have u:((a.map (·.1)).filter λk=>decide (l.count k%2=1)).length<=1000000:=by
  have p:=Fo G (vo l) λk=>by rw[I,tr]
  rw[p.length_eq];exact j
 have H:=Vp (au:=au++[.fT a]) u;rw[E] at H;have n:(aJ (a.map (·.1))).length<=sizeLine:=by
  rw[zc,bh];exact small _ (by have:=b.len;lia)
 refine fz (σ1:=[some x,some (.ref au.length),none]) (st1:=au++[.dT []]) (by simp) ?_;refine fz (σ1:=[some x,some (.ref au.length),v]) (st1:=au++[.dT a]) (by simp[P,e]) ?_;have X:aG (h8 (aA 1)) 1 [1] (gN 0) (cM (aS eW (aA 1) (aA 0))) (aA 0) [some x,some (.ref au.length),v] (au++[.dT a])=.ok (.lst (aJ ((a.map (·.1)).filter λk=>decide (l.count k%2=1)))) (au++[.fT a]):=by
  rw[mU];have e8:h8 (aA 1) [some x,some (.ref au.length),v] (au++[.dT a])=.ok (aJ (a.map (·.1))) (au++[.fT a]):=by
   simp
  rw[e8,zo,if_pos n];show(bo _ _ _ _ [none,some (.ref au.length)] _).bind _=_;rw[m]
  rfl
 rw[nw,j3,lT,j3,lT,X];simp only[zo,vW,H,Uj]
theorem BI{m:Int}(h:m<=1000):m<2^1000:=O9 h (by decide +kernel)
theorem Jc(b:0<j)(a:j<=1000):ew i j:=⟨b,O9 a (by decide +kernel)⟩
theorem Jm(h:ew i j):gB (.int i) (.int j) au=.ok (.int (i/j)) au:=by
 show oI ew (λi j=>D.int (i/j)) (.int i) (.int j) au=_;rw[zW,if_pos h]
theorem AA(a:-10000<=j)(b:j<=10000):dX i j:=.inr ⟨by lia,by lia⟩
theorem iz(a:-10000<=j)(b:j<=10000):ca j:=kg (by lia) (by lia)
theorem RA(e:f σ au=.ok (.ref n) st1)(d:st1[n]?=some (.lst xs0))(b:g σ st1=.ok [y] st2)(a:st2[n]?=some (.lst xs))(c:xs.length<sizeLine):
  cq f g σ au=.ok .non (st2.set n (.lst (xs++[y]))):=by
 rw[RP,e,zo,nz d];dsimp only;rw[b,zo,a];dsimp only;rw[if_pos c]
theorem U3{M K:Int}{m k:Nat}(f:M=m)(d:K=k)(j:m<=100)(h:k<=100):tJ [.int M,.int K] au=.ok (.int (ch m k:Nat)) au:=by
 have W:=pf (bd:=gN 3) (body:=Fy) (xs:=rng 0 K.toNat) (σ:=[some (.int M),some (.int K),some (.int 1),none]) (au:=au)
  (λi c s=>s=au/\∃v C,c=[some (.int M),some (.int K),some (.int C),v]/\C=(ch m i:Nat)) ⟨rfl,none,1,rfl,by rw[uJ];rfl⟩ (by
   rintro i y c s g ⟨rfl,v,C,rfl,a⟩;obtain⟨w,rfl⟩:=qj g;generalize hI:(0:Int)+(i:Int)=I;have e:=Bx m i;have r:C*(M-I)/(I+1)=((ch m (i+1):Nat):Int):=by
    rw[a,f,←hI,l8,←e];exact Int.mul_ediv_cancel _ (by lia)
   have l:dX C (M-I):=AA (by lia) (by lia);have o:ew (C*(M-I)) (I+1):=Jc (by lia) (by lia);clear a f d j h e g;refine⟨[some (.int M),some (.int K),some (.int C),some (.int I)],[some (.int M),some (.int K),some (.int (C*(M-I)/(I+1))),some (.int I)],s,rfl,?_,rfl,_,_,rfl,r⟩;unfold Fy;have u:aS bC (aA 2) (aS cf (aA 0) (aA 3)) [some (.int M),some (.int K),some (.int C),some (.int I)] s=.ok (.int (C*(M-I))) s:=by simp[l]
   have q:aS aM (aA 3) (eC (.int 1)) [some (.int M),some (.int K),some (.int C),some (.int I)] s=.ok (.int (I+1)) s:=by simp
   rw[q7,kM,u,zo,q,zo,Jm o,zo]
   rfl)
 obtain⟨t,p,e,rfl,v,C,rfl,a⟩:=W;rw[kP] at a;have b:C=(ch m k:Nat):=by rw[a,d];rfl
 have n:ca K:=iz (by lia) (by lia);rw[←b];clear a b f d j h;refine gW rfl ?_;simp[n,e]
theorem Vh{a b:Int}{i:Nat}(h:0<a+b-(i:Int)):([a+b-(i:Int),(i:Int)].filter λx=>decide (0<x))=eR a b i:=by
 have:=UL h;exact this
theorem U1{a b:Int}(ha:1<=a)(X:a<=40)(hb:1<=b)(E:b<=40)(Q:a<2*b):∃g,vk [.int a,.int b] au=.ok (aK (av (ah a b (a/2+1).toNat))) (au++g):=by
 have W:=pf (bd:=gN 3) (body:=Fx) (xs:=rng 0 (a/2+1).toNat) (σ:=[some (.int a),some (.int b),some (.ref au.length),none]) (au:=au++[.lst []])
  (λi q s=>(∃v,q=[some (.int a),some (.int b),some (.ref au.length),v])/\s=au++[.lst (aJ (ah a b i))]) ⟨⟨none,rfl⟩,rfl⟩ (by
   rintro i y q s P ⟨⟨v,rfl⟩,rfl⟩;obtain⟨hi,rfl⟩:=qj P;have I:2*(i:Int)<=a:=by lia
   have hl:=qy a b i;have m:dX 2 (i:Int):=.inl ⟨by decide,by decide⟩;have t:=U3 (au:=au++[.lst (aJ (ah a b i))]) (M:=b-i-1) (K:=a-2*i) (m:=(b-i-1).toNat) (k:=(a-2*i).toNat) (by lia) (by lia) (by lia) (by lia);have j:(((b-i-1).toNat:Nat):Int)=b-i-1:=by lia
   have h:(((a-2*i).toNat:Nat):Int)=a-2*i:=by lia
   have f:(au++[O.lst (aJ (ah a b i))])[au.length]?=some (.lst (aJ (ah a b i))):=by simp
   have hL:=nz f;have l:(ah a b i).length<sizeLine:=d5 _ (by lia);have w:=small 2 (by lia);have d:fi (b-i-1) (a-2*i)=decide (((ch (b-i-1).toNat (a-2*i).toNat:Nat):Int)%2=1):=by
    have e:=HD (m:=(b-i-1).toNat) (k:=(a-2*i).toNat) (by lia) (by lia);rw[j,h] at e;rw[e,kR];simp only[lG];lia
   generalize ch (b-i-1).toNat (a-2*i).toNat=W at t d;clear j h;refine⟨[some (.int a),some (.int b),some (.ref au.length),some (.int (0+i))],[some (.int a),some (.int b),some (.ref au.length),some (.int (0+i))],au++[.lst (aJ (ah a b (i+1)))],rfl,?_,⟨_,rfl⟩,rfl⟩;rw[l8];unfold Fx;have G:aG (aH (dU (aB (aS cf (aS aM (aA 0) (aA 1)) (aA 3)) (aB (aA 3) aC)))) 1 [] (gN 0) (eB (aS lO (aA 0) (eC (.int 0)))) (aA 0) [some (.int a),some (.int b),some (.ref au.length),some (.int i)] (au++[.lst (aJ (ah a b i))])
     = .ok (.lst ((eR a b i).map D.int)) (au++[.lst (aJ (ah a b i))]):=by
    have Y:0<a+b-(i:Int):=by lia
    rw[←Vh Y];have o:(i:Int)<a+b:=by lia
    by_cases c2:0<i
    ·simp[w,bo,gN,aT,o,c2,pM]
    ·have C:i=0:=by lia
     subst C;simp at o;simp[w,bo,gN,aT,o,pM]
   by_cases c:fi (b-i-1) (a-2*i)=true
   ·rw[Sd c];have u:(W:Int)%2=1:=by rw[d] at c;exact gP c
    rw[jw];have r:eB (aS jL (aS fU (aE tJ (aB (aS cf (aS cf (aA 1) (aA 3)) (eC (.int 1))) (aB (aS cf (aA 0) (aS bC (eC (.int 2)) (aA 3))) aC))) (eC (.int 2))) (eC (.int 1))) [some (.int a),some (.int b),some (.ref au.length),some (.int i)] (au++[.lst (aJ (ah a b i))])=.ok true (au++[.lst (aJ (ah a b i))]):=by
     simp[m,t,u]
    rw[r,zo,if_pos rfl,BJ];have J:aB (aE bJ (aB (aG (aH (dU (aB (aS cf (aS aM (aA 0) (aA 1)) (aA 3)) (aB (aA 3) aC)))) 1 [] (gN 0) (eB (aS lO (aA 0) (eC (.int 0)))) (aA 0)) aC)) aC [some (.int a),some (.int b),some (.ref au.length),some (.int i)] (au++[.lst (aJ (ah a b i))])=.ok [aL (eR a b i)] (au++[.lst (aJ (ah a b i))]):=by
     rw[lT,j3,lT,G]
     rfl
    rw[RA (n:=au.length) rfl f J f (by rw[zc];exact l),zo];simp[aJ]
   ·have u:¬ (W:Int)%2=1:=λz=>c (by rw[d];exact cC z)
    rw[Ro c];have r:eB (aS jL (aS fU (aE tJ (aB (aS cf (aS cf (aA 1) (aA 3)) (eC (.int 1))) (aB (aS cf (aA 0) (aS bC (eC (.int 2)) (aA 3))) aC))) (eC (.int 2))) (eC (.int 1))) [some (.int a),some (.int b),some (.ref au.length),some (.int i)] (au++[.lst (aJ (ah a b i))])=.ok false (au++[.lst (aJ (ah a b i))]):=by
     simp[m,t,u]
    rw[jw,r,zo,if_neg (by decide)]
    rfl)
 obtain⟨H,U,e,⟨v,rfl⟩,rfl⟩:=W;rw[kP] at e;refine⟨[.lst (aJ (ah a b (a/2+1).toNat))],gW rfl ?_⟩;have x:ew a 2:=⟨by decide,by decide +kernel⟩
 have S:ca (a/2+1):=kg (by lia) (by lia);have p:(ah a b (a/2+1).toNat).length<=1000000:=by have:=qy a b (a/2+1).toNat;lia
 have f:(au++[O.lst (aJ (ah a b (a/2+1).toNat))])[au.length]?=some (.lst (aJ (ah a b (a/2+1).toNat))):=by simp
 have A:bi [.ref au.length] (au++[.lst (aJ (ah a b (a/2+1).toNat))])=.ok (.lst (aJ (av (ah a b (a/2+1).toNat)))) (au++[.lst (aJ (ah a b (a/2+1).toNat))]):=by
  unfold bi;simp[nz f,p]
 simp[x,S,e,A]
structure bt (r:List Int) (most:Int) (long:Nat):Prop where
 pos:∀p∈r,1<=p
 sum:r.sum<=most
 len:r.length<=long
theorem px{r:List Int}(h:∀p∈r,1<=p):0<=r.sum:=by
 induction r with
 |nil=>simp
 |cons a r ih=>
  rw[fq];have:=h a dk;have:=ih λp b=>h p (bT _ b)
  lia
theorem bV.over(d:bV au s n)(h:n<au.length)(j:au.length<=k):bV au (s.set k o) n:=by
 obtain⟨c,x,e,g,b⟩:=d.bag;exact⟨by rw[iV];exact d.len,λi f a=>by rw[ft (by lia)];exact d.keep i f a,c,x,by rw[ft (by lia)];exact e,g,b⟩
theorem QE(a:List D)(y:D):L2.atI (a++[y]) (-1)=some y:=by
 unfold L2.atI ko;rw[cJ];have e:((-1:Int)+((a.length+[y].length:Nat):Int)).toNat=a.length:=by simp;lia
 rw[if_neg (by lia),if_pos (by simp;lia),e];simp
theorem SJ{n:Nat}{m L:Int}{lg:Nat}(eL:L=lg)(a5:lg<=100)(J:cT au n)(h0:0<=m)(h1:m<=900):∃r b,nE [.ref n,.int m,.int L] au=.ok (aL r) b/\bt r m lg/\bV au b n:=by
 have S:n<au.length:=by obtain⟨_,_,e,_⟩:=J;exact ip e
 have B0:cT (au++[.lst []]) n:=(bV.more J [.lst []]).bag;obtain⟨t,st1,e1,t0,t1,D1,E⟩:=uR B0 (m:=L+1) (by lia) (BI (by lia));have k1:st1[au.length]?=some (.lst []):=by rw[D1.keep au.length (by simp) (by lia)];simp
 have W:=pf (bd:=gN 5) (body:=Ft) (xs:=rng 0 t.toNat) (σ:=[some (.ref n),some (.int m),some (.int L),some (.ref au.length),some (.int m),none]) (au:=st1)
  (λi A s=>bV au s n/\au.length<s.length/\∃(r:List Int) (left:Int) (v:Option D),A=[some (.ref n),some (.int m),some (.int L),some (.ref au.length),some (.int left),v]/\left=m-r.sum/\s[au.length]?=some (.lst (r.map .int))/\bt r m i)
  ⟨(bV.more J _).trans D1,by rw[E];simp,[],m,none,rfl,by simp,k1,⟨λp h=>(by cases h),by simpa using h0,by simp⟩⟩ (by
   rintro i x A s hx ⟨w,j,r,left,v,rfl,a,o,c⟩;obtain⟨hi,rfl⟩:=qj hx;generalize hI:(0:Int)+(i:Int)=I;unfold Ft;have rs:=px c.pos;have a3:i<200:=by lia
   by_cases hpos:0<left
   ·obtain⟨C,s2,e2,a0,a1,Y,l2⟩:=uR w.bag (m:=3) (by lia) (BI (by lia));have l:∃q:Int,1<=q/\q<=left/\cF (.lst [.int left,.int (if 5<left then 5 else left),.int (if 2<left then 2 else left)]) (.int C) s2=.ok (.int q) s2:=by
     rcases(show C=0\/C=1\/C=2 by lia) with rfl|rfl|rfl
     ·exact⟨left,by lia,by lia,rfl⟩
     ·exact⟨if 5<left then 5 else left,by split<;>lia,by split<;>lia,rfl⟩
     ·exact⟨if 2<left then 2 else left,by split<;>lia,by split<;>lia,rfl⟩
    obtain⟨q,q1,q2,e3⟩:=l;obtain⟨p,s3,G,b0,b1,D3,l3⟩:=uR Y.bag (m:=q) q1 (BI (by lia));have H:s2[au.length]?=some (.lst (r.map .int)):=by rw[Y.keep au.length j (by lia)];exact o
    have Q:s3[au.length]?=some (.lst (r.map .int)):=by rw[D3.keep au.length (by lia) (by lia)];exact H
    have X:=small 3 (by lia);have U:(r.map D.int).length<sizeLine:=by rw[Fe];exact d5 _ (by have:=c.len;lia)
    have d:au.length<s3.length:=by lia
    have y:aB (aS aM (eC (.int 1)) (aE zl (aB (aA 0) (aB (aS cF (dU (aB (aA 4) (aB (aE ge (aB (aA 4) (aB (eC (.int 5)) aC))) (aB (aE ge (aB (aA 4) (aB (eC (.int 2)) aC))) aC)))) (aE zl (aB (aA 0) (aB (eC (.int 3)) aC)))) aC)))) aC
      [some (.ref n),some (.int m),some (.int L),some (.ref au.length),some (.int left),some (.int I)] s=.ok [.int (1+p)] s3:=by
     simp[e2,e3,G,X]
    have k:=RA (f:=aA 3) (σ:=[some (.ref n),some (.int m),some (.int L),some (.ref au.length),some (.int left),some (.int I)]) rfl o y Q U;have u:(s3.set au.length (.lst (r.map D.int++[D.int (1+p)])))[au.length]?=some (.lst ((r++[1+p]).map .int)):=by
     rw[mV d,iU];rfl
    have g:cF (.ref au.length) (.int (-1)) (s3.set au.length (.lst (r.map D.int++[D.int (1+p)])))=.ok (.int (1+p)) (s3.set au.length (.lst (r.map D.int++[D.int (1+p)]))):=by
     refine nt (E4 u) ?_;rw[iU];exact QE _ _
    refine⟨[some (.ref n),some (.int m),some (.int L),some (.ref au.length),some (.int left),some (.int I)],[some (.ref n),some (.int m),some (.int L),some (.ref au.length),some (.int (left-(1+p))),some (.int I)],s3.set au.length (.lst (r.map D.int++[D.int (1+p)])),rfl,?_,?_,by rw[iV];exact d,r++[1+p],_,_,rfl,?_,u,?_⟩
    ·rw[jw];show(if decide (0<left)=true then _ else _)=_;rw[if_pos (cC hpos)];refine fz (σ1:=[some (.ref n),some (.int m),some (.int L),some (.ref au.length),some (.int left),some (.int I)]) (st1:=s3.set au.length (.lst (r.map D.int++[D.int (1+p)]))) ?_ ?_
     ·rw[BJ,k]
      rfl
     ·simp[g]
    ·exact((w.trans Y).trans D3).over S (bj _)
    ·rw[a,iw];simp;lia
    ·refine⟨λz hz=>?_,?_,?_⟩
     ·rcases dB.mp hz with hz|hz
      ·exact c.pos z hz
      ·simp at hz;lia
     ·rw[iw];simp;lia
     ·rw[cJ];have:=c.len;simp;lia
   ·refine⟨[some (.ref n),some (.int m),some (.int L),some (.ref au.length),some (.int left),some (.int I)],[some (.ref n),some (.int m),some (.int L),some (.ref au.length),some (.int left),some (.int I)],s,rfl,?_,w,j,r,left,_,rfl,a,o,⟨c.pos,c.sum,oz c.len⟩⟩;rw[jw];show(if decide (0<left)=true then _ else _)=_;rw[if_neg (by rw[cI hpos];decide)]
    rfl)
 obtain⟨a2,b,e,w,j,r,left,v,rfl,a,o,c⟩:=W;rw[kP] at c;refine⟨r,b,gW rfl ?_,⟨c.pos,c.sum,by have:=c.len;lia⟩,w⟩;have a4:=small 0 (by lia);have P:ca t:=iz (by lia) (by lia);refine fz (σ1:=[some (.ref n),some (.int m),some (.int L),some (.ref au.length),none,none]) (st1:=au++[.lst []]) (by simp) ?_;refine fz (σ1:=[some (.ref n),some (.int m),some (.int L),some (.ref au.length),some (.int m),none]) (st1:=au++[.lst []]) (by simp) ?_;refine fz (σ1:=[some (.ref n),some (.int m),some (.int L),some (.ref au.length),some (.int left),v]) (st1:=b) ?_ ?_
 ·have G:h7 (aB (aE zl (aB (aA 0) (aB (aS aM (aA 2) (eC (.int 1))) aC))) aC) [some (.ref n),some (.int m),some (.int L),some (.ref au.length),some (.int m),none] (au++[.lst []])=.ok (rng 0 t.toNat) st1:=by
   simp[e1,P]
  rw[qZ,G];exact e
 ·rw[nw,j3];show((bJ [.ref au.length] b).bind _)=_;rw[Uk o]
  rfl
theorem U2{n:Nat}{A m L:Int}{e:Nat}(C:L=e)(u:e<=100)(hA:0<=A)(U:A<=60)(J:cT au n)(S:0<=m)(Y:m<=900):
  ∃l d,nG [.ref n,.int A,.int m,.int L] au=.ok (aK l) d/\(∀r∈l,bt r m e)/\l.Nodup/\(l.length:Int)<=A/\o3 l/\bV au d n:=by
 obtain⟨t,st1,X,t0,t1,P,_⟩:=uR J (m:=A+1) (by lia) (BI (by lia));have W:=nA (bd:=gN 0) (c:=aI) (f:=aE nE (aB (aA 1) (aB (aA 2) (aB (aA 3) aC)))) (xs:=rng 0 t.toNat) (σ:=[none,some (.ref n),some (.int m),some (.int L)]) (au:=st1)
  (λi acc q s=>bV au s n/\(∃w:Option D,q=[w,some (.ref n),some (.int m),some (.int L)])/\∃l:List (List Int),acc=aJ l/\(∀r∈l,bt r m e)/\l.length=i) ⟨P,⟨none,rfl⟩,[],rfl,λr h=>(by cases h),rfl⟩ (by
   rintro i y acc q s hy ⟨b,⟨w,rfl⟩,l,rfl,p,k⟩;obtain⟨r,Q,v,I,D2⟩:=SJ C u b.bag S Y;refine⟨[some y,some (.ref n),some (.int m),some (.int L)],true,s,rfl,rfl,.inr ⟨rfl,aL r,Q,?_,b.trans D2,⟨_,rfl⟩,l++[r],by simp[aJ],λz hz=>?_,by simp[k]⟩⟩
   ·simp[v]
   ·rcases dB.mp hz with hz|hz
    ·exact p z hz
    ·simp at hz;subst hz
     exact I)
 obtain⟨ys,G,a,v,b,_,l,rfl,p,k⟩:=W;rw[kP] at k;obtain⟨g,H⟩:=Fk (au:=a) (x:=.lst (aJ l)) (l:=l) rfl (by lia) (by have:=tQ l;lia);refine⟨aO l,a++g,gW rfl ?_,λr h=>p r (qu h),nH l,by have:=Fn l;lia,vc _,b.trans (.more b.bag g)⟩;have o:ca t:=iz (by lia) (by lia);have j:(rng 0 t.toNat).length<=sizeLine:=by rw[kP];exact small _ (by lia)
 have E:h7 (aB (aE zl (aB (aA 0) (aB (aS aM (aA 1) (eC (.int 1))) aC))) aC) [some (.ref n),some (.int A),some (.int m),some (.int L)] au=.ok (rng 0 t.toNat) st1:=by
  simp[X,o]
 show aW _ [some (.ref n),some (.int A),some (.int m),some (.int L)] au=_;rw[nw,j3,lT,mU,E,zo,if_pos j];show(((((bo _ _ _ _ [none,some (.ref n),some (.int m),some (.int L)] st1).bind _).bind _).bind _).bind _)=_;rw[v];show((zw [.lst (aJ l)] a).bind _)=_;rw[H]
 rfl
end Dd
namespace Dd
open L2
def WP{b:Type}(r:bv b) (Q:b->aa->Prop):Prop:=match r with
 |.ok a au=>Q a au
 |_=>False
theorem WP.get{b:Type}{r:bv b}{Q:b->aa->Prop}(h:WP r Q):∃a au,r=.ok a au/\Q a au:=by
 cases r with
 |ok a au=>exact⟨a,au,rfl,h⟩
 |exc x au=>exact h.elim
 |stuck=>exact h.elim
theorem WP.of{b:Type}{r:bv b}{Q:b->aa->Prop}{a:b}(e:r=.ok a au)(h:Q a au):WP r Q:=by rw[e];exact h
theorem WP.mono{c:Type}{r:bv c}{Q Q':c->aa->Prop}(h:WP r Q)(k:∀a b,Q a b->Q' a b):WP r Q':=by
 obtain⟨a,b,rfl,q⟩:=h.get;exact k a b q
theorem zh{b c:Type}{r:bv b}{f:b->aa->bv c}{Q:c->aa->Prop}:WP (r.bind f) Q=WP r (λa d=>WP (f a d) Q):=by
 cases r<;>rfl
def jH(t:SS) (Q:Fl->aa->Prop):Fl->aa->Prop:=λfl a=>match fl with
 |.nx σ=>WP (t σ a) Q
 |fl=>Q fl a
theorem n7:WP (aD s t σ au) Q=WP (s σ au) (jH t Q):=by
 unfold aD;cases s σ au with
 |ok fl st1=>cases fl<;>rfl
 |exc x au=>rfl
 |stuck=>rfl
theorem n6{d:Type} [Decidable c]{a b:bv d}{Q:d->aa->Prop}:WP (if c then a else b) Q=if c then WP a Q else WP b Q:=by
 split<;>rfl
theorem ET{b:Type} [Decidable c]{a:bv b}{Q:b->aa->Prop}:WP (if c then a else .stuck) Q=(c/\WP a Q):=by
 by_cases h:c
 ·rw[if_pos h];simp[h]
 ·rw[if_neg h];simp[h,WP]
def mw(Q:D->aa->Prop):Fl->aa->Prop:=λb a=>match b with
 |.ret v=>Q v a
 |.nx _=>Q .non a
 |_=>False
theorem gM{n c:Nat}{b:SS}{a:List D}{d:aa}{Q:D->aa->Prop}(h:a.length=c)(k:WP (b (a.map some++List.replicate (n-c) none) d) (mw Q)):WP (cB n c b a d) Q:=by
 obtain⟨f,g,e,q⟩:=k.get;unfold cB;rw[if_pos h,e];cases f<;>first|exact q|exact q.elim
def bK(Q:Bool->aa->Prop):D->aa->Prop:=λv a=>match v with
 |.bl b=>Q b a
 |_=>False
def gK(b:SG) (Q:Fl->aa->Prop) (a:DS):D->aa->Prop:=λv c=>match b v a with
 |some σ1=>Q (.nx σ1) c
 |none=>False
theorem W:(∀{G:Type}{a:G}{e:aa}{Q:G->aa->Prop},WP (.ok a e) Q=Q a e)
 /\ (∀{s t:SS}{m:DS}{e:aa}{Q:Fl->aa->Prop},WP (aD s t m e) Q=WP (s m e) (jH t Q))
 /\ (∀{t:SS}{m:DS}{e:aa}{Q:Fl->aa->Prop},jH t Q (.nx m) e=WP (t m e) Q)
 /\ (∀{t:SS}{v:D}{e:aa}{Q:Fl->aa->Prop},jH t Q (.ret v) e=Q (.ret v) e)
 /\ (∀{t:SS}{m:DS}{e:aa}{Q:Fl->aa->Prop},jH t Q (.brk m) e=Q (.brk m) e)
 /\ (∀{t:SS}{m:DS}{e:aa}{Q:Fl->aa->Prop},jH t Q (.ct m) e=Q (.ct m) e)
 /\ (∀{v:D}{e:aa}{Q:D->aa->Prop},mw Q (.ret v) e=Q v e)
 /\ (∀{m:DS}{e:aa}{Q:D->aa->Prop},mw Q (.nx m) e=Q .non e)
 /\ (∀{b:Bool}{e:aa}{Q:Bool->aa->Prop},bK Q (.bl b) e=Q b e)
 /\ (∀{d:D}{m:DS}{e:aa}{Q:D->aa->Prop},WP (eC d m e) Q=Q d e)
 /\ (∀{g:D->D->aa->bv D}{f p:SE}{m:DS}{e:aa}{Q:D->aa->Prop},WP (aS g f p m e) Q=WP (f m e) (λx l=>WP (p m l) (λy r=>WP (g x y r) Q)))
 /\ (∀{g:D->aa->bv D}{f:SE}{m:DS}{e:aa}{Q:D->aa->Prop},WP (kr g f m e) Q=WP (f m e) (λx l=>WP (g x l) Q))
 /\ (∀{g:List D->aa->bv D}{f:SA}{m:DS}{e:aa}{Q:D->aa->Prop},WP (aE g f m e) Q=WP (f m e) (λx l=>WP (g x l) Q))
 /\ (∀{m:DS}{e:aa}{Q:List D->aa->Prop},WP (aC m e) Q=Q [] e)
 /\ (∀{f:SE}{g:SA}{m:DS}{e:aa}{Q:List D->aa->Prop},WP (aB f g m e) Q=WP (f m e) (λx l=>WP (g m l) (λn r=>Q (x::n) r)))
 /\ (∀{f:SE}{m:DS}{e:aa}{Q:Bool->aa->Prop},WP (eB f m e) Q=WP (f m e) (bK Q))
 /\ (∀{f p:ST}{m:DS}{e:aa}{Q:Bool->aa->Prop},WP (jQ f p m e) Q=WP (f m e) (λb l=>if b=true then WP (p m l) Q else Q false l))
 /\ (∀{f p:ST}{m:DS}{e:aa}{Q:Bool->aa->Prop},WP (qb f p m e) Q=WP (f m e) (λb l=>if b=true then Q true l else WP (p m l) Q))
 /\ (∀{f:ST}{m:DS}{e:aa}{Q:Bool->aa->Prop},WP (fG f m e) Q=WP (f m e) (λb l=>Q (!b) l))
 /\ (∀{m:DS}{e:aa}{Q:Bool->aa->Prop},WP (aI m e) Q=Q true e)
 /\ (∀{f p:SE}{m:DS}{e:aa}{Q:D->aa->Prop},WP (iH f p m e) Q=WP (f m e) (bK λb l=>if b=true then WP (p m l) Q else Q (.bl false) l))
 /\ (∀{f p:SE}{m:DS}{e:aa}{Q:D->aa->Prop},WP (T9 f p m e) Q=WP (f m e) (bK λb l=>if b=true then Q (.bl true) l else WP (p m l) Q))
 /\ (∀{f:SE}{m:DS}{e:aa}{Q:D->aa->Prop},WP (lh f m e) Q=WP (f m e) (bK λb l=>Q (.bl (!b)) l))
 /\ (∀{c:ST}{f p:SE}{m:DS}{e:aa}{Q:D->aa->Prop},WP (uw c f p m e) Q=WP (c m e) (λb l=>if b=true then WP (f m l) Q else WP (p m l) Q))
 /\ (∀{g:SA}{m:DS}{e:aa}{Q:D->aa->Prop},WP (aR g m e) Q=WP (g m e) (λn l=>n.length<=sizeLine/\Q (.tup n) l))
 /\ (∀{g:SA}{m:DS}{e:aa}{Q:D->aa->Prop},WP (dU g m e) Q=WP (g m e) (λn l=>n.length<=sizeLine/\Q (.lst n) l))
 /\ (∀{g:SA}{m:DS}{e:aa}{Q:D->aa->Prop},WP (de g m e) Q=WP (g m e) (λn l=>n.length<=sizeLine/\Q (.ref l.length) (l++[.lst n])))
 /\ (∀{m:DS}{e:aa}{Q:D->aa->Prop},WP (eX m e) Q=Q (.ref e.length) (e++[.dT []]))
 /\ (∀{m:DS}{e:aa}{Q:Fl->aa->Prop},WP (eV m e) Q=Q (.nx m) e)
 /\ (∀{m:DS}{e:aa}{Q:Fl->aa->Prop},WP (mr m e) Q=Q (.brk m) e)
 /\ (∀{m:DS}{e:aa}{Q:Fl->aa->Prop},WP (WR m e) Q=Q (.ct m) e)
 /\ (∀{m:DS}{e:aa}{Q:Fl->aa->Prop},WP (p0 m e) Q=Q (.ret .non) e)
 /\ (∀{f:SE}{m:DS}{e:aa}{Q:Fl->aa->Prop},WP (aW f m e) Q=WP (f m e) (λv l=>Q (.ret v) l))
 /\ (∀{f:SE}{m:DS}{e:aa}{Q:Fl->aa->Prop},WP (bR f m e) Q=WP (f m e) (λ_ l=>Q (.nx m) l))
 /\ (∀{i:Nat}{f:SE}{m:DS}{e:aa}{Q:Fl->aa->Prop},WP (aF i f m e) Q=WP (f m e) (λv l=>Q (.nx (m.set i (some v))) l))
 /\ (∀{u:SG}{f:SE}{m:DS}{e:aa}{Q:Fl->aa->Prop},WP (i5 u f m e) Q=WP (f m e) (gK u Q m))
 /\ (∀{c:ST}{s t:SS}{m:DS}{e:aa}{Q:Fl->aa->Prop},WP (eH c s t m e) Q=WP (c m e) (λb l=>if b=true then WP (s m l) Q else WP (t m l) Q))
 /\ (∀{w:SA}{u:SG}{z:SS}{m:DS}{e:aa}{Q:Fl->aa->Prop},WP (bP w u z m e) Q=WP (w m e) (λn l=>WP (dS u z n m l) Q))
 /\ (∀{w:SA}{k:Nat}{is:List Nat}{u:SG}{c:ST}{f:SE}{m:DS}{e:aa}{Q:D->aa->Prop},WP (aG w k is u c f m e) Q=WP (w m e) (λn l=>n.length<=sizeLine/\WP (bo u c f n (aT k is m) l) (λH r=>Q (.lst H) r)))
 /\ (∀{w:SA}{k:Nat}{is:List Nat}{u:SG}{c:ST}{f:SE}{m:DS}{e:aa}{Q:D->aa->Prop},WP (mJ w k is u c f m e) Q=WP (w m e) (λn l=>n.length<=sizeLine/\WP (bo u c f n (aT k is m) l) (λH r=>Q (.ref r.length) (r++[.lst H]))))
 /\ (∀{C:Int->Int->Prop} [DecidableRel C] {h:Int->Int->D}{i j:Int}{e:aa}{Q:D->aa->Prop},WP (oI C h (.int i) (.int j) e) Q=(C i j/\Q (h i j) e))
 /\ (∀{i j:Int}{e:aa}{Q:D->aa->Prop},WP (aM (.int i) (.int j) e) Q=Q (.int (i+j)) e)
 /\ (∀{a b:List D}{e:aa}{Q:D->aa->Prop},WP (aM (.tup a) (.tup b) e) Q=(a.length+b.length<=sizeLine/\Q (.tup (a++b)) e))
 /\ (∀{i j:Int}{e:aa}{Q:D->aa->Prop},WP (fB (.int i) (.int j) e) Q=Q (.bl (decide (i<j))) e)
 /\ (∀{i j:Int}{e:aa}{Q:D->aa->Prop},WP (fC false (.int i) (.int j) e) Q=Q (.bl (decide (i=j))) e)
 /\ (∀{i j:Int}{e:aa}{Q:D->aa->Prop},WP (fC true (.int i) (.int j) e) Q=Q (.bl (!decide (i=j))) e)
 /\ (∀{i:Int}{e:aa}{Q:D->aa->Prop},WP (fA (.int i) e) Q=Q (.int (-i)) e)
 /\ (∀{i j:Int}{g:Int->Int->Int}{e:aa}{Q:D->aa->Prop},WP (ux g [.int i,.int j] e) Q=Q (.int (g i j)) e)
 /\ (∀{i:Int}{e:aa}{Q:D->aa->Prop},WP (lj [.int i] e) Q=Q (.int (if i<0 then -i else i)) e)
 /\ (∀{b:Bool}{e:aa}{Q:D->aa->Prop},WP (Qq [.bl b] e) Q=Q (.int (if b=true then 1 else 0)) e)
 /\ (∀{n:List D}{e:aa}{Q:D->aa->Prop},WP (cu [.tup n] e) Q=Q (.int n.length) e)
 /\ (∀{n:List D}{e:aa}{Q:D->aa->Prop},WP (cu [.lst n] e) Q=Q (.int n.length) e)
 /\ (∀{n:List D}{e:aa}{Q:D->aa->Prop},WP (cu [.scr n] e) Q=Q (.int n.length) e)
 /\ (∀{n:List D}{e:aa}{Q:D->aa->Prop},WP (bJ [.tup n] e) Q=Q (.tup n) e)
 /\ (∀{n:List D}{e:aa}{Q:D->aa->Prop},WP (bJ [.lst n] e) Q=Q (.tup n) e)
 /\ (∀{n:List D}{e:aa}{Q:D->aa->Prop},WP (eJ [.tup n] e) Q=Q (.lst n) e)
 /\ (∀{n:List D}{e:aa}{Q:D->aa->Prop},WP (eJ [.lst n] e) Q=Q (.lst n) e)
 /\ (∀{d:D}{m:DS}{e:aa}{Q:D->aa->Prop},WP (aA 0 (some d::m) e) Q=Q d e)
 /\ (∀{i:Nat}{m:DS}{e:aa}{Q:D->aa->Prop}{o:Option D},WP (aA (i+1) (o::m) e) Q=WP (aA i m e) Q)
 /\ (∀{f:SE}{m:DS}{e:aa}{Q:List D->aa->Prop},WP (aH f m e) Q=WP (f m e) (λx l=>∃n,eG x=some n/\Q n l))
 /\ (∀{f:SE}{m:DS}{e:aa}{Q:Bool->aa->Prop},WP (cM f m e) Q=WP (f m e) (λx l=>∃b,jp l x=some b/\Q b l))
 /\ (∀{g:SA}{m:DS}{e:aa}{Q:List D->aa->Prop},WP (h7 g m e) Q=WP (g m e) (λn l=>∃j,n=[.int j]/\ca j/\Q (rng 0 j.toNat) l))
 /\ (∀{g:SA}{m:DS}{e:aa}{Q:List D->aa->Prop},WP (T8 g m e) Q=WP (g m e) (λn l=>∃i j,n=[.int i,.int j]/\ca i/\ca j/\Q (rng i (j-i).toNat) l)):=by
 have E:∀{G:Type}{c:Prop} [Decidable c] {a:G}{e:aa}{Q:G->aa->Prop},WP (if c then .ok a e else .stuck) Q=(c/\Q a e):=λ{G c _ a e Q}=>ET
 refine⟨rfl,n7,rfl,rfl,rfl,rfl,rfl,rfl,rfl,rfl,?_⟩;refine⟨?_,?_⟩
 ·intros;rw[kM,zh];congr;funext x l;rw[zh]
 refine⟨zh,zh,rfl,?_⟩;refine⟨?_,?_⟩
 ·intros;rw[lT,zh];congr;funext x l;rw[zh];rfl
 refine⟨?_,?_⟩
 ·intros;rw[Qi,zh];congr;funext x l;cases x<;>rfl
 refine⟨?_,?_⟩
 ·intros;rw[Gz,zh];congr;funext x l;rw[n6];rfl
 refine⟨?_,?_⟩
 ·intros;rw[FK,zh];congr;funext x l;rw[n6];rfl
 refine⟨zh,rfl,?_⟩;refine⟨?_,?_⟩
 ·intros;rw[qR,zh];congr;funext x l;cases x<;>try rfl
  rename_i b;cases b<;>rfl
 refine⟨?_,?_⟩
 ·intros;rw[F3,zh];congr;funext x l;cases x<;>try rfl
  rename_i b;cases b<;>rfl
 refine⟨?_,?_⟩
 ·intros;rw[wm,zh];congr;funext x l;cases x<;>rfl
 refine⟨?_,?_⟩
 ·intros;rw[F2,zh];congr;funext x l;rw[n6]
 refine⟨?_,?_⟩
 ·intros;rw[Hb,zh];congr;funext x l;rw[E]
 refine⟨?_,?_⟩
 ·intros;rw[Ha,zh];congr;funext x l;rw[E]
 refine⟨?_,?_⟩
 ·intros;rw[Jl,zh];congr;funext x l;rw[E]
 refine⟨rfl,rfl,rfl,rfl,rfl,zh,zh,zh,?_⟩;refine⟨?_,?_⟩
 ·intro u f m e Q;unfold i5;rw[zh];congr;funext x l;unfold gK;cases u x m<;>rfl
 refine⟨?_,?_⟩
 ·intros;rw[jw,zh];congr;funext x l;rw[n6]
 refine⟨zh,?_⟩;refine⟨?_,?_⟩
 ·intros;rw[mU,zh];congr;funext x l;rw[ET,zh];rfl
 refine⟨?_,?_⟩
 ·intros;unfold mJ;rw[zh];congr;funext x l;rw[ET,zh];rfl
 refine⟨?_,?_⟩
 ·intros;rw[zW,E]
 refine⟨rfl,?_⟩;refine⟨?_,?_⟩
 ·intros;rw[wE,E]
 refine⟨rfl,?_⟩;refine⟨?_,?_⟩
 ·intros;rw[show ∀i j e,fC false (.int i) (.int j) e=_ from λi j e=>F9];rfl
 refine⟨?_,?_⟩
 ·intros;rw[show ∀i j e,fC true (.int i) (.int j) e=_ from λi j e=>Gc];rfl
 refine⟨rfl,rfl,rfl,rfl,rfl,rfl,rfl,rfl,rfl,rfl,rfl,λ{d m e Q}=>rfl,λ{i m e Q o}=>rfl,?_⟩;refine⟨?_,?_⟩
 ·intros;rw[wp,zh];congr;funext x l
  cases h:eG x with
  |none=>simp[WP]
  |some n=>simp[WP]
 refine⟨?_,?_⟩
 ·intros;rw[uD,zh];congr;funext x l
  cases h:jp l x with
  |none=>simp[WP]
  |some n=>simp[WP]
 refine⟨?_,?_⟩
 ·intros;rw[F6,zh];congr;funext x l
  split
  ·rw[E];simp[ca]
  ·rename_i A;have:∀j,x≠[D.int j]:=λj h=>A j h
   simp[WP,this]
 ·intros;rw[F7,zh];congr;funext x l
  split
  ·rw[E];simp only[ca,List.cons.injEq,D.int.injEq,and_true];apply propext;constructor
   ·rintro⟨h,q⟩;exact⟨_,_,⟨rfl,rfl⟩,h.1,h.2,q⟩
   ·rintro⟨S,P,⟨rfl,rfl⟩,J,I,q⟩;exact⟨⟨J,I⟩,q⟩
  ·rename_i A;have:∀i j,x≠[D.int i,D.int j]:=λi j h=>A i j h
   simp[WP,this]
def f9(I:DS->aa->Prop) (Q:Fl->aa->Prop):Fl->aa->Prop:=λb a=>match b with
 |.nx σ=>I σ a
 |.ct σ=>I σ a
 |.brk σ=>Q (.nx σ) a
 |.ret v=>Q (.ret v) a
theorem Tl{j:SG}{d:SS}{Q:Fl->aa->Prop}(I:Nat->DS->aa->Prop):∀(e:List D) (k:Nat) (c:DS) (b:aa),I k c b ->
  (∀i x c b,e[i]?=some x->I (k+i) c b->∃f,j x c=some f/\WP (d f b) (f9 (I (k+i+1)) Q))->(∀c b,I (k+e.length) c b->Q (.nx c) b)->WP (dS j d e c b) Q
 |[],k,c,b,h,_,q=>q c b h
 |x::e,k,c,b,h,s,q=>by
  obtain⟨f,o,w⟩:=s 0 x c b rfl h;obtain⟨p,g,t,w⟩:=w.get;unfold dS;rw[o];dsimp only;rw[t]
  have l:∀a,I (k+0+1) a g->WP (dS j d e a g) Q:=λa m=>Tl I e (k+1) a g m (λi y c b r n=>by
   have:=s (i+1) y c b (by simpa using r) (by rw[show k+(i+1)=k+1+i by lia];exact n);rw[show k+(i+1)+1=k+1+i+1 by lia] at this
   exact this) (λc b h=>q c b (by rw[dh,show k+(e.length+1)=k+1+e.length by lia];exact h))
  cases p with
  |nx a=>exact l a w
  |ct a=>exact l a w
  |brk a=>exact w
  |ret v=>exact w
theorem gX(I:Nat->DS->aa->Prop) (e:I 0 b a)
  (s:∀i x b a,xs[i]?=some x->I i b a->∃c,bd x b=some c/\WP (body c a) (f9 (I (i+1)) Q))(q:∀b a,I xs.length b a->Q (.nx b) a):WP (dS bd body xs b a) Q:=
 Tl I xs 0 b a e (λi x b a f d=>by rw[iT] at d ⊢;exact s i x b a f d) λb a h=>q b a (by rw[iT] at h;exact h)
theorem L:(∀{I:DS->aa->Prop}{Q:Fl->aa->Prop}{b:DS}{a:aa},f9 I Q (.nx b) a=I b a)
 /\ (∀{I:DS->aa->Prop}{Q:Fl->aa->Prop}{b:DS}{a:aa},f9 I Q (.ct b) a=I b a)
 /\ (∀{I:DS->aa->Prop}{Q:Fl->aa->Prop}{b:DS}{a:aa},f9 I Q (.brk b) a=Q (.nx b) a)
 /\ (∀{I:DS->aa->Prop}{Q:Fl->aa->Prop}{v:D}{a:aa},f9 I Q (.ret v) a=Q (.ret v) a):=⟨rfl,rfl,rfl,rfl⟩
theorem Fv{n:SG}{c:ST}{f:SE}(I:Nat->List D->DS->aa->Prop):∀(g:List D) (k:Nat) (acc:List D) (d:DS) (au:aa) (Q:List D->aa->Prop),I k acc d au ->
  (∀i x acc d au,g[i]?=some x->I (k+i) acc d au->∃a,n x d=some a/\WP (c a au) (λb e=>if b=true then WP (f a e) (λy j=>I (k+i+1) (acc++[y]) a j) else I (k+i+1) acc a e)) ->
  (∀l d au,I (k+g.length) (acc++l) d au->Q l au)->WP (bo n c f g d au) Q
 |[],k,acc,d,au,Q,h,_,q=>q [] d au (by rw[jy];exact h)
 |x::g,k,acc,d,au,Q,h,s,q=>by
  obtain⟨a,t,w⟩:=s 0 x acc d au rfl h;obtain⟨b,e,v,w⟩:=w.get;have p:∀i y acc d au,g[i]?=some y->I (k+1+i) acc d au->∃a,n y d=some a/\WP (c a au) (λb e=>if b=true then WP (f a e) (λy j=>I (k+1+i+1) (acc++[y]) a j) else I (k+1+i+1) acc a e):=λi y acc d au u r=>by
   have:=s (i+1) y acc d au (by simpa using u) (by rw[show k+(i+1)=k+1+i by lia];exact r);rw[show k+(i+1)+1=k+1+i+1 by lia] at this;exact this
  have o:∀(m:List D) d au,I (k+1+g.length) m d au->I (k+(x::g).length) m d au:=λm d au h=>by rw[dh,show k+(g.length+1)=k+1+g.length by lia];exact h
  unfold bo;rw[t];dsimp only;rw[v];dsimp only[zo];cases b with
  |false=>
   rw[if_neg (by decide)] at w ⊢;exact Fv I g (k+1) acc a e Q w p λl d au h=>q l d au (o _ _ _ h)
  |true=>
   rw[if_pos rfl] at w ⊢;obtain⟨y,j,z,w⟩:=w.get;rw[z];dsimp only[zo];rw[zh];exact Fv I g (k+1) (acc++[y]) a j _ w p λl d au h=>q (y::l) d au (o _ _ _ (by rw[eE] at h;exact h))
theorem KO(I:Nat->List D->DS->aa->Prop) (m:I 0 [] e a)
  (s:∀i x acc e a,xs[i]?=some x->I i acc e a->∃d,bd x e=some d/\WP (c d a) (λb g=>if b=true then WP (f d g) (λy k=>I (i+1) (acc++[y]) d k) else I (i+1) acc d g))
  (q:∀j e a,I xs.length j e a->Q j a):WP (bo bd c f xs e a) Q:=
 Fv I xs 0 [] e a Q m (λi x acc e a n l=>by rw[iT] at l ⊢;exact s i x acc e a n l) λj e a h=>q j e a (by rw[iT] at h;simpa using h)
theorem sQ{o:SG}{c:ST}{f:SE}{j:Type}(S:DS->Prop)(P:j->Bool)(G:j->D)(E:j->D){as:List j}{d:DS}{g:aa}{Q:List D->aa->Prop}(A:S d)
  (s:∀x∈as,∀d,S d->∃a,o (E x) d=some a/\S a/\WP (c a g) (λb e=>e=g/\b=P x)/\(P x=true->WP (f a g) (λy e=>e=g/\y=G x)))
  (q:Q ((as.filter P).map G) g):WP (bo o c f (as.map E) d g) Q:=by
 refine KO (λi acc d m=>S d/\m=g/\acc=((as.take i).filter P).map G) ⟨A,rfl,rfl⟩ (λi x acc d m n l=>?_) λH d m l=>?_
 ·obtain⟨t,rfl,rfl⟩:=l;rw[fK] at n;obtain⟨z,k,rfl⟩:=jE.mp n;obtain⟨a,C,h,r,v⟩:=s z (dY k) d t;refine⟨a,C,r.mono λb e u=>?_⟩;obtain⟨rfl,rfl⟩:=u;cases hP:P z with
  |false=>
   rw[if_neg (by decide)];refine⟨h,rfl,?_⟩;rw[ze k,kT,g9 (by rw[hP];decide)];simp
  |true=>
   rw[if_pos rfl];refine(v hP).mono λy p w=>?_
   obtain⟨rfl,rfl⟩:=w;refine⟨h,rfl,?_⟩;rw[ze k,kT,gS hP,iU];simp
 ·obtain⟨_,rfl,rfl⟩:=l;rw[bh,cX];exact q
theorem V:(∀{c:Type}{a b:c}{l:List c},(a::l).set 0 b=b::l)
 /\ (∀{c:Type}{a b:c}{l:List c}{i:Nat},(a::l).set (i+1) b=a::l.set i b)
 /\ (∀{e:DS}{k:Nat}{is:List Nat},aT k is e=List.replicate k none++is.map λi=>(e[i]?).getD none)
 /\ (∀{c:Type}{a:c}{k:Nat},List.replicate (k+1) a=a::List.replicate k a)
 /\ (∀{c:Type}{a:c},List.replicate 0 a=[])
 /\ (∀{c g:Type}{f:c->g}{a:c}{l:List c},(a::l).map f=f a::l.map f)
 /\ (∀{c g:Type}{f:c->g},([]:List c).map f=[])
 /\ (∀{c:Type}{a:c}{l m:List c},(a::l)++m=a::(l++m))
 /\ (∀{c:Type}{l:List c},[]++l=l)
 /\ (∀{c:Type}{a:c}{l:List c},(a::l)[0]?=some a)
 /\ (∀{c:Type}{a:c}{l:List c}{i:Nat},(a::l)[i+1]?=l[i]?)
 /\ (∀{c:Type}{a:c}{d:c},(some a).getD d=a)
 /\ (∀{i:Nat}{d:D}{e:DS},gN i d e=some (e.set i (some d)))
 /\ (∀{p:Prop} [Decidable p],(decide p=true)=p)
 /\ (∀{p:Prop} [Decidable p],((!decide p)=true)=¬ p)
 /\ (∀{b:Bool},((!b)=true)=(b=false))
 /\ (∀{a b:Prop},(if True then a else b)=a)
 /\ (∀{a b:Prop},(if False then a else b)=b)
 /\ (∀{a b:Prop},(if true=true then a else b)=a)
 /\ (∀{a b:Prop},(if false=true then a else b)=b)
 /\ (∀{c:Type}{a b:c},(if True then a else b)=a)
 /\ (∀{c:Type}{a b:c},(if False then a else b)=b)
 /\ ((true=false)=False)/\((false=true)=False)/\((true=true)=True)/\((false=false)=True)/\((¬ True)=False)/\((¬ False)=True):=by
 refine⟨rfl,rfl,rfl,rfl,rfl,rfl,rfl,rfl,rfl,rfl,?_,rfl,rfl,?_,?_,?_,rfl,rfl,rfl,rfl,rfl,rfl,by simp,by simp,by simp,by simp,by simp,by simp⟩
 ·intros;rfl
 ·intro p _;simp
 ·intro p _;simp
 ·intro b;simp
theorem M:(∀{f:SE}{m:DS}{d:aa}{Q:Option Int->aa->Prop},WP (dr f m d) Q=WP (f m d) (λv c=>∃i,v=.int i/\Q (some i) c))
 /\ (∀{m:DS}{d:aa}{Q:Option Int->aa->Prop},WP (dv m d) Q=Q none d)
 /\ (∀{f:SE}{lo H:DS->aa->bv (Option Int)}{m:DS}{d:aa}{Q:D->aa->Prop},WP (kt f lo H m d) Q=WP (f m d) (λx c=>WP (lo m c) (λl p=>WP (H m p) (λh r=>(∃o,x=.tup o/\Q (.tup (cutD o l h)) r)\/(∃o,eS r x=some o/\Q (.lst (cutD o l h)) r)))))
 /\ (∀{f:SE}{m:DS}{d:aa}{Q:D->aa->Prop},WP (mI f m d) Q=WP (f m d) (λx c=>∃n o,x=.ref n/\c[n]?=some (.lst o)/\Q (.lst o) (c.set n .dead)))
 /\ (∀{f g h:SE}{m:DS}{d:aa}{Q:Fl->aa->Prop},WP (ff f g h m d) Q=WP (h m d) (λv c=>WP (f m c) (λx p=>WP (g m p) (λy r=>∃n k o j,x=.ref n/\y=.int k/\r[n]?=some (.lst o)/\ko o.length k=some j/\Q (.nx m) (r.set n (.lst (o.set j v)))))))
 /\ (∀{f:SE}{g:SA}{m:DS}{d:aa}{Q:D->aa->Prop},WP (cq f g m d) Q=WP (f m d) (λx c=>∃n s,x=.ref n/\c[n]?=some (.lst s)/\WP (g m c) (λu p=>∃y o,u=[y]/\p[n]?=some (.lst o)/\o.length<sizeLine/\Q .non (p.set n (.lst (o++[y]))))))
 /\ (∀{x:D}{d:aa}{Q:D->aa->Prop},WP (gp [x] d) Q=∃t,(cP d x).bind bN=some t/\Q (.int t.sum) d)
 /\ (∀{x:D}{E:Bool}{d:aa}{Q:D->aa->Prop},WP (iI E [x] d) Q=∃A,(eS d x).bind cN=some A/\Q (.bl (if E then A.all id else A.any id)) d)
 /\ (∀{x:D}{G:Bool}{d:aa}{Q:D->aa->Prop},WP (qc G [x] d) Q=∃n t,(cP d x).bind bN=some (n::t)/\Q (.int (cH G n t)) d)
 /\ (∀{g:SA}{m:DS}{d:aa}{Q:List D->aa->Prop},WP (qa g m d) Q=WP (g m d) (λo c=>∃a b,o=[.tup a,.tup b]/\Q (jK a b) c))
 /\ (∀{i:Nat}{g:D->D->aa->bv D}{f:SE}{m:DS}{d:aa}{Q:Fl->aa->Prop},WP (jI i g f m d) Q=∃x,m[i]?=some (some x)/\WP (f m d) (λy c=>WP (g x y c) (λz p=>Q (.nx (m.set i (some z))) p))):=by
 refine⟨?_,rfl,?_,?_,?_,?_,?_,?_,?_,?_,?_⟩
 ·intros;rw[Ka,zh];congr;funext x c
  cases x<;>simp[WP]
 ·intros;rw[F4,zh];congr;funext x c;rw[zh];congr;funext l p;rw[zh];congr;funext h r
  apply propext;split
  ·constructor
   ·intro q;exact .inl ⟨_,rfl,q⟩
   ·rintro(⟨o,e,q⟩|⟨o,e,q⟩)
    ·cases e;exact q
    ·cases e
  ·rename_i w;constructor
   ·intro q;split at q
    ·rename_i o e;exact .inr ⟨o,e,q⟩
    ·exact q.elim
   ·rintro(⟨o,e,q⟩|⟨o,e,q⟩)
    ·exact absurd e (w o)
    ·rw[e];exact q
 ·intros;rw[F1,zh];congr;funext x c
  apply propext;constructor
  ·intro q;split at q
   ·split at q
    ·rename_i o e;exact⟨_,o,rfl,e,q⟩
    ·exact q.elim
   ·exact q.elim
  ·rintro⟨n,o,rfl,e,q⟩;dsimp only;rw[e];exact q
 ·intros;rw[MV,zh];congr;funext v c;rw[zh];congr;funext x p;rw[zh];congr;funext y r
  apply propext;constructor
  ·intro q;split at q
   ·split at q
    ·split at q
     ·exact⟨_,_,_,_,rfl,rfl,by assumption,by assumption,q⟩
     ·exact q.elim
    ·exact q.elim
   ·exact q.elim
  ·rintro⟨n,k,o,j,rfl,rfl,I,C,q⟩;dsimp only;rw[I];dsimp only;rw[C];exact q
 ·intros;rw[RP,zh];congr;funext x c
  apply propext;constructor
  ·intro q;split at q
   ·rename_i n s e;rw[zh] at q;have P:c[n]?=some (.lst s):=by
     unfold eS at e;dsimp only at e;split at e
     ·cases e;assumption
     ·cases e
    refine⟨n,s,rfl,P,q.mono λu p h=>?_⟩;split at h
    ·split at h
     ·exact⟨_,_,rfl,by assumption,by assumption,h⟩
     ·exact h.elim
    ·exact h.elim
   ·exact q.elim
  ·rintro⟨n,s,rfl,e,q⟩;rw[nz e];dsimp only;rw[zh];refine q.mono λu p h=>?_
   obtain⟨y,o,rfl,C,J,h⟩:=h;rw[C];dsimp only;rw[if_pos J];exact h
 ·intro x d Q;unfold gp;dsimp only;cases h:(cP d x).bind bN with
  |none=>simp[WP]
  |some t=>simp[WP]
 ·intro x E d Q;unfold iI;dsimp only;cases h:(eS d x).bind cN with
  |none=>simp[WP]
  |some t=>simp[WP]
 ·intro x G d Q;unfold qc;dsimp only;cases h:(cP d x).bind bN with
  |none=>simp[WP]
  |some t=>
   cases t with
   |nil=>simp[WP]
   |cons n t=>
    apply propext;constructor
    ·intro q;exact⟨_,_,rfl,q⟩
    ·rintro⟨a,b,e,q⟩;cases e;exact q
 ·intro g m d Q;unfold qa;rw[zh];congr;funext x c
  apply propext;constructor
  ·intro q;split at q
   ·exact⟨_,_,rfl,q⟩
   ·exact q.elim
  ·rintro⟨a,b,rfl,q⟩;exact q
 ·intro i g f m d Q;rw[Im];apply propext;constructor
  ·intro q;split at q
   ·rename_i x e;rw[zh] at q;exact⟨x,e,q.mono λy c h=>by rw[zh] at h;exact h⟩
   ·exact q.elim
  ·rintro⟨x,e,q⟩;rw[e];dsimp only;rw[zh];exact q.mono λy c h=>by rw[zh];exact h
theorem N:(∀{g:List D}{P:List D->Prop},(∃f,D.tup g=D.tup f/\P f)=P g)
 /\ (∀{i:Int}{P:Int->Prop},(∃j,D.int i=D.int j/\P j)=P i)
 /\ (∀{g:List D}{h:aa}{P:List D->Prop},(∃f,eS h (.tup g)=some f/\P f)=False)
 /\ (∀{g:List D}{h:aa}{P:List D->Prop},(∃f,eS h (.lst g)=some f/\P f)=P g)
 /\ (∀{g:List D}{P:List D->Prop},(∃f,eG (.tup g)=some f/\P f)=P g)
 /\ (∀{g:List D}{P:List D->Prop},(∃f,eG (.lst g)=some f/\P f)=P g)
 /\ (∀{b:Bool}{h:aa}{P:Bool->Prop},(∃c,jp h (.bl b)=some c/\P c)=P b)
 /\ (∀{i:Int}{P:Int->Prop},(∃j,[D.int i]=[D.int j]/\P j)=P i)
 /\ (∀{i j:Int}{P:Int->Int->Prop},(∃k l,[D.int i,D.int j]=[D.int k,D.int l]/\P k l)=P i j)
 /\ (∀{x:D}{P:D->Prop},(∃y,[x]=[y]/\P y)=P x)
 /\ (∀{a b:List D}{P:List D->List D->Prop},(∃c d,[D.tup a,D.tup b]=[.tup c,.tup d]/\P c d)=P a b)
 /\ (∀{p:Prop},(p\/False)=p)/\(∀{p:Prop},(True/\p)=p):=by
 refine⟨?_,?_,?_,?_,?_,?_,?_,?_,?_,?_,?_,by simp,by simp⟩
 ·intros;apply propext;exact⟨λ⟨_,e,p⟩=>by cases e;exact p,λp=>⟨_,rfl,p⟩⟩
 ·intros;apply propext;exact⟨λ⟨_,e,p⟩=>by cases e;exact p,λp=>⟨_,rfl,p⟩⟩
 ·intros;apply propext;exact⟨λ⟨_,e,p⟩=>(by cases e),λp=>p.elim⟩
 ·intros;apply propext;exact⟨λ⟨_,e,p⟩=>by cases e;exact p,λp=>⟨_,rfl,p⟩⟩
 ·intros;apply propext;exact⟨λ⟨_,e,p⟩=>by cases e;exact p,λp=>⟨_,rfl,p⟩⟩
 ·intros;apply propext;exact⟨λ⟨_,e,p⟩=>by cases e;exact p,λp=>⟨_,rfl,p⟩⟩
 ·intros;apply propext;exact⟨λ⟨_,e,p⟩=>by cases e;exact p,λp=>⟨_,rfl,p⟩⟩
 ·intros;apply propext;exact⟨λ⟨_,e,p⟩=>by cases e;exact p,λp=>⟨_,rfl,p⟩⟩
 ·intros;apply propext;exact⟨λ⟨_,_,e,p⟩=>by cases e;exact p,λp=>⟨_,_,rfl,p⟩⟩
 ·intros;apply propext;exact⟨λ⟨_,e,p⟩=>by cases e;exact p,λp=>⟨_,rfl,p⟩⟩
 ·intros;apply propext;exact⟨λ⟨_,_,e,p⟩=>by cases e;exact p,λp=>⟨_,_,rfl,p⟩⟩
theorem sY(b:cT au n)(h:1<=m)(c:m<=1000000)(k:∀r a,0<=r->r<m->bV au a n->Q (.int r) a):WP (zl [.ref n,.int m] au) Q:=by
 obtain⟨r,a,e,d,f,g,_⟩:=uR b h (O9 c (by decide +kernel));exact WP.of e (k r a d f g)
theorem lW(h:cP au x=some xs)(a:L2.atI xs i=some d)(q:Q d au):WP (cF x (.int i) au) Q:=WP.of (nt h a) q
theorem xW{a:List D}{i:Int}(c:0<=i)(e:i<a.length)(q:∀d∈a,Q d au):WP (cF (.lst a) (.int i) au) Q:=by
 obtain⟨j,rfl⟩:=kX c;have b:j<a.length:=by lia
 exact lW (xs:=a) (d:=a[j]) rfl (QF (bS b)) (q _ (fZ b))
theorem GB{a:List Int}{i:Nat}(f:a.length<=63)(b:i<=100000)(k:∀g,cT (au++g) au.length->Q (.ref au.length) (au++g)):WP (vg [.scr (a.map .int),.int i] au) Q:=by
 obtain⟨c,x,h,d,e⟩:=GA (au:=au) f b;exact WP.of e (k _ ⟨c,x,by simp,h,d⟩)
abbrev fY(l:List (List Int)):Prop:=l.Pairwise λa b=>HT.lexLt a b=true
theorem fY.nodup(h:fY l):l.Nodup:=O1 (λ{a b} q e=>by subst e;rw[Srt.Cj] at q;cases q) h
theorem fY.up(h:fY l):o3 l:=O1 (λ{a b} q=>Srt.RX q) h
theorem fY.sort(h:fY l):av l=l:=(B2 (.refl l) h.up).symm
theorem fY.odd(h:fY l):aO l=l:=by
 rw[←Ef (m:=l) h.nodup λx=>?_,h.sort];by_cases c:x∈l
 ·have b:l.count x<=1:=uj.mp h.nodup x;have d:0<l.count x:=rE.mpr c;have a:l.count x=1:=by lia
  simp[c,a]
 ·simp[c,List.count_eq_zero_of_not_mem c]
theorem Kx(h:o3 l)(c:l.Nodup):fY l:=O1 (λ{a b} q=>by
 obtain⟨d,e⟩:=q;rcases Srt.uN a b with z|z|z
 ·exact z
 ·exact absurd z e
 ·rw[d] at z;cases z) (h.and c)
theorem R3(l:List (List Int)):fY (aO l):=Kx (vc _) (nH l)
theorem L8{r:List Int}{P:Int->Prop}(h:∀x∈r,P x){y:Int}(a:P y):∀x∈r++[y],P x:=λx hx=>by
 rcases dB.mp hx with hx|hx
 ·exact h x hx
 ·simp at hx;subst hx;exact a
theorem ND{a:Type}(l:List a):(l.filter λ_=>true)=l:=Pg.mpr (by simp)
theorem S1{b:Type}(P:b->Bool):∀a:List b,cN (a.map λx=>.bl (P x))=some (a.map P)
 |[]=>rfl
 |x::a=>by rw[ce,cN,S1 P a];rfl
theorem Ee{l:List (List Int)}(a:eG x=some (aJ l))(c:l.length<=1000000)(k:∀g,Q (aK (aO l)) (au++g)):WP (zw [x] au) Q:=by
 have b:=tQ l;obtain⟨g,e⟩:=Fk (au:=au) a (by lia) (by lia);exact WP.of e (k g)
theorem hV(h:WP (s σ au) R)(k:∀a b,R a b->jH t Q a b):WP (aD s t σ au) Q:=by
 rw[n7];exact h.mono k
noncomputable def gr(l:List (List Int)):Prop:=∀a:List (List Int),a.Nodup->(∀x∈a,x∈l)->a.length<=1000000
theorem gr.of{l U:List (List Int)}(h:∀x∈l,x∈U)(b:U.length<=1000000):gr l:=λe a d=>ax (pY a λx c=>h x (d x c)) b
theorem HE(h:x∈aN l):x∈l:=by
 rw[tr] at h;rcases yL (l.count x) with z|z
 ·rw[z] at h;cases h
 ·exact rE.mp z
theorem gr.odd(h:gr l):(aN l).length<=1000000:=h _ (vo l) λx a=>HE a
theorem gr.sub(h:gr l)(s:∀x∈m,x∈l):gr m:=λd c a=>h d c λx b=>s x (a x b)
theorem D5(h:au[n]?=some (.dT (aQ ks)))(a:ks.length<=1000000)(q:Q .non (au.set n (.dT (aQ (aP ks k))))):WP (jY [.ref n,aL k] au) Q:=WP.of (uM h a) q
theorem E5(h:au[n]?=some (.dT (aQ ks)))(a:ks.length<=1000000)(q:Q (.lst (aJ (av ks))) au):WP (bi [.ref n] au) Q:=WP.of (Fq h a) q
theorem Vt(c:eG x=some (aJ l))(h:l.length<=1000000)(k:∀g,Q (aK (aO l)) (au++g)):WP (tK [x] au) Q:=by
 refine gM rfl ?_;simp only[W,V];refine⟨_,c,?_⟩;refine gX (λi a s=>(∃v,a=[some x,some (.ref au.length),v])/\s=au++[.dT (aQ (aN (l.take i)))]) ⟨⟨_,rfl⟩,rfl⟩ ?_ ?_
 ·rintro i y a s d ⟨⟨v,rfl⟩,rfl⟩;obtain⟨r,b,rfl⟩:=jk d;refine⟨_,rfl,?_⟩;unfold Fz;simp only[W,V,L];have e:=tQ (l.take i);have f:(l.take i).length<=l.length:=by rw[gw];exact rD _ _
  refine D5 (ks:=aN (l.take i)) (by simp) (by lia) ⟨⟨_,rfl⟩,?_⟩;rw[ze b];unfold aN;rw[lH];simp
 ·rintro a s ⟨⟨v,rfl⟩,rfl⟩;rw[zc,cX];simp only[W,V];have e:=tQ l;refine E5 (ks:=aN l) (by simp) (by lia) ?_;simp only[W,V];exact k _
theorem KQ{b a:List (List Int)}(c:b.length+a.length<=1000000)(k:∀g,Q (aK (aO (b++a))) (au++g)):WP (ny [aK b,aK a] au) Q:=by
 refine gM rfl ?_;simp only[W,V];refine⟨by rw[zc,zc];exact small _ (by lia),?_⟩;refine Vt (l:=b++a) (by simp[eG,aJ]) (by simp;lia) k
theorem La(a:List Int)(b:Int):cutD ((a++[b]).map D.int) none (some (-1))=a.map D.int:=by
 unfold cutD;have c:((a++[b]).map D.int).length=a.length+1:=by simp
 have e:HT.bW (a.length+1) 0 none=0:=rfl;have d:HT.bW (a.length+1) (a.length+1) (some (-1))=a.length:=by
  show(if(-1:Int)<0 then((-1:Int)+((a.length+1:Nat):Int)).toNat else min (-1:Int).toNat (a.length+1))=_;rw[if_pos (by decide)];lia
 rw[c,e,d];simp
end Dd
namespace K03
end K03
namespace K13
open PyProof.Rows
theorem LR(a b:Nat):(a&&&b)/2=a/2&&&b/2:=OJ
theorem LS(a b:Nat):(a&&&b)%2=(a%2)*(b%2):=by
 have q:=@Nat.and_mod_two_eq_one a b;rcases mh a with h|h<;>rcases mh b with h'|h'<;>rw[h,h'] at q ⊢<;>lia
noncomputable abbrev In(e y:Nat):Prop:=e&&&y=y
theorem BC:In a b↔(In (a/2) (b/2)/\¬ (b%2=1/\a%2=0)):=K07.NM a b
theorem In.le(h:In e y):y<=e:=by rw[←h];exact Nat.and_le_left
theorem xy(e:Nat):In e 0:=Nat.and_zero e
theorem Jr(e:Nat):In e e:=Nat.and_self e
theorem Jp(e x:Nat):In e (e&&&x):=by unfold In;rw[←Nat.and_assoc,Nat.and_self]
theorem qS:∀(e y:Nat),In e y->In e (e-y):=λe=>by
 induction e using Nat.strongRecOn with
 |ind e ih=>
  intro y h;by_cases z:e=0
  ·subst z;rw[Nat.zero_sub];exact xy 0
  obtain⟨c,d⟩:=BC.mp h;have i:=ih (e/2) (by lia) (y/2) c;have f:=c.le;refine BC.mpr ⟨?_,?_⟩
  ·rw[show(e-y)/2=e/2-y/2 by lia];exact i
  ·rintro⟨a,b⟩;lia
theorem Jq:∀(e d q:Nat),In e d->In e q->q<d->q<=e&&&(d-1):=λe=>by
 induction e using Nat.strongRecOn with
 |ind e ih=>
  intro d q f g lt;by_cases z:e=0
  ·subst z;have:=f.le;lia
  obtain⟨b,k⟩:=BC.mp f;obtain⟨h,l⟩:=BC.mp g;have a:=LR e (d-1);have j:=LS e (d-1);rcases mh d with c|c
  ·rw[show(d-1)/2=d/2-1 by lia] at a;rw[show(d-1)%2=1 by lia,Nat.mul_one] at j;have i:=ih (e/2) (by lia) (d/2) (q/2) b h (by lia);have:q%2<=e%2:=by lia
   lia
  ·rw[show(d-1)/2=d/2 by lia,b] at a;lia
noncomputable def kl(e j:Nat):Nat:=e-(e&&&(e-j-1))
theorem wC(h:j<e):j<kl e j:=by
 have:=uh (@Nat.and_le_right e (e-(j+1))) e;rw[Nat.sub_sub_self h] at this;exact this
theorem HA(e j:Nat):kl e j<=e:=lD _ _
theorem Hz(e j:Nat):In e (kl e j):=qS e _ (Jp e _)
theorem N0(b:In e j)(a:In e m)(lt:j<m):kl e j<=m:=by
 have c:=a.le;have:=Jq e (e-j) (e-m) (qS e j b) (qS e m a) (Nat.sub_lt_sub_left (da lt c) lt);exact Nat.sub_le_of_le_add (CM _ m ▸ Nat.sub_le_iff_le_add.mp this)
theorem JV{e j:Nat}(h:j<e):Builtin.bitAnd ((j:Int)-(e:Int)) (e:Int)=(kl e j:Nat):=by
 rw[bitAnd_np (by lia) (by lia)];have a:(Builtin.bitNot ((j:Int)-(e:Int))).toNat=e-j-1:=by
  unfold Builtin.bitNot;lia
 rw[a,j9];have:=@Nat.and_le_left e (e-j-1);unfold kl;lia
noncomputable def dm(e:Nat) (lo a:Int) (n:Nat):List Nat:=(List.range n).filter λx=>decide (e&&&x=x/\lo<=x/\(x:Int)<=a)
theorem E6(e:Nat)(lo a:Int)(n:Nat):dm e lo a (n+1)=dm e lo a n++(if e&&&n=n/\lo<=n/\(n:Int)<=a then[n] else[]):=by
 unfold dm;rw[pJ,kT]
 congr 1
 by_cases c:e&&&n=n/\lo<=n/\(n:Int)<=a
 ·rw[if_pos c];exact gS (p:=λx:Nat=>decide (e&&&x=x/\lo<=x/\(x:Int)<=a)) (cC c)
 ·rw[if_neg c];exact g9 (p:=λx:Nat=>decide (e&&&x=x/\lo<=x/\(x:Int)<=a)) (by rw[cI c];decide)
theorem Cd{e:Nat}{lo a:Int}{n:Nat}:∀(k:Nat),(∀x,n<=x->x<n+k->¬ (e&&&x=x/\lo<=x/\(x:Int)<=a))->dm e lo a (n+k)=dm e lo a n
 |0,_=>rfl
 |k+1,h=>by
  rw[←CT,E6,if_neg (h _ (by lia) (by lia)),jy];exact Cd k λx b c=>h x b (by lia)
theorem vd(e:Nat)(lo a:Int)(n:Nat):(dm e lo a n).length<=n:=by
 have:=pU (λx=>decide (e&&&x=x/\lo<=x/\(x:Int)<=a)) (List.range n);rw[pN] at this;exact this
def aj(e:Nat) (lo a:Int):List Nat:=dm e lo a (e+1)
theorem py{e j:Nat}{lo a:Int}:j∈aj e lo a↔(In e j/\lo<=j/\(j:Int)<=a):=by
 unfold aj dm;rw[dL,bB,lG];exact⟨λh=>h.2,λh=>⟨O7 h.1.le,h⟩⟩
theorem Ot{e j:Nat}{lo a:Int}(b:In e j)(lt:j<e)(f:(j:Int)<=a):dm e lo a (kl e j)=dm e lo a j++(if lo<=j then[j] else[]):=by
 have g:=wC lt;obtain⟨k,d⟩:∃k,kl e j=(j+1)+k:=⟨kl e j-(j+1),(gQ g).symm⟩
 rw[d,Cd k λx i h c=>?_,E6]
 ·congr 1
  by_cases c:lo<=j
  ·rw[if_pos ⟨b,c,f⟩,if_pos c]
  ·rw[if_neg λz=>c z.2.1,if_neg c]
 ·have:=N0 b c.1 (by lia);lia
theorem VD{e j:Nat}{lo a:Int}(b:In e j)(h:a<j):aj e lo a=dm e lo a j:=by
 have:=b.le;obtain⟨k,d⟩:∃k,e+1=j+k:=⟨e+1-j,(gQ (oz this)).symm⟩
 unfold aj;rw[d];exact Cd k λx g f c=>by lia
theorem Vi{e:Nat}{lo a:Int}(b:(e:Int)<=a):aj e lo a=dm e lo a e++(if lo<=e then[e] else[]):=by
 unfold aj;rw[E6]
 congr 1
 by_cases c:lo<=e
 ·rw[if_pos ⟨Jr e,c,b⟩,if_pos c]
 ·rw[if_neg λz=>c z.2.1,if_neg c]
end K13
namespace Dd
open L2 K13
theorem EU(I:Nat->DS->aa->Prop) (o:I k d e)(x:k<1000000)
  (s:∀j d e,I j d e->WP (c d e) (λb g=>if b=true then WP (body d g) (f9 (λa f=>∃i,i<j/\I i a f) Q) else Q (.nx d) g)):WP (dE c body d e) Q:=by
 have l:∀n j d e,I j d e->j<n->WP (db c body n d e) Q:=by
  intro n
  induction n with
  |zero=>intro j d e _ h;lia
  |succ n ih=>
   intro j d e m t;obtain⟨b,g,r,w⟩:=(s j d e m).get;unfold db;rw[r];dsimp only[zo];cases b with
   |false=>exact w
   |true=>
    rw[if_pos rfl] at w ⊢;obtain⟨q,f,u,w⟩:=w.get;rw[u];cases q with
    |nx a=>obtain⟨i,p,h⟩:=w;exact ih i a f h (by lia)
    |ct a=>obtain⟨i,p,h⟩:=w;exact ih i a f h (by lia)
    |brk a=>exact w
    |ret v=>exact w
 exact l mj k d e o x
noncomputable def dN(j:Nat):D:=.int (j:Int)
theorem On{e:Nat}{lo a:Int}(r:e<=100000)(k:∀g,Q (.lst ((aj e lo a).map dN)) (au++g)):WP (BN [.int e,.int lo,.int a] au) Q:=by
 refine gM rfl ?_;simp only[W,V];refine⟨small _ (by simp),?_⟩;have b:∀(f:List Nat) (v:Option D),f=aj e lo a->WP (aW (mI (aA 3)) [some (.int e),some (.int lo),some (.int a),some (.ref au.length),v] (au++[.lst (f.map dN)])) (mw Q):=λf v h=>by
  subst h;simp only[W,V,M];refine⟨_,_,rfl,by simp;rfl,?_⟩;have:=k [.dead]
  simpa using this
 refine EU (λm o s=>∃j:Nat,m=e-j/\o=[some (.int e),some (.int lo),some (.int a),some (.ref au.length),some (.int j)]/\In e j/\s=au++[.lst ((dm e lo a j).map dN)]) (k:=e) ⟨0,rfl,rfl,xy e,rfl⟩ (by lia) ?_;rintro m o s ⟨j,rfl,rfl,d,rfl⟩;simp only[W,V,Dd.N];have p:=d.le;split
 ·rename_i i;unfold SZ;refine hV (R:=λn s=>n=.nx [some (.int e),some (.int lo),some (.int a),some (.ref au.length),some (.int j)]/\s=au++[.lst ((dm e lo a j++(if lo<=j then[j] else[])).map dN)]) ?_ ?_
  ·simp only[W,V,M,Dd.N];split
   ·rename_i c;have l:=vd e lo a j;refine⟨_,_,rfl,by simp;rfl,_,_,rfl,by simp;rfl,by rw[bh];exact d5 _ (by lia),?_⟩;simp[dN,c]
   ·rename_i c;simp[c]
  ·rintro n s ⟨rfl,rfl⟩;simp only[W,V,L];split
   ·rename_i c;have q:j=e:=by lia
    subst q;have:=b (dm j lo a j++(if lo<=j then[j] else[])) (some (.int j)) (Vi i).symm;simp only[W,V] at this;exact this
   ·rename_i c;have lt:j<e:=by lia
    have g:=wC lt;have t:=HA e j;refine⟨trivial,trivial,e-kl e j,by lia,kl e j,rfl,?_,Hz e j,?_⟩
    ·rw[JV lt]
    ·rw[Ot d lt i]
 ·rename_i i;have:=b (dm e lo a j) (some (.int j)) (VD d (by lia)).symm;simp only[W,V] at this;exact this
noncomputable abbrev Pt:=List Int×Int
def i7(p:Pt):D:=.tup [aL p.1,.int p.2]
def hG(e:Nat) (a:Int) (p:Pt):List Pt:=(aj e (p.2-a) p.2).map λj:Nat=>(p.1++[(e:Int)+(j:Int)],p.2-(j:Int))
def ef(e:Nat) (a:Int) (b:List Pt):List Pt:=b.flatMap (hG e a)
theorem L0(e:Nat)(a:Int)(p:Pt):(hG e a p).length<=e+1:=by
 unfold hG;rw[bh];exact vd _ _ _ _
theorem EF(e:Nat)(a:Int):∀ps:List Pt,(ef e a ps).length<=ps.length*(e+1)
 |[]=>by simp[ef]
 |p::ps=>by
  have b:ef e a (p::ps)=hG e a p++ef e a ps:=by simp[ef]
  have:=EF e a ps;have:=L0 e a p;rw[b,cJ,dh,rk];lia
theorem NR(e:Nat)(a:Int)(b:List Pt)(p:Pt):ef e a (b++[p])=ef e a b++hG e a p:=by simp[ef]
theorem L9{e:Nat}{a:Int}:q∈ef e a d↔∃p∈d,∃j:Nat,j∈aj e (p.2-a) p.2/\q=(p.1++[(e:Int)+(j:Int)],p.2-(j:Int)):=by
 unfold ef hG;simp only[fr,bQ];constructor
 ·rintro⟨p,c,j,b,rfl⟩;exact⟨p,c,j,b,rfl⟩
 ·rintro⟨p,c,j,b,rfl⟩;exact⟨p,c,j,b,rfl⟩
theorem sX(o a:O)(g:aa):(au++o::g).set au.length a=au++a::g:=by simp
theorem nB(o:O)(g:aa):(au++o::g)[au.length]?=some o:=by simp
theorem sS{b:Type}{f:b->D}{l:List b}{i:Nat}{x:D}(h:(l.map f)[i]?=some x):∃a,l[i]?=some a/\x=f a:=by
 rw[fK] at h;obtain⟨a,c,d⟩:=jE.mp h;exact⟨a,c,d.symm⟩
section
variable {au:aa}{Q:D->aa->Prop}
theorem V4{e:Nat}{b:Int}{c:List Pt}(A:e<=1000)(C:c.length*(e+1)<=100000)(r:∀p∈c,p.1.length<=1000)(k:∀g,Q (.lst ((ef e b c).map i7)) (au++g)):WP (CA [.lst (c.map i7),.int e,.int b] au) Q:=by
 refine gM rfl ?_;simp only[W,V,Dd.N];refine⟨small _ (by simp),?_⟩;refine gX (λi d s=>(∃v w z,d=[some (.lst (c.map i7)),some (.int e),some (.int b),some (.ref au.length),v,w,z])/\∃g,s=au++(.lst ((ef e b (c.take i)).map i7)::g)) ⟨⟨_,_,_,rfl⟩,[],rfl⟩ ?_ ?_
 ·rintro i y d s f ⟨⟨v,w,z,rfl⟩,g,rfl⟩;obtain⟨p,h,rfl⟩:=sS f;have u:i<c.length:=(cU.mp h).1;refine⟨_,rfl,?_⟩;unfold TN;simp only[W,V,Dd.N];have n:(ef e b (c.take i)).length+(e+1)<=100000:=by
   have t:=EF e b (c.take i);have m:(c.take i).length=i:=by rw[gw];lia
   rw[m] at t;have l:(i+1)*(e+1)<=c.length*(e+1):=lI _ u;rw[rk] at l;lia
  refine On (by lia) λx=>?_
  simp only[W,V,Dd.N];rw[eE,ub];generalize g++x=g3;have o:(aj e (p.2-b) p.2).length<=e+1:=vd _ _ _ _;refine gX (λj d s=>(∃z,d=[some (.lst (c.map i7)),some (.int e),some (.int b),some (.ref au.length),some (aL p.1),some (.int p.2),z])/\s=au++(.lst ((ef e b (c.take i)++((aj e (p.2-b) p.2).take j).map λj:Nat=>(p.1++[(e:Int)+j],p.2-(j:Int))).map i7)::g3)) ⟨⟨_,rfl⟩,by simp⟩ ?_ ?_
  ·rintro j y d s f ⟨⟨z,rfl⟩,rfl⟩;obtain⟨a,q,rfl⟩:=sS f;refine⟨_,rfl,?_⟩;unfold TM dN;simp only[W,V,M,Dd.N,L];have m:((aj e (p.2-b) p.2).take j).length<=(aj e (p.2-b) p.2).length:=by rw[gw];exact rD _ _
   have l:=r p (dY h);refine⟨_,_,rfl,nB _ _,small _ (by simp),by rw[bh];exact small _ (by simp;lia),small _ (by simp),_,_,rfl,nB _ _,by rw[bh,cJ,bh];exact d5 _ (by lia),⟨_,rfl⟩,?_⟩;rw[sX,ze q];simp[i7,aL]
  ·rintro d s ⟨⟨z,rfl⟩,rfl⟩;simp only[L];refine⟨⟨_,_,_,rfl⟩,g3,?_⟩;rw[bh,cX,ze h,NR]
   rfl
 ·rintro d s ⟨⟨v,w,z,rfl⟩,g,rfl⟩;rw[bh,cX];simp only[W,V,M,Dd.N];refine⟨_,_,rfl,nB _ _,?_⟩;rw[sX];exact k _
end
def fy(s:Int×List Pt) (e:Int):Int×List Pt:=(s.1-e,ef e.toNat (s.1-e) s.2)
def er(r:List Int) (k:Int) (m:List Int):Int×List Pt:=m.foldl fy (r.sum,[([],k)])
def f7(r:List Int) (k:Int):List (List Int):=(er r k r).2.map (·.1)
noncomputable def dM:List Int->Nat
 |[]=>1
 |e::r=>(e.toNat+1)*dM r
theorem tL:∀a b:List Int,dM (a++b)=dM a*dM b
 |[],b=>by simp[dM]
 |e::a,b=>by rw[ub,dM,dM,tL a b,tX]
theorem xb:∀a:List Int,1<=dM a
 |[]=>bj _
 |e::a=>by have:=xb a;unfold dM;exact ax this (Pp _ (by lia))
theorem QG(r:List Int)(i:Nat):dM (r.take i)<=dM r:=by
 have e:=tL (r.take i) (r.drop i);rw[kc] at e;rw[e];exact Nat.le_mul_of_pos_right _ (xb _)
theorem SO(r:List Int)(k:Int)(m:List Int)(e:Int):er r k (m++[e])=fy (er r k m) e:=by unfold er;rw[lH];rfl
theorem R8{r:List Int}{k:Int}{P:List Int->Int×List Pt->Prop}(a:P [] (r.sum,[([],k)]))(h:∀m e s,P m s->P (m++[e]) (fy s e)):∀(i:Nat),P (r.take i) (er r k (r.take i)):=λi=>by
 induction i with
 |zero=>exact a
 |succ i ih=>
  by_cases c:i<r.length
  ·have g:r[i]?=some r[i]:=bS c;rw[ze g,SO];exact h _ _ _ ih
  ·rw[jD (by lia)] at ih ⊢;exact ih
theorem E3(r:List Int)(k:Int)(i:Nat):(er r k (r.take i)).2.length<=dM (r.take i):=by
 refine R8 (P:=λm s=>s.2.length<=dM m) (by simp[dM]) (λm e s a=>?_) i;have:=EF e.toNat (s.1-e) s.2;rw[tL];show(ef e.toNat (s.1-e) s.2).length<=dM m*((e.toNat+1)*1)
 rw[Nat.mul_one];exact ax this (lI _ a)
theorem Of(r:List Int)(k:Int)(i:Nat):∀p∈(er r k (r.take i)).2,p.1.length=(r.take i).length:=by
 refine R8 (P:=λm s=>∀p∈s.2,p.1.length=m.length) (by simp) (λm e s b=>?_) i;intro q a;obtain⟨p,c,j,d,rfl⟩:=L9.mp a;rw[cJ,cJ,b p c]
 rfl
section
variable {au:aa}{Q:D->aa->Prop}
theorem Wb{r:List Int}{t:Int}(h:∀x∈r,0<=x/\x<=1000)(z:r.length<=1000)(m:dM r<=20000)(k:∀g,Q (.lst (aJ (f7 r t))) (au++g)):WP (CB [aL r,.int t] au) Q:=by
 refine gM rfl ?_;simp only[W,V,M,Dd.N];refine⟨small _ (by simp),small _ (by simp),small _ (by simp),r,qz r,?_⟩;refine gX (λi d s=>(∃v,d=[some (aL r),some (.int t),some (.lst ((er r t (r.take i)).2.map i7)),some (.int (er r t (r.take i)).1),v])/\∃g,s=au++g) ⟨⟨_,rfl⟩,[],by simp⟩ ?_ ?_
 ·rintro i y d s n ⟨⟨v,rfl⟩,g,rfl⟩;obtain⟨e,j,rfl⟩:=sS n;refine⟨_,rfl,?_⟩;unfold TQ;obtain⟨q,u⟩:=h e (dY j);simp only[W,V,M,Dd.N,L];refine⟨_,rfl,?_⟩;have b:=E3 r t i;have f:=QG r (i+1);rw[ze j,tL,show dM [e]=e.toNat+1 by simp[dM]] at f;have l:(er r t (r.take i)).2.length*(e.toNat+1)<=20000:=ax (lI _ b) (ax f m);have c:=Of r t i;rw[ze j,SO];generalize er r t (r.take i)=s at l c ⊢;obtain⟨a,rfl⟩:=kX q;refine V4 (e:=a) (by lia) (by rw[j9] at l;lia) (λp h=>?_) λo=>?_
  ·rw[c p h,gw];lia
  ·simp only[W,V,L];exact⟨⟨_,rfl⟩,g++o,by simp⟩
 ·rintro d s ⟨⟨v,rfl⟩,g,rfl⟩;rw[bh,cX];simp only[W,V,M,Dd.N];have b:=E3 r t r.length;rw[cX] at b;refine⟨by rw[bh];exact small _ (by lia),?_⟩;refine sQ (as:=(er r t r).2) (λd=>∃v w,d=[v,w]) (λ_=>true) (λp=>aL p.1) i7 ⟨_,_,rfl⟩ ?_ ?_
  ·rintro p h d ⟨v,w,rfl⟩;exact⟨_,rfl,⟨_,_,rfl⟩,by simp only[W,and_self],λ_=>by simp only[W,V,and_self]⟩
  ·rw[ND];have:=k g;unfold f7 aJ at this;rw[eM] at this;exact this
end
theorem Oe(r:List Int)(k:Int):(f7 r k).length<=dM r:=by
 have:=E3 r k r.length;rw[cX] at this;unfold f7;rw[bh];exact this
def bH(k:Int) (r:List Int):List (List Int):=if k<=r.sum then f7 r k else[]
def af(k:Int) (l:List (List Int)):List (List Int):=l.flatMap (bH k)
theorem UH(h:dM r<=B):(bH k r).length<=B:=by
 unfold bH;split
 ·exact ax (Oe r k) h
 ·simp
theorem Tg(k:Int)(l:List (List Int))(r:List Int):af k (l++[r])=af k l++bH k r:=by simp[af]
theorem lS:∀{r:List Int},(∀x∈r,0<=x)->0<=r.sum
 |[],_=>by simp
 |x::r,h=>by
  have:=lS (r:=r) λy a=>h y (bT _ a)
  have:=h x dk;rw[fq];lia
theorem nO:∀{r:List Int},(∀x∈r,0<=x)->∀x∈r,x<=r.sum
 |[],_,_,h=>nomatch h
 |y::r,h,x,hx=>by
  have a:=λz b=>h z (bT y b)
  have d:=lS a;have c:=h y dk;rw[fq];rcases bZ.mp hx with rfl|hx
  ·lia
  ·have:=nO a x hx;lia
theorem Oq(e:Int)(a:List Int)(b:List Pt):(e::a).foldl fy ((e::a).sum,b)=a.foldl fy (a.sum,ef e.toNat a.sum b):=by
 rw[lE,fq];unfold fy;dsimp only;rw[show e+a.sum-e=a.sum by lia]
end Dd
namespace K13
end K13
namespace Dd
open L2 K13
theorem Fa:WP (eh f g σ au) Q=WP (f σ au) (λx c=>∃n a,x=.ref n/\c[n]?=some (.lst a)/\WP (g σ c) (λj b=>∃y d i,j=[y]/\b[n]?=some (.lst d)/\eS b y=some i/\d.length+i.length<=sizeLine/\Q .non (b.set n (.lst (d++i))))):=by
 rw[NB,zh]
 congr
 funext x c
 apply propext;constructor
 ·intro q;split at q
  ·rename_i n a e;rw[zh] at q;have m:c[n]?=some (.lst a):=by
    unfold eS at e;dsimp only at e;split at e
    ·cases e;assumption
    ·cases e
   refine⟨n,a,rfl,m,q.mono λj b h=>?_⟩;split at h
   ·split at h
    ·split at h
     ·exact⟨_,_,_,rfl,by assumption,by assumption,by assumption,h⟩
     ·exact h.elim
    ·exact h.elim
   ·exact h.elim
  ·exact q.elim
 ·rintro⟨n,a,rfl,e,q⟩;rw[nz e];dsimp only;rw[zh];refine q.mono λj b h=>?_
  obtain⟨y,d,i,rfl,l,o,k,h⟩:=h;rw[l];dsimp only;rw[o];dsimp only;rw[if_pos k];exact h
def gE(e:Nat) (p:Pt):List Pt:=(aj e 0 p.2).map λj:Nat=>(p.1++[(e:Int)+(j:Int)],p.2-(j:Int))
def dF(e:Nat) (a:List Pt):List Pt:=a.flatMap (gE e)
theorem QW(e:Nat)(p:Pt):(gE e p).length<=e+1:=by
 unfold gE;rw[bh];exact vd _ _ _ _
theorem NN(e:Nat)(a:List Pt)(p:Pt):dF e (a++[p])=dF e a++gE e p:=by simp[dF]
theorem EE(e:Nat):∀ps:List Pt,(dF e ps).length<=ps.length*(e+1)
 |[]=>by simp[dF]
 |p::ps=>by
  have a:dF e (p::ps)=gE e p++dF e ps:=by simp[dF]
  have:=EE e ps;have:=QW e p;rw[a,cJ,dh,rk];lia
theorem Q8:q∈dF e c↔∃p∈c,∃j:Nat,j∈aj e 0 p.2/\q=(p.1++[(e:Int)+(j:Int)],p.2-(j:Int)):=by
 unfold dF gE;simp only[fr,bQ];constructor
 ·rintro⟨p,b,j,a,rfl⟩;exact⟨p,b,j,a,rfl⟩
 ·rintro⟨p,b,j,a,rfl⟩;exact⟨p,b,j,a,rfl⟩
theorem SQ{e:Nat}{left:Int}(h:0<=left):(List.range ((if left<(e:Int) then left else(e:Int))+1).toNat).filter (λx=>decide (e&&&x=x))=aj e 0 left:=by
 have a:∀n:Nat,(n:Int)<=left+1->dm e 0 left n=(List.range n).filter (λx=>decide (e&&&x=x)):=λn i=>by
  unfold dm;refine m3 λx f=>?_
  have:=bB.mp f;have d:(0:Int)<=(x:Int):=by lia
  have b:(x:Int)<=left:=by lia
  simp[d,b]
 rw[←a _ (by split<;>lia)];unfold aj;split
 ·rename_i c;obtain⟨k,g⟩:∃k,e+1=(left+1).toNat+k:=⟨e+1-(left+1).toNat,by lia⟩
  rw[g];exact(Cd k λx d b z=>by lia).symm
 ·rw[show((e:Int)+1).toNat=e+1 by lia]
def dy(a:List Pt) (e:Int):List Pt:=dF e.toNat a
def fD(k:Int) (m:List Int):List Pt:=m.foldl dy [([],k)]
def oW(k:Int) (r:List Int):List (List Int):=((fD k r).filter λp=>decide (p.2=0)).map (·.1)
theorem UQ(h:0<=left):(aj e 0 left).filter (λj:Nat=>decide (left-(j:Int)<=S))=aj e (left-S) left:=by
 unfold aj dm;rw[Dg];refine m3 λx _=>?_
 rw[←C0];exact oq.mpr ⟨λh=>⟨h.2.1,by lia,h.2.2.2⟩,λh=>⟨by lia,h.1,by lia,h.2.2⟩⟩
theorem NQ{e:Nat}{S:Int}(h:¬ p.2<=e+S):hG e S p=[]:=by
 unfold hG;have:aj e (p.2-S) p.2=[]:=by
  refine PF.mpr λj b=>?_
  obtain⟨a,d,c⟩:=py.mp b;have:=a.le;lia
 rw[this]
 rfl
theorem LW(h:0<=p.2):(gE e p).filter (λq=>decide (q.2<=S))=hG e S p:=by
 unfold gE hG;rw[rA,←UQ h]
 rfl
theorem QX{e:Nat}{S:Int}:∀{ps:List Pt},(∀p∈ps,0<=p.2)->(dF e ps).filter (λq=>decide (q.2<=S))=ef e S (ps.filter λp=>decide (p.2<=e+S))
 |[],_=>rfl
 |p::ps,h=>by
  have a:=QX (e:=e) (S:=S) (ps:=ps) λq b=>h q (bT _ b)
  have d:dF e (p::ps)=gE e p++dF e ps:=by simp[dF]
  rw[d,kT,a,LW (h p dk)];by_cases c:p.2<=e+S
  ·rw[gS (by simpa using c)];simp[ef]
  ·rw[g9 (by simpa using c),NQ c]
   rfl
theorem RG:∀(a:List Int) (b:List Pt),(∀x∈a,0<=x)->(∀p∈b,0<=p.2)->(a.foldl dy b).filter (λp=>decide (p.2=0))=(a.foldl fy (a.sum,b.filter λp=>decide (p.2<=a.sum))).2
 |[],b,_,h=>by
  show b.filter _=b.filter _;refine m3 λp c=>?_
  have:=h p c;exact oq.mpr ⟨λz=>by simp;lia,λz=>by simp at z;lia⟩
 |e::a,b,hs,h=>by
  have i:=λz g=>hs z (bT e g)
  have m:=hs e dk;rw[Oq,lE,RG a (dy b e) i (λq f=>?_)]
  ·unfold dy;rw[QX h,fq,show((e.toNat:Nat):Int)=e by lia]
  ·obtain⟨p,c,j,d,rfl⟩:=Q8.mp f;obtain⟨n,k,l⟩:=py.mp d;dsimp only;lia
theorem Si:∀(a:List Int) (t:Int),(a.foldl fy (t,[])).2=[]
 |[],_=>rfl
 |e::a,t=>by
  rw[lE];exact Si a (t-e)
theorem xC(h:∀x∈r,0<=x)(a:0<=k):oW k r=bH k r:=by
 unfold oW fD;rw[RG r [([],k)] h (λp b=>by rw[em.mp b];exact a)];unfold bH;by_cases c:k<=r.sum
 ·rw[if_pos c,gS (by simpa using c)]
  rfl
 ·rw[if_neg c,g9 (by simpa using c)];show(r.foldl fy (r.sum,[])).2.map _=[]
  rw[Si]
  rfl
theorem EY(k:Int)(m:List Int)(e:Int):fD k (m++[e])=dy (fD k m) e:=by unfold fD;rw[lH];rfl
theorem QY{k:Int}{P:List Int->List Pt->Prop}(a:P [] [([],k)])(h:∀m e s,P m s->P (m++[e]) (dy s e))(r:List Int):∀(i:Nat),P (r.take i) (fD k (r.take i)):=λi=>by
 induction i with
 |zero=>exact a
 |succ i ih=>
  by_cases c:i<r.length
  ·have g:r[i]?=some r[i]:=bS c;rw[ze g,EY];exact h _ _ _ ih
  ·rw[jD (by lia)] at ih ⊢;exact ih
theorem QZ(r:List Int)(k:Int)(i:Nat):(fD k (r.take i)).length<=dM (r.take i):=by
 refine QY (P:=λm s=>s.length<=dM m) (by simp[dM]) (λm e s a=>?_) r i;have:=EE e.toNat s;rw[tL];show(dF e.toNat s).length<=dM m*((e.toNat+1)*1)
 rw[Nat.mul_one];exact ax this (lI _ a)
theorem LY(r:List Int){k:Int}(f:0<=k)(i:Nat):∀p∈fD k (r.take i),p.1.length=(r.take i).length/\0<=p.2:=by
 refine QY (P:=λm s=>∀p∈s,p.1.length=m.length/\0<=p.2) (by simpa using f) (λm e s b=>?_) r i;intro q c;obtain⟨p,d,j,a,rfl⟩:=Q8.mp c;obtain⟨o,h,n⟩:=py.mp a;obtain⟨g,l⟩:=b p d;dsimp only;rw[cJ,cJ,g];exact⟨rfl,by lia⟩
end Dd
namespace K08
end K08
namespace Dd
open L2 K13
def cz(e:Nat):List Int:=(aj e 0 e).map λj:Nat=>(e:Int)+(j:Int)
noncomputable def bn(a:List (List Int)) (c:List Int):List (List Int):=a.flatMap λb=>c.map λx=>b++[x]
def bF(a:List (List Int)) (e:Int):List (List Int):=bn a (cz e.toNat)
def bw(m:List Int):List (List Int):=m.foldl bF [[]]
theorem tR(m:List Int)(e:Int):bw (m++[e])=bF (bw m) e:=by unfold bw;rw[lH];rfl
theorem Vj:(aj e 0 e).filter (λj:Nat=>decide ((j:Int)<=left))=aj e 0 left:=by
 unfold aj dm;rw[Dg];refine m3 λx a=>?_
 have:=bB.mp a;rw[←C0];exact oq.mpr ⟨λh=>⟨h.2.1,h.2.2.1,h.1⟩,λh=>⟨h.2.2,h.1,h.2.1,by lia⟩⟩
def eD(k M:Int) (b:List (List Int)):List Pt:=(b.filter λa=>decide (a.sum-M<=k)).map λa=>(a,k-(a.sum-M))
theorem QR{k M:Int}{e:Nat}:∀rows:List (List Int),eD k (M+e) (bn rows (cz e))=dF e (eD k M rows)
 |[]=>rfl
 |row::rows=>by
  have d:=QR (k:=k) (M:=M) (e:=e) rows;have i:bn (row::rows) (cz e)=((cz e).map λx=>row++[x])++bn rows (cz e):=by simp[bn]
  have l:eD k (M+e) (bn (row::rows) (cz e))=eD k (M+e) ((cz e).map λx=>row++[x])++eD k (M+e) (bn rows (cz e)):=by
   rw[i];unfold eD;rw[kT,iU]
  have n:eD k (M+e) ((cz e).map λx=>row++[x])=(aj e 0 (k-(row.sum-M))).map λj:Nat=>(row++[(e:Int)+(j:Int)],k-(row.sum-M)-(j:Int)):=by
   unfold eD cz;rw[eM,rA,eM,show aj e 0 (k-(row.sum-M))=_ from Vj.symm];have b:∀j:Nat,(row++[(e:Int)+(j:Int)]).sum-(M+e)=row.sum-M+j:=λj=>by rw[iw];simp;lia
   have g:(aj e 0 e).filter ((λr:List Int=>decide (r.sum-(M+e)<=k)) ∘ ((λx=>row++[x]) ∘ λj:Nat=>(e:Int)+(j:Int)))=(aj e 0 e).filter λj:Nat=>decide ((j:Int)<=k-(row.sum-M)):=
    m3 λj _=>by
     show decide ((row++[(e:Int)+(j:Int)]).sum-(M+e)<=k)=_;rw[b];exact oq.mpr ⟨λh=>by lia,λh=>by lia⟩
   rw[g];refine kb λj _=>?_
   show(row++[(e:Int)+(j:Int)],k-((row++[(e:Int)+(j:Int)]).sum-(M+e)))=_;rw[b]
   congr 1
   lia
  rw[l,d,n];by_cases c:row.sum-M<=k
  ·have a:eD k M (row::rows)=(row,k-(row.sum-M))::eD k M rows:=by
    unfold eD;rw[gS (by simpa using c)]
    rfl
   rw[a];simp[dF,gE]
  ·have a:eD k M (row::rows)=eD k M rows:=by
    unfold eD;rw[g9 (by simpa using c)]
   have m:aj e 0 (k-(row.sum-M))=[]:=PF.mpr λj f=>by
    obtain⟨_,p,o⟩:=py.mp f;lia
   rw[a,m]
   rfl
theorem LX{r:List Int}{k:Int}(h:∀x∈r,0<=x)(a:0<=k):∀i:Nat,fD k (r.take i)=eD k (r.take i).sum (bw (r.take i)):=λi=>by
 induction i with
 |zero=>
  show[([],k)]=eD k 0 [[]];unfold eD;rw[gS (by simpa using a)];simp
 |succ i ih=>
  by_cases c:i<r.length
  ·have g:r[i]?=some r[i]:=bS c;have b:=h r[i] (fZ c);rw[ze g,EY,tR,ih];unfold dy bF;rw[←QR,iw,show(r.take i).sum+[r[i]].sum=(r.take i).sum+(r[i].toNat:Int) by simp;lia]
  ·rw[jD (by lia)] at ih ⊢;exact ih
theorem tO{r:List Int}{k:Int}(h:∀x∈r,0<=x)(b:0<=k):bH k r=(bw r).filter λm=>decide (m.sum=r.sum+k):=by
 have e:=LX h b r.length;rw[cX] at e;rw[←xC h b];unfold oW;rw[e];unfold eD;rw[rA,eM,Dg];have:∀l:List (List Int),l.map ((λp:Pt=>p.1) ∘ λa=>(a,k-(a.sum-r.sum)))=l:=λl=>by
  show l.map (λa=>a)=l;exact yo l
 rw[this];refine m3 λm _=>?_
 show(decide (k-(m.sum-r.sum)=0)&&decide (m.sum-r.sum<=k))=_;rw[←C0];exact oq.mpr ⟨λh=>by lia,λh=>by lia⟩
theorem SW{r:List Int}(h:∀x∈r,0<=x):∀(i:Nat),∀m∈bw (r.take i),(r.take i).sum<=m.sum/\m.sum<=2*(r.take i).sum:=λi=>by
 induction i with
 |zero=>intro m d;rw[em.mp (show m∈[[]] from d)];simp
 |succ i ih=>
  by_cases c:i<r.length
  ·have g:r[i]?=some r[i]:=bS c;have n:=h r[i] (fZ c);intro m d;rw[ze g,tR] at d;unfold bF bn cz at d;obtain⟨f,e,d⟩:=fr.mp d;rw[eM] at d;obtain⟨j,k,rfl⟩:=bQ.mp d;obtain⟨p,l,o⟩:=py.mp k;obtain⟨a,b⟩:=ih f e;rw[ze g];simp only[Function.comp,iw,fq,CK];lia
  ·rw[jD (by lia)] at ih ⊢;exact ih
theorem vp{a b:List (List Int)}(h:∀x,a.count x%2=b.count x%2):aO a=aO b:=Ef (vo a) λx=>by rw[tr,h x]
theorem pu(a:List (List Int))(x:List Int):(aO a).count x%2=a.count x%2:=by
 have e:=nH a;have b:x∈aO a↔a.count x%2=1:=by unfold aO;rw[(zp _).mem_iff,tr]
 by_cases c:x∈aO a
 ·have d:(aO a).count x<=1:=uj.mp e x;have f:0<(aO a).count x:=rE.mpr c;have:=b.mp c;lia
 ·have d:(aO a).count x=0:=ka.mpr c;have:¬ a.count x%2=1:=λz=>c (b.mpr z)
  lia
theorem E9{P:List Int->List (List Int)->Prop}(a:P [] [[]])(h:∀m e s,P m s->P (m++[e]) (bF s e))(r:List Int):∀(i:Nat),P (r.take i) (bw (r.take i)):=λi=>by
 induction i with
 |zero=>exact a
 |succ i ih=>
  by_cases c:i<r.length
  ·have g:r[i]?=some r[i]:=bS c;rw[ze g,tR];exact h _ _ _ ih
  ·rw[jD (by lia)] at ih ⊢;exact ih
theorem UZ(r:List Int)(i:Nat):∀m∈bw (r.take i),m.length=(r.take i).length:=by
 refine E9 (P:=λm s=>∀x∈s,x.length=m.length) (by simp) (λm e s c=>?_) r i;intro x a;unfold bF bn at a;obtain⟨b,d,a⟩:=fr.mp a;obtain⟨y,f,rfl⟩:=bQ.mp a;rw[cJ,cJ,c b d]
 rfl
theorem Mo(h:y∈cz e):(e:Int)<=y/\y<=2*e:=by
 unfold cz at h;obtain⟨j,b,rfl⟩:=bQ.mp h;obtain⟨a,_,_⟩:=py.mp b;have:=a.le;lia
theorem Sz(r x:List Int)(y:Int):∀a:List Int,(a.map λz=>r++[z]).count (x++[y])=if r=x then a.count y else 0
 |[]=>by split<;>rfl
 |z::a=>by
  rw[ce,om,Sz r x y a];by_cases c:r=x
  ·subst c;rw[if_pos rfl,if_pos rfl,om]
   congr 1
   by_cases d:z=y
   ·subst d;simp
   ·simp[d]
  ·rw[if_neg c,if_neg c]
   have:¬ (r++[z]=x++[y]):=λh=>c (by
    have:=congrArg List.dropLast h
    simpa using this)
   simp[c]
theorem Ch(x:List Int)(y:Int)(xs:List Int):∀a:List (List Int),(bn a xs).count (x++[y])=a.count x*xs.count y
 |[]=>by simp[bn]
 |r::a=>by
  have e:bn (r::a) xs=(xs.map λz=>r++[z])++bn a xs:=by simp[bn]
  rw[e,j8,Sz,Ch x y xs a,om];by_cases c:r=x
  ·subst c;simp[Nat.add_mul];lia
  ·simp[c]
noncomputable abbrev Row:=List Int
noncomputable def di{a:Type}(l:List a) (c:a->Nat):Nat:=(l.map c).sum
theorem KH{a:Type}(c:a->Nat):di [] c=0:=rfl
theorem iR{b:Type}(a:b)(l:List b)(c:b->Nat):di (a::l) c=c a+di l c:=by simp[di]
theorem UT{d:Type}(a b:List d)(c:d->Nat):di (a++b) c=di a c+di b c:=by simp[di]
theorem M4{d:Type}{a b:List d}(h:a.Perm b)(c:d->Nat):di a c=di b c:=(h.map c).sum_nat
theorem Ru(c:Row->Nat):∀(n:Nat) (l:List Row),l.length<=n->(∀x,l.count x%2=0)->di l c%2=0
 |_,[],_,_=>rfl
 |0,_::_,h,_=>by simp at h
 |n+1,y::l,hn,h=>by
  have d:=h y;rw[List.count_cons_self] at d;have a:y∈l:=rE.mp (by lia);have p:=List.perm_cons_erase a;have e:=Ru c n (l.erase y) (by rw[List.length_erase_of_mem a];simp at hn;lia) λx=>by
   have b:=h x;rw[om,p.count_eq,om] at b;split at b<;>lia
  rw[iR,M4 p,iR];lia
theorem ye{a b:List Row}(c:Row->Nat)(h:∀x,a.count x%2=b.count x%2):di a c%2=di b c%2:=by
 have:=Ru c _ (a++b) (bj _) λx=>by rw[j8];have:=h x;lia
 rw[UT] at this;lia
theorem Eo{e:Type}{c d:e->Nat}:∀{l:List e},(∀a∈l,c a%2=d a%2)->di l c%2=di l d%2
 |[],_=>rfl
 |a::l,h=>by
  have g:=h a dk;have i:=Eo (c:=c) (d:=d) (l:=l) λb f=>h b (bT _ f)
  rw[iR,iR];lia
theorem Sk{b:Type}{c d:b->Nat}{l:List b}(h:∀a∈l,c a=d a):di l c=di l d:=by
 unfold di;rw[kb h]
theorem yc{b:Type}(c d:b->Nat):∀l:List b,di l (λa=>c a+d a)=di l c+di l d
 |[]=>rfl
 |a::l=>by rw[iR,iR,iR,yc c d l];lia
theorem qA{b:Type}(x:Row)(f:b->List Row):∀l:List b,(l.flatMap f).count x=di l λa=>(f a).count x
 |[]=>rfl
 |a::l=>by rw[yI,j8,qA x f l,iR]
theorem KF{b d:Type}(g:b->d)(c:d->Nat)(l:List b):di (l.map g) c=di l λa=>c (g a):=by unfold di;rw[eM];rfl
theorem Sb{a b:List Row}(k:Int)(h:∀x,a.count x%2=b.count x%2)(x:Row):(af k a).count x%2=(af k b).count x%2:=by
 unfold af;rw[qA,qA];exact ye _ h
theorem Vl(h:∀x∈r,0<=x):∀m∈bw r,r.sum<=m.sum/\m.length=r.length:=λm c=>by
 have a:=SW h r.length m (by rw[cX];exact c);have b:=UZ r r.length m (by rw[cX];exact c);rw[cX] at a b;exact⟨a.1,b⟩
noncomputable def xr{a:Type}(l:List a) (f:a->Nat):Nat:=l.foldr (λx b=>f x^^^b) 0
section
variable {α β:Type}
theorem ik(x:α):xr (x::l) f=f x^^^xr l f:=rfl
theorem Ce:∀(l m:List α),xr (l++m) f=xr l f^^^xr m f
 |[],m=>(pF _).symm
 |x::l,m=>by rw[ub,ik,ik,Ce l m,gY]
theorem qm(h:β->α):∀l:List β,xr (l.map h) f=xr l λx=>f (h x)
 |[]=>rfl
 |x::l=>by rw[ce,ik,ik,qm h l]
theorem uV(h:β->List α):∀l:List β,xr (l.flatMap h) f=xr l λx=>xr (h x) f
 |[]=>rfl
 |x::l=>by rw[yI,Ce,ik,uV h l]
theorem zj:∀{l:List α},(∀x∈l,f x=g x)->xr l f=xr l g
 |[],_=>rfl
 |x::l,h=>by rw[ik,ik,h x (dk ..),zj λy a=>h y (bT _ a)]
theorem lA:∀l:List α,xr l (λ_=>0)=0
 |[]=>rfl
 |x::l=>by rw[ik,lA l];rfl
theorem yk(a b c d:Nat):(a^^^b)^^^(c^^^d)=(a^^^c)^^^(b^^^d):=by
 rw[gY,gY,←gY b,←gY c,CJ b c]
theorem lz:∀l:List α,xr l (λx=>f x^^^g x)=xr l f^^^xr l g
 |[]=>by show 0=0^^^0;rw[pE]
 |x::l=>by rw[ik,ik,ik,lz l,yk]
theorem tI(p:α->Bool):∀l:List α,xr (l.filter p) f=xr l λx=>if p x=true then f x else 0
 |[]=>rfl
 |x::l=>by
  rw[ik,←tI p l];by_cases c:p x=true
  ·rw[gS c,ik,if_pos c]
  ·rw[g9 c,if_neg c,pF]
theorem DB(p q:Bool)(z:Nat):(if p=true then z else 0)^^^(if q=true then z else 0)=if Bool.xor p q=true then z else 0:=by
 cases p<;>cases q<;>simp
theorem oe(f:Nat->Nat)(N:Nat):xr (List.range (N+1)) f=f 0^^^xr (List.range N) λc=>f (c+1):=by
 rw[List.range_succ_eq_map,ik,qm]
theorem rd(f:Nat->Nat)(N:Nat):xr (List.range (N+1)) f=xr (List.range N) f^^^f N:=by
 rw[pJ,Ce];show _^^^(f N^^^0)=_;rw[jx]
end
noncomputable def sb(e j:Nat):Bool:=decide (e&&&j=j)
theorem Ek(e j:Nat):sb e j=(sb (e/2) (j/2)&&decide (j%2<=e%2)):=by
 unfold sb;rw[←C0];refine oq.mpr ?_;have c:(e&&&j)/2=e/2&&&j/2:=OJ;have d:(e&&&j)%2=1↔e%2=1/\j%2=1:=Nat.and_mod_two_eq_one;constructor
 ·intro h;rw[h] at c d;exact⟨c.symm,by lia⟩
 ·intro⟨a,b⟩;lia
theorem qq(e:Nat):sb e 0=true:=by simp[sb]
theorem uG(h:e<j):sb e j=false:=by
 refine cI λz=>?_
 have:e&&&j<=e:=Nat.and_le_left;lia
theorem jJ:∀e j:Nat,sb (e+1) (j+1)=Bool.xor (sb e (j+1)) (sb e j)
 |0,j=>by
  by_cases c:j=0
  ·subst c;decide
  ·rw[uG (e:=0+1) (by lia),uG (e:=0) (by lia),uG (e:=0) (j:=j) (by lia)];rfl
 |e+1,j=>by
  rw[Ek (e+1+1),Ek (e+1),Ek (e+1)];have a:(e+1)/2<e+1:=by lia
  by_cases c:(e+1)%2=0
  ·rw[show(e+1+1)/2=(e+1)/2 by lia];by_cases d:j%2=0
   ·rw[show(j+1)/2=j/2 by lia,cC (show(j+1)%2<=(e+1+1)%2 by lia),cI (show ¬ (j+1)%2<=(e+1)%2 by lia),cC (show j%2<=(e+1)%2 by lia)];simp
   ·rw[cC (show(j+1)%2<=(e+1+1)%2 by lia),cC (show(j+1)%2<=(e+1)%2 by lia),cI (show ¬ j%2<=(e+1)%2 by lia)];simp
  ·obtain⟨p,b⟩:∃p,(e+1)/2=p:=⟨_,rfl⟩
   rw[show(e+1+1)/2=(e+1)/2+1 by lia,b];have:=jJ p;by_cases d:j%2=0
   ·rw[show(j+1)/2=j/2 by lia,cI (show ¬ (j+1)%2<=(e+1+1)%2 by lia),cC (show(j+1)%2<=(e+1)%2 by lia),cC (show j%2<=(e+1)%2 by lia)];simp
   ·rw[show(j+1)/2=j/2+1 by lia,cC (show(j+1)%2<=(e+1+1)%2 by lia),cC (show(j+1)%2<=(e+1)%2 by lia),cC (show j%2<=(e+1)%2 by lia)];rw[CS,CS,CS];exact this (j/2)
 termination_by e _=>e
theorem n9(e:Nat)(g:Int->Nat):xr (cz e) g=xr (List.range (e+1)) λj=>if sb e j=true then g ((e:Int)+(j:Int)) else 0:=by
 have h:=SQ (e:=e) (left:=(e:Int)) (by lia);unfold cz;rw[qm,←h,tI,show((if(e:Int)<(e:Int) then(e:Int) else(e:Int))+1).toNat=e+1 by split<;>lia]
 rfl
theorem Mq(e:Nat)(g:Int->Nat):xr (cz (e+1)) g=xr (cz e) (λy=>g (y+1))^^^xr (cz e) (λy=>g (y+1+1)):=by
 rw[n9,n9,n9,oe,oe (λj=>if sb e j=true then g ((e:Int)+(j:Int)+1) else 0) e];have a:(xr (List.range (e+1)) λc=>if sb (e+1) (c+1)=true then g (((e+1:Nat):Int)+((c+1:Nat):Int)) else 0)
   =(xr (List.range (e+1)) λc=>if sb e (c+1)=true then g ((e:Int)+((c+1:Nat):Int)+1) else 0)^^^(xr (List.range (e+1)) λc=>if sb e c=true then g ((e:Int)+(c:Int)+1+1) else 0):=by
  rw[←lz];refine zj λc _=>?_
  rw[jJ,←DB];rw[show((e+1:Nat):Int)+((c+1:Nat):Int)=(e:Int)+((c+1:Nat):Int)+1 by lia];rw[show(e:Int)+((c+1:Nat):Int)+1=(e:Int)+(c:Int)+1+1 by lia]
 rw[a,rd (N:=e) (f:=λc=>if sb e (c+1)=true then g ((e:Int)+((c+1:Nat):Int)+1) else 0),uG (e:=e) (j:=e+1) (by lia),qq,qq];simp only[gt,jo,gj,jx];rw[show((e+1:Nat):Int)+((0:Nat):Int)=(e:Int)+((0:Nat):Int)+1 by lia,gY]
def T(k:Int) (a:Row->Nat) (m:Row):Nat:=xr (bw m) λx=>if x.sum=m.sum+k then a x else 0
theorem re(h:∀x∈bw m,φ x=ψ x):T k φ m=T k ψ m:=zj λx a=>by rw[h x a]
theorem vG(k:Int)(a b:Row->Nat)(m:Row):T k (λx=>a x^^^b x) m=T k a m^^^T k b m:=by
 unfold T;rw[←lz];refine zj λx _=>?_
 by_cases c:x.sum=m.sum+k
 ·rw[if_pos c,if_pos c,if_pos c]
 ·rw[if_neg c,if_neg c,if_neg c,pE]
theorem vV(k:Int)(m:Row):T k (λ_=>0) m=0:=by
 unfold T;rw[zj (g:=λ_=>0) λx _=>by split<;>rfl,lA]
theorem nT(k:Int)(a:Row->Nat)(r:Row)(e:Nat):T k a (r++[(e:Int)])=xr (bw r) λu=>xr (cz e) λy=>if u.sum+y=r.sum+e+k then a (u++[y]) else 0:=by
 unfold T;rw[tR];unfold bF bn;rw[uV];refine zj λu _=>?_
 rw[qm,j9];refine zj λy _=>?_
 rw[iw,iw,fq,CK,fq,CK,Int.add_zero,Int.add_zero]
def bump(x:Row):Row:=x.dropLast++[x.getLastD 0+1]
theorem Nj(u:Row)(y:Int):bump (u++[y])=u++[y+1]:=by
 unfold bump;rw[List.dropLast_concat];simp
def up(a:Row->Nat):Row->Nat:=λx=>a (bump x)
theorem pj(a:Row->Nat)(u:Row)(y:Int):up a (u++[y])=a (u++[y+1]):=by unfold up;rw[Nj]
theorem qL(k:Int)(a:Row->Nat)(r:Row)(e:Nat):T k a (r++[(e:Int)+1])=T k (up a) (r++[(e:Int)])^^^T (k-1) (up (up a)) (r++[(e:Int)]):=by
 rw[show(e:Int)+1=((e+1:Nat):Int) by lia,nT,nT,nT,←lz];refine zj λu _=>?_
 rw[Mq]
 congr 1
 ·refine zj λy _=>?_
  rw[pj];by_cases c:u.sum+y=r.sum+e+k
  ·rw[if_pos c,if_pos (by lia)]
  ·rw[if_neg c,if_neg (by lia)]
 ·refine zj λy _=>?_
  rw[pj,pj];by_cases c:u.sum+y=r.sum+e+(k-1)
  ·rw[if_pos c,if_pos (by lia)]
  ·rw[if_neg c,if_neg (by lia)]
def Nn(m:Row):Prop:=∀x∈m,0<=x
theorem OE(h:Nn m)(a:x∈bw m):m.sum<=x.sum/\x.sum<=2*m.sum:=by
 have:=SW h m.length;rw[cX] at this;exact this x a
theorem HN(h:y∈cz e):(e:Int)<=y:=by
 unfold cz at h;obtain⟨j,_,rfl⟩:=bQ.mp h;lia
theorem Fh{e:Nat}(h:x∈bw (r++[(e:Int)])):∃u y,x=u++[((y:Nat):Int)]/\u∈bw r:=by
 rw[tR] at h;unfold bF bn at h;obtain⟨u,b,h⟩:=fr.mp h;obtain⟨y,a,rfl⟩:=bQ.mp h;rw[j9] at a;have:=HN a;exact⟨u,y.toNat,by rw[Pf (by lia)],b⟩
theorem Rs{P:Row->Prop}(j:P [])(l:∀r,Nn r->P r->P (r++[0]))(d:∀r (e:Nat),Nn r->P (r++[(e:Int)])->P (r++[(e:Int)+1])):∀m:Row,Nn m->P m:=λm c=>by
 suffices h:∀i,i<=m.length->P (m.take i) by have:=h m.length (bj _);rw[cX] at this;exact this
 intro i
 induction i with
 |zero=>intro _;exact j
 |succ i ih=>
  intro n;have g:m[i]?=some m[i]:=bS (by lia);rw[ze g];have b:Nn (m.take i):=λx k=>c x (me k)
  have f:0<=m[i]:=c _ (fZ _);obtain⟨e,a⟩:∃e:Nat,m[i]=(e:Int):=⟨m[i].toNat,by lia⟩
  rw[a];clear g f a
  induction e with
  |zero=>exact l _ b (ih (by lia))
  |succ e ie=>rw[show((e+1:Nat):Int)=(e:Int)+1 by lia];exact d _ e b ie
theorem ES:∀m:Row,Nn m->∀x∈bw m,Nn x:=λm l x b=>by
 have h:∀i,∀x∈bw (m.take i),Nn x:=λi=>by
  induction i with
  |zero=>intro x b;rw[em.mp (show x∈[[]] from b)];intro y f;cases f
  |succ i ih=>
   by_cases c:i<m.length
   ·have g:m[i]?=some m[i]:=bS c;have n:0<=m[i]:=l _ (fZ c);obtain⟨e,d⟩:∃e:Nat,m[i]=(e:Int):=⟨m[i].toNat,by lia⟩
    intro x b;rw[ze g,d] at b;obtain⟨u,y,rfl,j⟩:=Fh b;intro z k;rcases dB.mp k with a|a
    ·exact ih u j z a
    ·rw[em.mp a];lia
   ·rw[jD (by lia)] at ih ⊢;exact ih
 have:=h m.length;rw[cX] at this;exact this x b
theorem nJ(h:Nn m)(b:k<0):T k φ m=0:=by
 unfold T;rw[zj (g:=λ_=>0) λx a=>if_neg (by have:=OE h a;lia),lA]
theorem kF(k:Int)(a:Row->Nat):T k a []=if k=0 then a [] else 0:=by
 show(if([]:Row).sum=([]:Row).sum+k then a [] else 0)^^^0=_;rw[jx];by_cases c:k=0
 ·rw[if_pos c,if_pos (by rw[c];rfl)]
 ·rw[if_neg c,if_neg (by simp;lia)]
theorem uX(k:Int)(a:Row->Nat)(r:Row):T k a (r++[0])=T k (λu=>a (u++[0])) r:=by
 rw[show(0:Int)=((0:Nat):Int) from rfl,nT];refine zj λu _=>?_
 rw[n9];show(if sb 0 0=true then(if u.sum+(((0:Nat):Int)+((0:Nat):Int))=r.sum+((0:Nat):Int)+k then a (u++[((0:Nat):Int)+((0:Nat):Int)]) else 0) else 0)^^^0=_;rw[jx,if_pos (qq 0)];simp
theorem vF(a b:Int)(d:Row->Nat)(r:Row)(e:Nat):T b (T a d) (r++[(e:Int)+1])
  =(T b (T a (up d)) (r++[(e:Int)])^^^T b (T (a-1) (up (up d))) (r++[(e:Int)]))^^^(T (b-1) (T a (up (up d))) (r++[(e:Int)])^^^T (b-1) (T (a-2) (up (up (up (up d))))) (r++[(e:Int)])):=by
 rw[qL,←vG,←vG];have f:∀(c:Int) (g:Row->Nat) (u:Row) (y:Nat),up (T c g) (u++[(y:Int)])=T c (up g) (u++[(y:Int)])^^^T (c-1) (up (up g)) (u++[(y:Int)]):=λc g u y=>by rw[pj,qL]
 congr 1
 ·refine re λx i=>?_
  obtain⟨u,y,rfl,_⟩:=Fh i;exact f _ _ _ _
 ·refine re λx i=>?_
  obtain⟨u,y,rfl,_⟩:=Fh i;have h:up (up (T a d)) (u++[(y:Int)])=up (T a (up d)) (u++[(y:Int)])^^^up (T (a-1) (up (up d))) (u++[(y:Int)]):=by
   rw[pj,show((y:Int)+1)=((y+1:Nat):Int) by lia,f,pj,pj]
   rfl
  rw[h,f,f,show a-1-1=a-2 by lia,gY,←gY (T (a-1) (up (up (up d))) _),pE,pF]
def co(b a:Int) (c:Nat):Bool:=decide (2*(c:Int)<=a)&&(if(c:Int)<b then sb (b-1-c).toNat (a-2*c).toNat else decide ((c:Int)=b))
theorem mQ{b a:Int}{c:Nat}(h:a<2*(c:Int)):co b a c=false:=by unfold co;rw[cI (by lia)];rfl
theorem nW{b a:Int}{c:Nat}(h:b<(c:Int)):co b a c=false:=by
 unfold co;rw[if_neg (by lia),cI (p:=(c:Int)=b) (by lia),Bool.and_false]
theorem im{b a:Int}{c:Nat}(d:2*(c:Int)<=a)(e:(c:Int)<b):co b a c=sb (b-1-c).toNat (a-2*c).toNat:=by
 unfold co;rw[cC d,if_pos e,Bool.true_and]
theorem sM{b a:Int}{c:Nat}(d:2*(c:Int)<=a)(e:(c:Int)=b):co b a c=true:=by
 unfold co;rw[cC d,if_neg (by lia),cC e];rfl
theorem IP{b a:Int}{c:Nat}(h:2*b<=a)(d:(c:Int)<b):co b a c=false:=by
 rw[im (by lia) d,uG (by lia)]
theorem IN(b a:Int)(c:Nat):co (b-1) (a-2) c=co b a (c+1):=by
 by_cases h:2*(c:Int)<=a-2
 ·by_cases g:(c:Int)<b-1
  ·rw[im h g,im (by lia) (by lia),show(b-1-((c+1:Nat):Int)).toNat=(b-1-1-(c:Int)).toNat by lia,show(a-2*((c+1:Nat):Int)).toNat=(a-2-2*(c:Int)).toNat by lia]
  ·by_cases g2:(c:Int)=b-1
   ·rw[sM h g2,sM (by lia) (by lia)]
   ·rw[nW (by lia),nW (by lia)]
 ·rw[mQ (by lia),mQ (by lia)]
theorem GJ(h:a<=2*b-1)(c:Nat):Bool.xor (co b a c) (co b a (c+1))=Bool.xor (co b (a-1) c) (co (b-1) a c):=by
 by_cases h0:a<2*(c:Int)
 ·rw[mQ h0,mQ (by lia),mQ (by lia),mQ h0]
 have d:(c:Int)<b:=by lia
 rw[im (by lia) d];by_cases h1:a=2*(c:Int)
 ·rw[mQ (a:=a) (c:=c+1) (by lia),mQ (a:=a-1) (by lia),show(a-2*(c:Int)).toNat=0 by lia,qq];by_cases g:(c:Int)<b-1
  ·rw[im (by lia) g,show(a-2*(c:Int)).toNat=0 by lia,qq];rfl
  ·rw[sM (by lia) (by lia)];rfl
 rw[im (a:=a-1) (by lia) d];by_cases h2:a=2*(c:Int)+1
 ·rw[mQ (a:=a) (c:=c+1) (by lia),show(a-2*(c:Int)).toNat=1 by lia,show(a-1-2*(c:Int)).toNat=0 by lia,qq];by_cases g:(c:Int)<b-1
  ·obtain⟨q,e⟩:∃q:Nat,b-1-1-(c:Int)=q:=⟨(b-1-1-(c:Int)).toNat,by lia⟩
   rw[im (by lia) g,show(a-2*(c:Int)).toNat=0+1 by lia,show(b-1-1-(c:Int)).toNat=q by lia,show(b-1-(c:Int)).toNat=q+1 by lia,jJ,qq];cases sb q (0+1)<;>rfl
  ·rw[sM (by lia) (by lia),show(b-1-(c:Int)).toNat=0 by lia];rfl
 have g:(c:Int)<b-1:=by lia
 obtain⟨q,e⟩:∃q:Nat,b-1-1-(c:Int)=q:=⟨(b-1-1-(c:Int)).toNat,by lia⟩
 obtain⟨p,f⟩:∃p:Nat,a-2*(c:Int)=p+2:=⟨(a-2*(c:Int)-2).toNat,by lia⟩
 rw[im (c:=c+1) (by lia) (by lia),im (by lia) g,show(b-1-(c:Int)).toNat=q+1 by lia,show(b-1-1-(c:Int)).toNat=q by lia,show(b-1-((c+1:Nat):Int)).toNat=q by lia,
  show(a-2*(c:Int)).toNat=p+1+1 by lia,show(a-1-2*(c:Int)).toNat=p+1 by lia,show(a-2*((c+1:Nat):Int)).toNat=p by lia,jJ,jJ]
 cases sb q (p+1+1)<;>cases sb q (p+1)<;>cases sb q p<;>rfl
def cs(b a:Int) (N:Nat) (d:Row->Nat) (m:Row):Nat:=xr (List.range N) λc=>if co b a c=true then T c (T (a+b-c) d) m else 0
theorem uW:∀{N:Nat},k<N->(∀c,c≠k->f c=0)->xr (List.range N) f=f k
 |0,h,_=>by lia
 |N+1,h,z=>by
  rw[rd];by_cases c:k=N
  ·rw[zj (g:=λ_=>0) λx a=>z x (by have:=bB.mp a;lia),lA,pF,c]
  ·rw[uW (by lia) z,z N (by lia),jx]
theorem IQ{b a:Int}{N:Nat}(d:Row->Nat)(m:Row)(f:0<=b)(h:2*b<=a)(j:a<=2*b+1)(e:b<N):cs b a N d m=T b (T a d) m:=by
 obtain⟨k,rfl⟩:∃k:Nat,b=k:=⟨b.toNat,by lia⟩
 unfold cs;rw[uW (k:=k) (by lia) λc i=>?_,sM h rfl,if_pos rfl,show a+(k:Int)-k=a by lia];by_cases g:(c:Int)<k
 ·rw[IP h g];rfl
 ·rw[nW (by lia)];rfl
def AD(m:Row):Prop:=∀(c:Row->Nat) (a b:Int) (N:Nat),a<=2*b+1->b<N->T b (T a c) m=cs b a N c m
theorem wf{b a:Int}{N:Nat}(d:Row->Nat)(m:Row)(h:a<0):cs b a N d m=0:=by
 unfold cs;rw[zj (g:=λ_=>0) λc _=>by rw[mQ (by lia)];rfl,lA]
theorem vX(e:Nn m)(d:Row->Nat) (h:a<0):T b (T a d) m=0:=by
 rw[re (ψ:=λ_=>0) λx c=>nJ (ES m e x c) h,vV]
theorem IG{e:Nat}(l:Nn (r++[(e:Int)]))(i:AD (r++[(e:Int)])):AD (r++[(e:Int)+1]):=λd a b N h j=>by
 have o:Nn (r++[(e:Int)+1]):=λx t=>by
  rcases dB.mp t with z|z
  ·exact l x (ul _ z)
  ·rw[em.mp z];lia
 by_cases a0:a<0
 ·rw[wf _ _ a0,vX o _ a0]
 by_cases ap:2*b<=a
 ·by_cases b0:0<=b
  ·rw[IQ _ _ b0 ap h j]
  ·lia
 obtain⟨M,rfl⟩:∃M,N=M+1:=⟨N-1,by lia⟩
 rw[vF];generalize hm:r++[(e:Int)]=m at *
 rw[i (up d) a b (M+1) h j,i (up (up d)) (a-1) b (M+1) (by lia) j,i (up (up d)) a (b-1) (M+1) (by lia) (by lia),i _ (a-2) (b-1) (M+1) (by lia) (by lia)];have n:cs b a (M+1) d (r++[(e:Int)+1])=((cs b a (M+1) (up d) m)^^^xr (List.range (M+1)) λc=>if co b a c=true then T c (T (a+b-1-c) (up (up d))) m else 0) ^^^
   ((xr (List.range (M+1)) λc=>if co b a (c+1)=true then T c (T (a+b-1-c) (up (up d))) m else 0)^^^xr (List.range (M+1)) λc=>if co b a (c+1)=true then T c (T (a-2+(b-1)-c) (up (up (up (up d))))) m else 0):=by
  have s:∀Z:Nat->Nat,(xr (List.range (M+1)) λc=>if co b a (c+1)=true then Z (c+1) else 0)=xr (List.range (M+1)) λc=>if co b a c=true then(if c=0 then 0 else Z c) else 0:=λZ=>by
   rw[rd,nW (c:=M+1) (by lia),oe];simp
  have q:=s λc=>T ((c:Int)-1) (T (a+b-c) (up (up d))) m
  have p:=s λc=>T ((c:Int)-1) (T (a+b-c-2) (up (up (up (up d))))) m
  rw[zj (g:=λc=>if co b a (c+1)=true then T c (T (a+b-1-c) (up (up d))) m else 0) λc _=>by
   show(if co b a (c+1)=true then T (((c+1:Nat):Int)-1) (T (a+b-((c+1:Nat):Int)) (up (up d))) m else 0)=_
   rw[show((c+1:Nat):Int)-1=c by lia,show a+b-((c+1:Nat):Int)=a+b-1-c by lia]] at q
  rw[zj (g:=λc=>if co b a (c+1)=true then T c (T (a-2+(b-1)-c) (up (up (up (up d))))) m else 0) λc _=>by
   show(if co b a (c+1)=true then T (((c+1:Nat):Int)-1) (T (a+b-((c+1:Nat):Int)-2) _) m else 0)=_
   rw[show((c+1:Nat):Int)-1=c by lia,show a+b-((c+1:Nat):Int)-2=a-2+(b-1)-c by lia]] at p
  rw[q,p];unfold cs;rw[←lz,←lz,←lz];refine zj λc _=>?_
  by_cases hc:co b a c=true
  ·rw[if_pos hc,if_pos hc,if_pos hc,if_pos hc,if_pos hc,vF,hm,show a+b-(c:Int)-1=a+b-1-c by lia];by_cases c0:c=0
   ·subst c0;rw[if_pos rfl,if_pos rfl,nJ (k:=((0:Nat):Int)-1) l (by lia),nJ (k:=((0:Nat):Int)-1) l (by lia)]
   ·rw[if_neg c0,if_neg c0]
  ·rw[if_neg hc,if_neg hc,if_neg hc,if_neg hc,if_neg hc,pE]
 rw[n];have f:cs (b-1) (a-2) (M+1) (up (up (up (up d)))) m=xr (List.range (M+1)) λc=>if co b a (c+1)=true then T c (T (a-2+(b-1)-c) (up (up (up (up d))))) m else 0:=by
  unfold cs;exact zj λc _=>by rw[IN]
 have two:cs b (a-1) (M+1) (up (up d)) m^^^cs (b-1) a (M+1) (up (up d)) m=(xr (List.range (M+1)) λc=>if co b a c=true then T c (T (a+b-1-c) (up (up d))) m else 0)^^^xr (List.range (M+1)) λc=>if co b a (c+1)=true then T c (T (a+b-1-c) (up (up d))) m else 0:=by
  unfold cs;rw[←lz,←lz];refine zj λc _=>?_
  rw[show a-1+b-(c:Int)=a+b-1-c by lia,show a+(b-1)-(c:Int)=a+b-1-c by lia,DB,DB,GJ (by lia)]
 rw[f,gY,←gY (cs b (a-1) _ _ _),two];simp only[gY]
theorem Qr:∀m:Row,Nn m->AD m:=Rs
 (λd a b N h i=>by
  by_cases a0:a<0
  ·rw[wf _ _ a0,vX (λx g=>absurd g (by simp)) _ a0]
  unfold cs;rw[kF,kF];by_cases b0:0<=b
  ·rw[uW (k:=0) (by lia) λc l=>by rw[kF,if_neg (show ¬ (c:Int)=0 by lia)];split<;>rfl,kF,kF];by_cases bz:b=0
   ·subst bz;rw[sM (by lia) (by lia)];simp
   ·rw[if_neg bz,if_neg (show ¬ a+b-((0:Nat):Int)=0 by lia)];simp
  ·lia)
 (λr j f d a b N h i=>by
  unfold cs;rw[uX,show(λu:Row=>T a d (u++[0]))=T a (λu=>d (u++[0])) from funext λu=>uX a d u,f _ a b N h i];unfold cs;refine zj λc _=>?_
  rw[uX,show(λu:Row=>T (a+b-c) d (u++[0]))=T (a+b-c) (λu=>d (u++[0])) from funext λu=>uX _ d u])
 (λr e j f=>IG (λx g=>by
  rcases dB.mp g with z|z
  ·exact j x z
  ·rw[em.mp z];lia) f)
noncomputable def jO(e:Int):List Int:=((List.range ((e/2).toNat+1)).filter λj:Nat=>decide ((e.toNat-j)&&&j=j)).map λj:Nat=>(j:Int)
def ed(e:Int):List Int:=(jO e).map λj=>e-j
def eA(m:Row):List Row:=m.foldl (λa e=>bn a (ed e)) [[]]
theorem vi(m:Row)(e:Int):eA (m++[e])=bn (eA m) (ed e):=by unfold eA;rw[lH];rfl
theorem tp(f:0<=e):j∈jO e↔0<=j/\j<=e/2/\(e.toNat-j.toNat)&&&j.toNat=j.toNat:=by
 unfold jO;simp only[bQ,dL,bB,lG];constructor
 ·rintro⟨a,⟨d,b⟩,rfl⟩;exact⟨by lia,by lia,b⟩
 ·rintro⟨d,b,c⟩;exact⟨j.toNat,⟨by lia,c⟩,by lia⟩
def hZ(e a:Int) (p:Pt):List Pt:=((jO e).filter λj=>decide (p.2-a<=j/\j<=p.2)).map λj=>(p.1++[e-j],p.2-j)
def km(e a:Int) (b:List Pt):List Pt:=b.flatMap (hZ e a)
def be(k M a:Int) (b:List Row):List Pt:=(b.filter λu=>decide (0<=k-(M-u.sum)/\k-(M-u.sum)<=a)).map λu=>(u,k-(M-u.sum))
theorem Q7{k M e rest:Int}(b:0<=e):∀rows:List Row,be k (M+e) rest (bn rows (ed e))=km e rest (be k M (e/2+rest) rows)
 |[]=>rfl
 |u::rows=>by
  have f:=Q7 (k:=k) (M:=M) (rest:=rest) b rows;have l:bn (u::rows) (ed e)=((ed e).map λx=>u++[x])++bn rows (ed e):=by simp[bn]
  have m:be k (M+e) rest (bn (u::rows) (ed e))=be k (M+e) rest ((ed e).map λx=>u++[x])++be k (M+e) rest (bn rows (ed e)):=by
   rw[l];unfold be;rw[kT,iU]
  have d:∀j:Int,k-(M+e-(u++[e-j]).sum)=k-(M-u.sum)-j:=λj=>by rw[iw];simp;lia
  have o:be k (M+e) rest ((ed e).map λx=>u++[x])=hZ e rest (u,k-(M-u.sum)):=by
   unfold be ed hZ;rw[eM,rA,eM];have i:(jO e).filter ((λr:Row=>decide (0<=k-(M+e-r.sum)/\k-(M+e-r.sum)<=rest)) ∘ ((λx=>u++[x]) ∘ λj:Int=>e-j))=(jO e).filter λj=>decide (k-(M-u.sum)-rest<=j/\j<=k-(M-u.sum)):=
    m3 λj _=>by
     show decide (0<=k-(M+e-(u++[e-j]).sum)/\k-(M+e-(u++[e-j]).sum)<=rest)=_;rw[d];exact oq.mpr ⟨λh=>by lia,λh=>by lia⟩
   rw[i];refine kb λj _=>?_
   show(u++[e-j],k-(M+e-(u++[e-j]).sum))=_;rw[d]
  rw[m,f,o];by_cases c:0<=k-(M-u.sum)/\k-(M-u.sum)<=e/2+rest
  ·have a:be k M (e/2+rest) (u::rows)=(u,k-(M-u.sum))::be k M (e/2+rest) rows:=by
    unfold be;rw[gS (by simpa using c)]
    rfl
   rw[a];simp[km]
  ·have a:be k M (e/2+rest) (u::rows)=be k M (e/2+rest) rows:=by
    unfold be;rw[g9 (by simpa using c)]
   have n:hZ e rest (u,k-(M-u.sum))=[]:=by
    unfold hZ;rw[Du.mpr λj g=>?_]
    ·rfl
    ·obtain⟨q,p,_⟩:=(tp b).mp g;simp only[lG];lia
   rw[a,n]
   rfl
def ao(r:Row):Int:=(r.map (· / 2)).sum
def dw(s:Int×List Pt) (e:Int):Int×List Pt:=(s.1-e/2,km e (s.1-e/2) s.2)
def mF(k:Int) (r:Row):List Row:=(r.foldl dw (ao r,[([],k)])).2.map (·.1)
theorem VI(a b:Row):ao (a++b)=ao a+ao b:=by unfold ao;rw[iU,iw]
theorem EZ{k:Int}(g:0<=k):∀(suf m:Row),(∀x∈suf,0<=x)->(suf.foldl dw (ao suf,be k m.sum (ao suf) (eA m))).2=be k (m++suf).sum 0 (eA (m++suf))
 |[],m,_=>by simp[ao]
 |e::suf,m,h=>by
  have c:=h e dk;have a:=EZ g suf (m++[e]) λx f=>h x (bT _ f)
  have d:ao (e::suf)=e/2+ao suf:=by simp[ao]
  rw[lE];have b:dw (ao (e::suf),be k m.sum (ao (e::suf)) (eA m)) e=(ao suf,be k (m++[e]).sum (ao suf) (eA (m++[e]))):=by
   unfold dw;rw[d,show e/2+ao suf-e/2=ao suf by lia,vi,iw,show m.sum+[e].sum=m.sum+e by simp,Q7 c]
  rw[b,a,eE]
  rfl
theorem Q6(I:r≠[])(h:∀x∈r,0<=x)(w:0<=k):mF k r=(eA r).filter λu=>decide (u.sum=r.sum-k):=by
 unfold mF;by_cases c:k<=ao r
 ·have e:=EZ w r [] h;have s:be k ([]:Row).sum (ao r) (eA [])=[([],k)]:=by
   show be k 0 (ao r) [[]]=_;unfold be;rw[gS (by simp;lia)];simp
  rw[s] at e;rw[e,ON];unfold be;rw[eM];have H:(eA r).filter (λu=>decide (0<=k-(r.sum-u.sum)/\k-(r.sum-u.sum)<=0))=(eA r).filter λu=>decide (u.sum=r.sum-k):=m3 λu _=>oq.mpr ⟨λh=>by lia,λh=>by lia⟩
  rw[H];exact yo _
 ·have e:=EZ w r [] h;have s:be k ([]:Row).sum (ao r) (eA [])=[]:=by
   show be k 0 (ao r) [[]]=_;unfold be;rw[g9 (by simp;lia)];simp
  rw[s] at e;have none:∀(suf:Row) (b:List Pt),(∀x∈suf,0<=x)->(∀p∈b,ao suf<p.2)->(suf.foldl dw (ao suf,b)).2.map (·.1)=([]:List Row)\/(suf=[]/\(suf.foldl dw (ao suf,b)).2=b):=λsuf=>by
   induction suf with
   |nil=>intro b _ _;exact .inr ⟨rfl,rfl⟩
   |cons e suf ih=>
    intro b t q
    left
    have G:=t e dk;have A:ao (e::suf)=e/2+ao suf:=by simp[ao]
    have:dw (ao (e::suf),b) e=(ao suf,[]):=by
     unfold dw;rw[A,show e/2+ao suf-e/2=ao suf by lia]
     congr 1
     unfold km;refine List.flatMap_eq_nil_iff.mpr λp o=>?_
     unfold hZ;have f:=q p o;rw[Du.mpr λj n=>?_]
     ·rfl
     ·obtain⟨l,C,_⟩:=(tp G).mp n;simp only[lG];lia
    rw[lE,this];rcases ih [] (λx y=>t x (bT _ y)) (by simp) with h|⟨f,l⟩
    ·exact h
    ·rw[l];rfl
  have m:∀(i:Nat),∀u∈eA (r.take i),(r.take i).sum-ao (r.take i)<=u.sum:=λi=>by
   induction i with
   |zero=>intro u a;rw[em.mp (show u∈[[]] from a)];simp[ao]
   |succ i ih=>
    by_cases ci:i<r.length
    ·have g:r[i]?=some r[i]:=bS ci;have E:=h r[i] (fZ ci);intro u a;rw[ze g,vi] at a;unfold bn ed at a;obtain⟨v,z,a⟩:=fr.mp a;rw[eM] at a;obtain⟨j,n,rfl⟩:=bQ.mp a;obtain⟨f,l,_⟩:=(tp E).mp n;have C:=ih v z;rw[ze g,VI];simp only[Function.comp,iw,fq,CK];have:ao [r[i]]=r[i]/2:=by simp[ao]
     lia
    ·rw[jD (by lia)] at ih ⊢;exact ih
  have d:(eA r).filter (λu=>decide (u.sum=r.sum-k))=[]:=Du.mpr λu a=>by
   have:=m r.length u (by rw[cX];exact a);rw[cX] at this;simp only[lG];lia
  rw[d];rcases none r [([],k)] h (λp q=>by rw[em.mp q];lia) with f|⟨f,l⟩
  ·exact f
  ·exact absurd f I
theorem AS{a:Type}[BEq a][LawfulBEq a]{l:List a}{x:a}(b:l.Nodup)(h:x∈l):l.count x=1:=by
 have c:l.count x<=1:=uj.mp b x;have d:0<l.count x:=rE.mpr h;lia
theorem Uv{e x:Int}(l:0<=e)(q:0<=x):(ed e).count x=(cz x.toNat).count e:=by
 have g:(ed e).Nodup:=by
  unfold ed jO;rw[eM];refine O0 _ ?_ ((pK).filter _);intro a b i m;simp only[Function.comp] at m;lia
 have k:(cz x.toNat).Nodup:=by
  unfold cz aj dm;refine O0 _ ?_ ((pK).filter _);intro a b i m;lia
 have d:x∈ed e↔e∈cz x.toNat:=by
  unfold ed cz;simp only[bQ];constructor
  ·rintro⟨j,f,rfl⟩;obtain⟨n,p,o⟩:=(tp l).mp f;refine⟨j.toNat,py.mpr ⟨?_,by lia,by lia⟩,by lia⟩;rw[show(e-j).toNat=e.toNat-j.toNat by lia];exact o
  ·rintro⟨j,f,h⟩;obtain⟨n,p,o⟩:=py.mp f;refine⟨(j:Int),(tp l).mpr ⟨by lia,by lia,?_⟩,by lia⟩;rw[show e.toNat-(j:Int).toNat=x.toNat by lia,j9];exact n
 by_cases c:x∈ed e
 ·rw[AS g c,AS k (d.mp c)]
 ·rw[ka.mpr c,ka.mpr λz=>c (d.mpr z)]
theorem L7(r:Row)(i:Nat):∀m∈eA (r.take i),m.length=(r.take i).length:=by
 induction i with
 |zero=>intro m a;rw[em.mp (show m∈[[]] from a)];rfl
 |succ i ih=>
  by_cases c:i<r.length
  ·have g:r[i]?=some r[i]:=bS c;intro m a;rw[ze g,vi] at a;unfold bn at a;obtain⟨v,b,a⟩:=fr.mp a;obtain⟨x,_,rfl⟩:=bQ.mp a;rw[ze g,cJ,cJ,ih v b]
   rfl
  ·rw[jD (by lia)] at ih ⊢;exact ih
theorem WY{q p:Row}(f:q.length=p.length)(c:∀x∈q,0<=x)(d:∀x∈p,0<=x):∀i,i<=q.length->(eA (q.take i)).count (p.take i)=(bw (p.take i)).count (q.take i):=λi=>by
 induction i with
 |zero=>intro _;rfl
 |succ i ih=>
  intro e;have a:q[i]?=some q[i]:=bS (by lia);have b:p[i]?=some (p[i]'(by lia)):=bS (by lia);rw[ze a,ze b,vi,tR];unfold bF;rw[Ch,Ch,ih (by lia),Uv (c _ (fZ _)) (d _ (fZ _))]
theorem NT{p:Row}(i:q≠[])(b:q.length=p.length)(e:∀x∈q,0<=x)(d:∀x∈p,0<=x)(f:0<=k):(mF k q).count p=(bH k p).count q:=by
 rw[Q6 i e f,tO d f];have a:=WY b e d q.length (bj _);rw[cX,b,cX] at a;by_cases c:p.sum=q.sum-k
 ·rw[List.count_filter (by simpa using c),List.count_filter (by simp;lia),a]
 ·have h:((eA q).filter λu=>decide (u.sum=q.sum-k)).count p=0:=ka.mpr λz=>c (by simpa using (dL.mp z).2)
  have g:((bw p).filter λm=>decide (m.sum=p.sum+k)).count q=0:=ka.mpr λz=>c (by have:=(dL.mp z).2;simp at this;lia)
  rw[h,g]
def k8(k:Int) (l:List Row):List Row:=l.flatMap (mF k)
def Rows(n:Nat) (l:List Row):Prop:=∀r∈l,r.length=n/\∀x∈r,0<=x
theorem Rows.low(o:n≠0)(h:Rows n l) (t:0<=k):Rows n (k8 k l):=λm a=>by
 unfold k8 at a;obtain⟨r,b,a⟩:=fr.mp a;rw[Q6 (λz=>by subst z;exact o (h [] b).1.symm) (h r b).2 t] at a;have a:=(dL.mp a).1;have e:=L7 r r.length m (by rw[cX];exact a);rw[cX] at e;refine⟨by rw[e,(h r b).1],λx s=>?_⟩;have d:∀i:Nat,∀m∈eA (r.take i),∀x∈m,0<=x:=λi=>by
  induction i with
  |zero=>intro m a;rw[em.mp (show m∈[[]] from a)];simp
  |succ i ih=>
   by_cases c:i<r.length
   ·have g:r[i]?=some r[i]:=bS c;have q:=(h r b).2 r[i] (fZ c);intro m a;rw[ze g,vi] at a;unfold bn ed at a;obtain⟨v,p,a⟩:=fr.mp a;rw[eM] at a;obtain⟨j,f,rfl⟩:=bQ.mp a;obtain⟨w,u,_⟩:=(tp q).mp f;exact L8 (ih v p) (by simp only[Function.comp];lia)
   ·rw[jD (by lia)] at ih ⊢;exact ih
 exact d r.length m (by rw[cX];exact a) x s
theorem VR{a:List Pt}(E:e<=1000)(G:a.length*(e+1)<=100000)(m:∀p∈a,p.1.length<=1000/\0<=p.2)
  (k:∀z r q g,I [a0,a1,a2,a3,some (.lst ((dF e a).map i7)),some (.int e),z,r,q] (au++g)):
  WP (FE [a0,a1,a2,a3,some (.lst (a.map i7)),some (.int e),v6,v7,v8] au) (f9 I Q):=by
 unfold FE;simp only[W,V,Dd.N];refine⟨small _ (by simp),?_⟩;refine gX (λi b s=>(∃v w,b=[a0,a1,a2,a3,some (.lst (a.map i7)),some (.int e),some (.ref au.length),v,w])/\s=au++[.lst ((dF e (a.take i)).map i7)]) ⟨⟨_,_,rfl⟩,rfl⟩ ?_ ?_
 ·rintro i y b s o ⟨⟨v,w,rfl⟩,rfl⟩;obtain⟨p,c,rfl⟩:=sS o;have n:i<a.length:=(cU.mp c).1;obtain⟨d,u⟩:=m p (dY c);refine⟨_,rfl,?_⟩;have f:(dF e (a.take i)).length+(e+1)<=100000:=by
   have t:=EE e (a.take i);have l:(a.take i).length=i:=by rw[gw];lia
   rw[l] at t;have d:(i+1)*(e+1)<=a.length*(e+1):=lI _ n;rw[rk] at d;lia
  have C:=QW e p;unfold TH;simp only[W,V,L,Fa];refine⟨_,_,rfl,by simp;rfl,_,rfl,iz (by split<;>lia) (by split<;>lia),by rw[kP];exact small _ (by split<;>lia),?_⟩;unfold rng;refine sQ (as:=List.range ((if p.2<(e:Int) then p.2 else(e:Int))+1).toNat) (λb=>∃v,b=[v,some (aL p.1),some (.int p.2),some (.int e)]) (λx=>decide (e&&&x=x)) (λj:Nat=>i7 (p.1++[(e:Int)+(j:Int)],p.2-(j:Int))) (λi=>.int (0+(i:Int))) ⟨_,rfl⟩ ?_ ?_
  ·rintro j A b ⟨v,rfl⟩;refine⟨_,rfl,⟨_,rfl⟩,?_,λ_=>?_⟩
   ·simp only[W,V];rw[l8,K07.Sx];refine⟨trivial,trivial,?_⟩;exact oq.mpr ⟨λh=>by lia,λh=>by lia⟩
   ·simp only[W,V,Dd.N];rw[l8];refine⟨small _ (by simp),by rw[bh];exact small _ (by simp;lia),small _ (by simp),?_⟩;simp[i7,aL]
  ·rw[SQ u];refine⟨_,_,_,rfl,by simp;rfl,rfl,?_,⟨_,_,rfl⟩,?_⟩
   ·rw[bh,bh];have:(aj e 0 p.2).length<=e+1:=vd _ _ _ _;exact small _ (by lia)
   ·rw[ze c,NN];unfold gE;simp[eM,Function.comp_def]
 ·rintro b s ⟨⟨v,w,rfl⟩,rfl⟩;rw[bh,cX];simp only[W,V,M,Dd.N,L];refine⟨_,_,rfl,by simp;rfl,?_⟩;have:=k (some (.ref au.length)) v w [.dead]
  simpa using this
theorem Hf(a:Row)(b:List Row):i8 neg (aL a) (aK b) au=.ok (.bl (if neg then !decide (a∈b) else decide (a∈b))) au:=by
 unfold i8;rw[QN,Ez];dsimp only;rw[if_pos ⟨S8 a,Cs b⟩];have e:((b.map bU).any λy=>PyData.eqv y (bU a))=decide (a∈b):=by
  rw[List.any_map,kR,C1,uf];constructor
  ·rintro⟨x,c,h⟩;have h:PyData.eqv (bU x) (bU a)=true:=h;rw[uZ] at h;have:=gP h;subst this;exact c
  ·intro h;refine⟨a,h,?_⟩;show PyData.eqv (bU a) (bU a)=true;rw[uZ];simp
 rw[e]
theorem Mn(d:eG x=some (aJ l))(b:gr l)(k:∀g,Q (aK (aO l)) (au++g)):WP (tK [x] au) Q:=by
 refine gM rfl ?_;simp only[W,V];refine⟨_,d,?_⟩;refine gX (λi a s=>(∃v,a=[some x,some (.ref au.length),v])/\s=au++[.dT (aQ (aN (l.take i)))]) ⟨⟨_,rfl⟩,rfl⟩ ?_ ?_
 ·rintro i y a s e ⟨⟨v,rfl⟩,rfl⟩;obtain⟨r,c,rfl⟩:=jk e;refine⟨_,rfl,?_⟩;unfold Fz;simp only[W,V,L];refine D5 (ks:=aN (l.take i)) (by simp) (b.sub λz f=>me f).odd ⟨⟨_,rfl⟩,?_⟩;rw[ze c];unfold aN;rw[lH];simp
 ·rintro a s ⟨⟨v,rfl⟩,rfl⟩;rw[zc,cX];simp only[W,V];refine E5 (ks:=aN l) (by simp) b.odd ?_;simp only[W,V];exact k _
theorem kf(h:n<=16000000):n<=sizeLine:=by rw[l6];lia
theorem Nf{b a:List Row}(c:b.length+a.length<=16000000)(d:gr (b++a))(k:∀g,Q (aK (aO (b++a))) (au++g)):WP (ny [aK b,aK a] au) Q:=by
 refine gM rfl ?_;simp only[W,V];refine⟨by rw[zc,zc];exact kf c,?_⟩;exact Mn (l:=b++a) (by simp[eG,aJ]) d k
theorem UI(t:Int)(l:List Row)(i:Nat):∀x∈af t (l.take i),x∈af t l:=λx a=>by
 obtain⟨r,b,a⟩:=fr.mp a;exact fr.mpr ⟨r,me b,a⟩
theorem UK(C:0<=t)(u:∀r∈l,∀x∈r,0<=x/\x<=1000)(p:∀r∈l,r.length<=1000)(o:∀r∈l,dM r<=20000)(n:gr (af t l))(k:∀g,Q (aK (aO (af t l))) (au++g)):WP (tf [aK l,.int t] au) Q:=by
 refine gM rfl ?_;simp only[W,V,Dd.N];refine WP.of (Fj (au:=au) (i:=t)) ⟨true,rfl,?_⟩;have A:¬ t<0:=by lia
 simp only[W,V,Dd.N,A,pD];refine gX (λi a s=>(∃v w,a=[some (aK l),some (.int t),some (.ref au.length),v,w])/\∃g,s=au++(.dT (aQ (aN (af t (l.take i))))::g)) ⟨⟨_,_,rfl⟩,[],rfl⟩ ?_ ?_
 ·rintro i y a s h ⟨⟨v,w,rfl⟩,g,rfl⟩;obtain⟨r,d,rfl⟩:=jk h;have f:=dY d;refine⟨_,rfl,?_⟩;unfold SY;simp only[W,V,M,Dd.N,L];refine⟨r,qz r,?_⟩;rw[ze d,Tg];split
  ·rename_i c;have e:bH t r=f7 r t:=by unfold bH;rw[if_pos c]
   rw[e];refine Wb (u r f) (p r f) (o r f) λq=>?_
   simp only[W,V,Dd.N];rw[eE,ub];generalize g++q=g3;refine gX (λj a s=>(∃w,a=[some (aK l),some (.int t),some (.ref au.length),some (aL r),w])/\s=au++(.dT (aQ (aN (af t (l.take i)++(f7 r t).take j)))::g3)) ⟨⟨_,rfl⟩,by rw[CW,jy]⟩ ?_ ?_
   ·rintro j y a s h ⟨⟨w,rfl⟩,rfl⟩;obtain⟨b,m,rfl⟩:=jk h;refine⟨_,rfl,?_⟩;unfold SX;simp only[W,V,L];refine D5 (ks:=aN (af t (l.take i)++(f7 r t).take j)) (nB _ _) (n.sub λz hz=>?_).odd ⟨⟨_,rfl⟩,?_⟩
    ·rcases dB.mp hz with hz|hz
     ·exact UI t l i z hz
     ·exact fr.mpr ⟨r,f,by rw[e];exact me hz⟩
    ·rw[sX,ze m,←eE];unfold aN;rw[lH (l':=[b])]
     rfl
   ·rintro a s ⟨⟨w,rfl⟩,rfl⟩;simp only[L];refine⟨⟨_,_,rfl⟩,g3,?_⟩;rw[zc,cX]
  ·rename_i c;have e:bH t r=[]:=by unfold bH;rw[if_neg c]
   rw[e,jy]
   try simp only[L]
   exact⟨⟨_,_,rfl⟩,g,rfl⟩
 ·rintro a s ⟨⟨v,w,rfl⟩,g,rfl⟩;rw[zc,cX];simp only[W,V];refine E5 (ks:=aN (af t l)) (nB _ _) n.odd ?_;simp only[W,V];exact k _
def Ge:Row->Row->Prop
 |[],[]=>True
 |p::ps,v::vs=>p<=v/\Ge ps vs
 |_,_=>False
theorem Ge.refl:∀p:Row,Ge p p
 |[]=>trivial
 |p::ps=>⟨CD _,Ge.refl ps⟩
theorem Ge.trans:∀{a b c:Row},Ge a b->Ge b c->Ge a c
 |[],[],[],_,_=>trivial
 |_::_,_::_,_::_,h1,h2=>⟨yr h1.1 h2.1,Ge.trans h1.2 h2.2⟩
theorem Ge.len:∀{a b:Row},Ge a b->b.length=a.length
 |[],[],_=>rfl
 |_::_,_::_,h=>by rw[dh,dh,Ge.len h.2]
theorem Ge.append:∀{a b c d:Row},Ge a b->Ge c d->Ge (a++c) (b++d)
 |[],[],_,_,_,h=>h
 |_::_,_::_,_,_,h1,h2=>⟨h1.1,Ge.append h1.2 h2⟩
theorem Ge.sum:∀{a b:Row},Ge a b->a.sum<=b.sum
 |[],[],_=>CD _
 |_::_,_::_,h=>by
  have:=Ge.sum h.2;have:=h.1;rw[fq,fq];lia
theorem Ge.pos:∀{a b:Row},Ge a b->(∀x∈a,0<=x)->∀x∈b,0<=x
 |[],[],_,h,x,hx=>h x hx
 |p::a,v::b,h,ha,x,hx=>by
  rcases bZ.mp hx with rfl|hx
  ·have:=ha p dk;have:=h.1;lia
  ·exact Ge.pos h.2 (λy c=>ha y (bT _ c)) x hx
def oF:Row->Nat->List Row
 |[],_=>[[]]
 |p::ps,K=>(List.range (K+1)).flatMap λj:Nat=>(oF ps (K-j)).map ((p+(j:Int))::·)
noncomputable def jq:Nat->Nat->Nat
 |0,_=>1
 |n+1,K=>((List.range (K+1)).map λj=>jq n j).sum
noncomputable def acc:Nat->List Nat->List Nat
 |_,[]=>[]
 |s,a::l=>(s+a)::acc (s+a) l
def tb:Nat->List Nat
 |0=>List.replicate 17 1
 |n+1=>acc 0 (tb n)
def sk(n K:Nat):Nat:=(tb n).getD K 0
theorem wZ:∀{l:List Nat}{s i:Nat},i<l.length->(acc s l)[i]?=some (s+(l.take (i+1)).sum)
 |[],_,_,h=>by simp at h
 |a::l,s,0,_=>by simp[acc]
 |a::l,s,i+1,h=>by
  have:=wZ (l:=l) (s:=s+a) (i:=i) (by simpa using h);unfold acc;rw[yT,this,List.take_succ_cons,fq,CT]
theorem w4:∀(l:List Nat) (s:Nat),(acc s l).length=l.length
 |[],_=>rfl
 |a::l,s=>by unfold acc;rw[dh,dh,w4 l]
theorem rc:∀n,(tb n).length=17
 |0=>rfl
 |n+1=>by unfold tb;rw[w4,rc n]
theorem wR:∀n:Nat,tb n=(List.range 17).map (jq n)
 |0=>rfl
 |n+1=>by
  apply ue;intro i;by_cases h:i<17
  ·have e:=wZ (l:=tb n) (s:=0) (i:=i) (by rw[rc];exact h);unfold tb;rw[e,wR n,fK,Dl h,←List.map_take,List.take_range,j6 (by lia),iT]
   rfl
  ·rw[oD (by rw[rc];lia),oD (by simp;lia)]
theorem uA{K:Nat}(h:K<17):sk n K=jq n K:=by
 unfold sk;rw[wR,cK,fK,Dl h]
 rfl
theorem M3(f:Nat->Nat):∀K:Nat,((List.range (K+1)).map λj=>f (K-j)).sum=((List.range (K+1)).map f).sum:=λK=>by
 have e:((List.range (K+1)).map λj=>f (K-j))=((List.range (K+1)).map f).reverse:=by
  apply yG
  ·simp
  ·intro i a b;simp at a b ⊢
 rw[e,List.sum_reverse]
theorem EC{b c:Type}(f:b->List c):∀l:List b,(l.flatMap f).length=(l.map λa=>(f a).length).sum
 |[]=>rfl
 |a::l=>by rw[yI,cJ,EC f l,ce,fq]
theorem Er:∀(p:Row) (K:Nat),(oF p K).length=jq p.length K
 |[],_=>rfl
 |p::ps,K=>by
  show((List.range (K+1)).flatMap λj:Nat=>(oF ps (K-j)).map ((p+(j:Int))::·)).length=((List.range (K+1)).map λj=>jq ps.length j).sum;rw[EC,←M3 (jq ps.length)]
  congr 1
  refine kb λj _=>?_
  rw[bh,Er ps]
theorem uS:∀{p v:Row}{K:Nat},Ge p v->v.sum<=p.sum+K->v∈oF p K
 |[],[],K,_,_=>by simp[oF]
 |p::ps,v::vs,K,h,hs=>by
  have a:=h.1;have b:=h.2.sum;rw[fq,fq] at hs;refine fr.mpr ⟨(v-p).toNat,bB.mpr (by lia),bQ.mpr ⟨vs,uS h.2 (by lia),?_⟩⟩;rw[show p+((v-p).toNat:Int)=v by lia]
theorem sP:∀{p v:Row}{K:Nat},v∈oF p K->Ge p v/\v.sum<=p.sum+K
 |[],v,K,h=>by
  simp[oF] at h;subst h;exact⟨trivial,by simp⟩
 |p::ps,v,K,h=>by
  obtain⟨j,a,h⟩:=fr.mp h;obtain⟨w,c,rfl⟩:=bQ.mp h;obtain⟨b,d⟩:=sP c;have a:=bB.mp a;refine⟨⟨by lia,b⟩,?_⟩;rw[fq,fq];lia
theorem Nb(r:Row):∀x∈bw r,Ge r x:=by
 have:=E9 (P:=λm s=>∀x∈s,Ge m x) (by simp;exact trivial) (λm e s d=>?_) r r.length
 ·rw[cX] at this;exact this
 ·intro x a;unfold bF bn at a;obtain⟨b,f,a⟩:=fr.mp a;obtain⟨y,c,rfl⟩:=bQ.mp a;have:=(Mo c).1;exact(d b f).append ⟨by lia,trivial⟩
theorem Rl(h:∀y∈r,0<=y)(b:0<=k)(a:x∈bH k r):Ge r x/\x.sum=r.sum+k:=by
 rw[tO h b] at a;obtain⟨c,d⟩:=dL.mp a;exact⟨Nb r x c,by simpa using d⟩
theorem KE(e:Nat)(lo a:Int)(n:Nat):(dm e lo a n).Nodup:=Do _ pK
theorem J8(e:Nat):(cz e).Nodup:=by
 unfold cz;rw[rO,C6];have:=KE e 0 e (e+1);rw[rO] at this;exact this.imp λh=>by lia
theorem JH{c:List Row}{xs:List Int}(i:c.Nodup)(d:xs.Nodup):(bn c xs).Nodup:=by
 rw[uj];intro x;rcases List.eq_nil_or_concat x with rfl|⟨a,b,rfl⟩
 ·have:[]∉bn c xs:=λh=>by
   unfold bn at h;obtain⟨g,_,h⟩:=fr.mp h;obtain⟨y,_,h⟩:=bQ.mp h;simp at h
  rw[ka.mpr this];lia
 ·rw[List.concat_eq_append,Ch];have e:=uj.mp i a;have f:=uj.mp d b;exact ax (Nat.mul_le_mul e f) (by decide)
theorem Nc(r:Row):(bw r).Nodup:=by
 have:=E9 (P:=λm s=>s.Nodup) (by simp) (λm e s a=>JH a (J8 _)) r r.length
 rwa [cX] at this
theorem Og{k:Nat}(h:∀y∈r,0<=y):(bH (k:Int) r).length<=jq r.length k:=by
 rw[←Er];refine pY ?_ λx b=>?_
 ·rw[tO h (by lia)];exact(Nc r).filter _
 ·obtain⟨a,c⟩:=Rl h (by lia) b;exact uS a (by lia)
theorem xp:∀e:Nat,3*((e+1)*2^e)<=4*3^e
 |0=>by decide
 |1=>by decide
 |e+2=>by
  have a:=xp (e+1);rw[tV 2 (e+1),tV 3 (e+1)];have h:(e+2+1)*(2^(e+1)*2)<=((e+1+1)*2^(e+1))*3:=by
   rw[CH (2^(e+1)) 2,←tX,CH ((e+1+1)*2^(e+1)) 3,←tX];exact lI _ (by lia)
  lia
theorem DZ:∀{r:Row},(∀x∈r,0<=x)->3^r.length*(dM r*2^r.sum.toNat)<=4^r.length*3^r.sum.toNat
 |[],_=>by simp[dM]
 |e::r,h=>by
  have k:=h e dk;have a:=λx f=>h x (bT e f)
  have b:=DZ a;have j:=lS a;have i:=xp e.toNat;have c:(e::r).sum.toNat=e.toNat+r.sum.toNat:=by rw[fq];lia
  rw[c,Nat.pow_add,Nat.pow_add,dh,tV,tV];show 3^r.length*3*((e.toNat+1)*dM r*(2^e.toNat*2^r.sum.toNat))<=4^r.length*4*(3^e.toNat*3^r.sum.toNat)
  have m:=Nat.mul_le_mul b i;have d:3^r.length*3*((e.toNat+1)*dM r*(2^e.toNat*2^r.sum.toNat))=3^r.length*(dM r*2^r.sum.toNat)*(3*((e.toNat+1)*2^e.toNat)):=by
   simp only[tX,CH,Nat.mul_left_comm]
  have g:4^r.length*4*(3^e.toNat*3^r.sum.toNat)=4^r.length*3^r.sum.toNat*(4*3^e.toNat):=by
   simp only[tX,CH,Nat.mul_left_comm]
  rw[d,g];exact m
theorem LH:(List.range 11).all (λn=>(List.range 18).all λs=>Nat.blt (4^n*3^s) (3^n*(20001*2^s)))=true:=by decide +kernel
theorem v3{r:Row}(f:r.length<=10)(h:∀x∈r,0<=x)(e:r.sum<=17):dM r<=20000:=by
 have c:=DZ h;have a:=cZ.mp (cZ.mp LH r.length (bB.mpr (by lia))) r.sum.toNat (bB.mpr (by lia));have a:4^r.length*3^r.sum.toNat<3^r.length*(20001*2^r.sum.toNat):=Nat.blt_eq.mp a;have b:=iZ c a;have d:=TU b;have g:=TV d;lia
theorem Uq:(List.range 32).all (λa=>(List.range 32).all λb=>Nat.ble ((a+1)*((b+1)*(31-a-b+1))) 20000)=true:=by decide +kernel
theorem Fi(h:a+b+c<=31):(a+1)*((b+1)*(c+1))<=20000:=by
 have d:=cZ.mp (cZ.mp Uq a (bB.mpr (by lia))) b (bB.mpr (by lia));have d:(a+1)*((b+1)*(31-a-b+1))<=20000:=ri.mp d;exact ax (Nat.mul_le_mul_left _ (Nat.mul_le_mul_left _ (by lia))) d
theorem v9:∀{r:Row},r.length<=3->(∀x∈r,0<=x)->r.sum<=31->dM r<=20000
 |[],_,_,_=>by simp[dM]
 |[a],_,h,s=>by
  have:=Fi (a:=a.toNat) (b:=0) (c:=0) (by simp at s;lia)
  simpa [dM] using this
 |[a,b],_,h,s=>by
  have d:=h a (by simp);have e:=h b (by simp);have:=Fi (a:=a.toNat) (b:=b.toNat) (c:=0) (by simp at s;lia)
  simpa [dM] using this
 |[a,b,c],_,h,s=>by
  have d:=h a (by simp);have e:=h b (by simp);have f:=h c (by simp);have:=Fi (a:=a.toNat) (b:=b.toNat) (c:=c.toNat) (by simp at s;lia)
  simpa [dM] using this
 |_::_::_::_::_,h,_,_=>by simp at h
structure KX (n K:Nat) (some:List Row):Prop where
 rows:Rows n some
 big:(n<=3/\K<=16/\some.length<=40/\∀p∈some,p.sum+K<=32)\/(n<=10/\K<=8/\some.length<=12/\∀p∈some,p.sum+K<=18)
def UU(some:List Row) (T:Nat):List Row:=some.flatMap λp=>oF p T
theorem Bw{some:List Row}{T S:Nat}(h:T<=S){x:Row}(a:x∈UU some T):x∈UU some S:=by
 obtain⟨p,c,a⟩:=fr.mp a;obtain⟨b,d⟩:=sP a;exact fr.mpr ⟨p,c,uS b (by lia)⟩
theorem wX{some:List Row}{x:Row}(h:x∈some):x∈UU some 0:=fr.mpr ⟨x,h,uS (Ge.refl x) (by lia)⟩
theorem qM{n:Nat}{some:List Row}(h:Rows n some)(T:Nat):(UU some T).length=some.length*jq n T:=by
 unfold UU;rw[EC];have:∀l:List Row,Rows n l->(l.map λp=>(oF p T).length).sum=l.length*jq n T:=λl=>by
  induction l with
  |nil=>intro _;simp
  |cons a l ih=>
   intro h;rw[ce,fq,ih λr b=>h r (bT _ b),Er,(h a dk).1,dh,rk];lia
 exact this some h
theorem tm{n:Nat}{some l:List Row}{T k:Nat}(h:Rows n some)(f:∀x∈l,x∈UU some T){x:Row}(a:x∈af (k:Int) l):x∈UU some (T+k):=by
 obtain⟨r,d,a⟩:=fr.mp a;obtain⟨p,b,e⟩:=fr.mp (f r d);obtain⟨c,i⟩:=sP e;obtain⟨g,j⟩:=Rl (c.pos (h p b).2) (by lia) a;exact fr.mpr ⟨p,b,uS (c.trans g) (by lia)⟩
theorem K6:(List.range 4).all (λn=>(List.range 17).all λT=>Nat.ble (40*sk n T) 600000)=true:=by decide +kernel
theorem No:(List.range 11).all (λn=>(List.range 9).all λT=>Nat.ble (12*sk n T) 600000)=true:=by decide +kernel
section
variable {n:Nat}{K:Nat}{some:List Row}
theorem KX.top(h:KX n K some){T:Nat}(e:T<=K):(UU some T).length<=600000:=by
 rw[qM h.rows];rcases h.big with⟨c,b,a,d⟩|⟨c,b,a,d⟩
 ·have:=ri.mp (cZ.mp (cZ.mp K6 n (bB.mpr (by lia))) T (bB.mpr (by lia)));rw[uA (by lia)] at this;exact ax (lI _ a) this
 ·have:=ri.mp (cZ.mp (cZ.mp No n (bB.mpr (by lia))) T (bB.mpr (by lia)));rw[uA (by lia)] at this;exact ax (lI _ a) this
theorem KX.few(h:KX n K some){T:Nat}(a:T<=K){l:List Row}(b:∀x∈l,x∈UU some T):gr l:=gr.of b (by have:=h.top a;lia)
theorem KX.len(h:KX n K some){T:Nat}(a:T<=K){l:List Row}(c:l.Nodup)(d:∀x∈l,x∈UU some T):l.length<=600000:=ax (pY c λx b=>d x b) (h.top a)
theorem KX.item(h:KX n K some){T:Nat}(o:T<K){x:Row}(k:x∈UU some T):x.length=n/\(∀y∈x,0<=y/\y<=1000)/\dM x<=20000:=by
 obtain⟨p,d,j⟩:=fr.mp k;obtain⟨f,m⟩:=sP j;have a:=f.pos (h.rows p d).2;have b:=f.len.trans (h.rows p d).1;rcases h.big with⟨g,i,l,e⟩|⟨g,i,l,e⟩
 ·have:=e p d;refine⟨b,λy c=>⟨a y c,?_⟩,v9 (by lia) a (by lia)⟩;have:=nO a y c;lia
 ·have:=e p d;refine⟨b,λy c=>⟨a y c,?_⟩,v3 (by lia) a (by lia)⟩;have:=nO a y c;lia
end
theorem Sa:∀{l:List Row},(∀r∈l,(bH k r).length<=B)->(af k l).length<=l.length*B
 |[],_=>by simp[af]
 |a::l,h=>by
  have e:=h a dk;have d:=Sa (l:=l) λb c=>h b (bT _ c)
  unfold af at d ⊢;rw[yI,cJ,dh,rk];lia
section
variable {au:aa}{Q:D->aa->Prop}{n:Nat}{K:Nat}{some:List Row}
theorem UJ(h:KX n K some){T k:Nat}(f:1<=k)(d:T+k<=K){l:List Row}(c:∀x∈l,x∈UU some T)(q:∀g,Q (aK (aO (af (k:Int) l))) (au++g)):WP (tf [aK l,.int (k:Int)] au) Q:=
 UK (by lia) (λr a=>(h.item (by lia) (c r a)).2.1) (λr a=>by rw[(h.item (by lia) (c r a)).1];rcases h.big with b|b<;>lia) (λr a=>(h.item (by lia) (c r a)).2.2) (h.few d λx e=>tm h.rows c e) q
end
def R(a:Row) (l:List Row):List Row:=a.foldr af l
def ak(a l:List Row):List Row:=a.flatMap λb=>R b l
theorem Gv(a:Row)(k:Int)(l:List Row):R (a++[k]) l=R a (af k l):=by unfold R;rw[List.foldr_append];rfl
theorem vE:∀(c:Row) {a b:List Row},(∀x,a.count x%2=b.count x%2)->∀x,(R c a).count x%2=(R c b).count x%2
 |[],_,_,h=>h
 |k::c,_,_,h=>Sb k (vE c h)
theorem vU:∀a:Row,R a []=[]
 |[]=>rfl
 |k::a=>by show af k (R a [])=[];rw[vU a];rfl
theorem Nx(b:List Row):ak b []=[]:=by
 unfold ak
 induction b with
 |nil=>rfl
 |cons a b ih=>rw[yI,vU,ih];rfl
theorem EO{b:Type}:∀l:List b,di l (λ_=>0)=0
 |[]=>rfl
 |a::l=>by rw[iR,EO l]
theorem yd(c:Nat):∀{b:List Int},b.Nodup->k∈b->di b (λj=>if k=j then c else 0)=c
 |[],_,h=>by cases h
 |j::b,nd,h=>by
  have f:=gZ.mp nd;rw[iR];by_cases e:k=j
  ·subst e;have:di b (λj=>if k=j then c else 0)=0:=by
    rw[Sk (d:=λ_=>0) λa g=>if_neg λz:k=a=>f.1 (z ▸ g),EO]
   rw[if_pos rfl,this];lia
  ·rcases bZ.mp h with h|h
   ·exact absurd h e
   ·rw[if_neg e,yd c f.2 h];lia
theorem Rv{g:Type}(d:g->Int)(c:g->Nat){f:List Int}(i:f.Nodup):∀{L:List g},(∀a∈L,d a∈f)->di L c=di f λk=>di (L.filter λa=>decide (d a=k)) c
 |[],_=>(EO f).symm
 |a::L,h=>by
  have j:=Rv d c i (L:=L) λb l=>h b (bT _ l)
  have e:(λk=>di ((a::L).filter λb=>decide (d b=k)) c)=λk=>(if d a=k then c a else 0)+di (L.filter λb=>decide (d b=k)) c:=funext λk=>by
   by_cases q:d a=k
   ·rw[gS (by simpa using q),iR,if_pos q]
   ·rw[g9 (by simpa using q),if_neg q,iT]
  rw[iR,e,yc,yd (c a) i (h a dk),j]
theorem Sl{b:Type}(p:b->Bool)(c:b->Nat):∀L:List b,di L c=di (L.filter p) c+di (L.filter λa=>!p a) c
 |[]=>rfl
 |a::L=>by
  rw[iR,Sl p c L];by_cases q:p a=true
  ·rw[gS q,g9 (by rw[q];decide),iR];lia
  ·rw[g9 q,gS (by simpa using q),iR];lia
abbrev cA(r:Row):Bool:=!r.isEmpty
abbrev bD(r:Row):Int:=r.getLastD 0
def dz(a:List Row):List Int:=sortI (hD ((a.filter cA).map bD))
def ahead(k:Int) (a:List Row):List Row:=(a.filter λr=>cA r&&decide (bD r=k)).map List.dropLast
theorem LU(a:List Row):(dz a).Nodup:=(Ff _).nodup_iff.mpr (BG _)
theorem Ca:k∈dz b↔∃r∈b,r≠[]/\bD r=k:=by
 unfold dz;rw[(Ff _).mem_iff,u9,bQ];constructor
 ·rintro⟨r,h,e⟩;obtain⟨c,d⟩:=dL.mp h;exact⟨r,c,by rintro rfl;simp[cA] at d,e⟩
 ·rintro⟨r,c,d,e⟩;exact⟨r,dL.mpr ⟨c,by cases r with|nil=>exact absurd rfl d|cons a r=>rfl⟩,e⟩
theorem vb(h:r≠[]):r.dropLast++[bD r]=r:=by
 have:bD r=r.getLast h:=by
  unfold bD;rw[List.getLastD_eq_getLast?,List.getLast?_eq_some_getLast h]
  rfl
 rw[this];exact List.dropLast_concat_getLast h
theorem Uy{c:List Row}(f:c.Nodup):c.filter (λr=>!cA r)=if[]∈c then[[]] else[]:=by
 induction c with
 |nil=>rfl
 |cons a c ih=>
  have d:=gZ.mp f;cases a with
  |nil=>
   rw[gS rfl,ih d.2,if_neg d.1,if_pos dk]
  |cons b a=>
   rw[g9 (by simp[cA]),ih d.2];have e:([]∈(b::a)::c)=([]∈c):=by simp
   simp only[e]
theorem Uw{b:List Row}(g:b.Nodup)(x:Row):(ak b l).count x%2=((if[]∈b then l else[])++(dz b).flatMap λk=>ak (ahead k b) (aO (af k l))).count x%2:=by
 unfold ak;rw[qA,Sl cA (λr=>(R r l).count x),Uy g,j8,qA];have h:di (if[]∈b then[([]:Row)] else[]) (λr=>(R r l).count x)=(if[]∈b then l else[]).count x:=by
  split
  ·rw[iR,KH];rfl
  ·rfl
 have j:di (b.filter cA) (λr=>(R r l).count x)=di (dz b) λk=>di ((b.filter cA).filter λr=>decide (bD r=k)) λr=>(R r l).count x:=Rv bD _ (LU b) λr d=>by
  obtain⟨f,c⟩:=dL.mp d;exact Ca.mpr ⟨r,f,by rintro rfl;simp[cA] at c,rfl⟩
 have p:(di (dz b) λk=>di ((b.filter cA).filter λr=>decide (bD r=k)) λr=>(R r l).count x)%2=(di (dz b) λk=>((ahead k b).flatMap λe=>R e (aO (af k l))).count x)%2:=Eo λk o=>by
  rw[qA];unfold ahead;rw[KF,Dg];have i:(b.filter λa=>decide (bD a=k)&&cA a)=b.filter λr=>cA r&&decide (bD r=k):=m3 λr _=>Bool.and_comm _ _
  rw[i];refine Eo λr d=>?_
  obtain⟨f,c⟩:=dL.mp d;rw[jm,uf] at c;have m:r≠[]:=by rintro rfl;simp[cA] at c
  have n:R r l=R r.dropLast (af k l):=by
   conv=>lhs;rw[←vb m]
   rw[Gv,c.2]
  rw[n];exact vE _ (λz=>(pu _ z).symm) x
 rw[h,j];lia
structure fc (K T:Nat) (rows:List Row):Prop where
 pos:∀r∈rows,∀p∈r,1<=p
 sum:∀r∈rows,r.sum+T<=K
theorem vD{n K:Nat}{some:List Row}(h:KX n K some){T:Nat}{l:List Row}(c:∀x∈l,x∈UU some T):∀{row:Row},(∀p∈row,1<=p)->∀x∈R row l,x∈UU some (T+row.sum.toNat)
 |[],_,x,hx=>by simpa using c x hx
 |k::row,hp,x,hx=>by
  have a:=λp a=>hp p (bT k a)
  have g:=hp k dk;have f:0<=row.sum:=lS λp b=>by have:=a p b;lia
  have e:=vD h c (row:=row) a;obtain⟨d,rfl⟩:=kX (show 0<=k by lia);have:=tm h.rows e hx;rw[fq,show T+((d:Int)+row.sum).toNat=T+row.sum.toNat+d by lia];exact this
theorem QO{n K:Nat}{some:List Row}(h:KX n K some){T:Nat}{b l:List Row}(c:fc K T b)(f:∀x∈l,x∈UU some T):∀x∈ak b l,x∈UU some K:=λx d=>by
 obtain⟨a,e,d⟩:=fr.mp d;have:=c.sum a e;have i:0<=a.sum:=lS λp g=>by have:=c.pos a e p g;lia
 exact Bw (by lia) (vD h f (c.pos a e) x d)
theorem Ci{K T:Nat}(i:fc K T a) (o:k∈dz a):1<=k/\k+T<=K/\fc K (T+k.toNat) (ahead k a):=by
 obtain⟨r,n,m,rfl⟩:=Ca.mp o;have part:∀r∈a,r≠[]->1<=bD r/\(∀p∈r.dropLast,1<=p)/\r.dropLast.sum+bD r=r.sum:=λr h m=>by
  have e:=vb m;have d:=i.pos r h;rw[←e] at d;refine⟨d _ (by simp),λp l=>d p (ul _ l),?_⟩
  conv=>rhs;rw[←e]
  rw[iw,List.sum_singleton]
 obtain⟨s,t,w⟩:=part r n m;have v:0<=r.dropLast.sum:=lS λp d=>by have:=t p d;lia
 have x:=i.sum r n;refine⟨s,by lia,λq j=>?_,λq j=>?_⟩
 ·obtain⟨f,b,rfl⟩:=bQ.mp j;obtain⟨g,c⟩:=dL.mp b;exact(part f g (by rintro rfl;simp[cA] at c)).2.1
 ·obtain⟨f,b,rfl⟩:=bQ.mp j;obtain⟨g,c⟩:=dL.mp b;rw[jm,uf] at c;have u:=(part f g (by rintro rfl;simp[cA] at c)).2.2;have y:=i.sum f g;rw[c.2] at u;lia
theorem KU:∀{c:List Row},c.Nodup->(ahead k c).Nodup:=λ{c} i=>by
 unfold ahead;rw[rO,C6];have d:(c.filter λr=>cA r&&decide (bD r=k)).Nodup:=Do _ i;rw[rO] at d;refine d.imp_of_mem λ{a b} j h m e=>m ?_
 have f:∀{r:Row},r∈c.filter (λr=>cA r&&decide (bD r=k))->r=r.dropLast++[k]:=λ{r} l=>by
  obtain⟨_,g⟩:=dL.mp l;rw[jm,uf] at g;have:=vb (r:=r) (by rintro rfl;simp[cA] at g);rw[g.2] at this;exact this.symm
 rw[f j,f h,e]
theorem LN(a:Row)(b:List Row):i8 neg (aL a) (.lst (aJ b)) au=.ok (.bl (if neg then !decide (a∈b) else decide (a∈b))) au:=by
 have d:dataOf au (.lst (aJ b))=some (.list (b.map bU)):=by
  unfold dataOf now;show d4 (.lst (aJ b))=_;rw[d4,RM]
  rfl
 unfold i8;rw[QN,d];dsimp only;rw[if_pos ⟨S8 a,Cs b⟩];have e:((b.map bU).any λy=>PyData.eqv y (bU a))=decide (a∈b):=by
  rw[List.any_map,kR,C1,uf];constructor
  ·rintro⟨x,c,h⟩;have h:PyData.eqv (bU x) (bU a)=true:=h;rw[uZ] at h;have:=gP h;subst this;exact c
  ·intro h;refine⟨a,h,?_⟩;show PyData.eqv (bU a) (bU a)=true;rw[uZ];simp
 rw[e]
def iJ(x:D) (a:List Row):Prop:=x=aK a\/x=.lst (aJ a)
theorem iJ.in_(h:iJ x rows)(a:Row):i8 false (aL a) x au=.ok (.bl (decide (a∈rows))) au:=by
 rcases h with rfl|rfl
 ·exact Hf (neg:=false) a rows
 ·exact LN (neg:=false) a rows
theorem iJ.seq(h:iJ x rows):eG x=some (aJ rows):=by
 rcases h with rfl|rfl<;>rfl
theorem QV(h:r≠[]):cF (aL r) (.int (-1)) au=.ok (.int (bD r)) au:=by
 conv=>lhs;rw[←vb h]
 refine nt rfl ?_;rw[iU];exact QE _ _
theorem Nq(h:r≠[]):cutD (r.map D.int) none (some (-1))=r.dropLast.map D.int:=by
 conv=>lhs;rw[←vb h]
 exact La _ _
theorem QT:jp au (aL r)=some (cA r):=by
 cases r<;>rfl
theorem LV(g:iJ x a)(m:a.length<=1000)(f:∀r∈a,r≠[]->0<=bD r/\bD r<64)(q:Q (.lst ((dz a).map .int)) au):
  WP (aE dW (aB (aG (aH (aA 0)) 1 [] (gN 0) (cM (aA 0)) (aS cF (aA 0) (kr fA (eC (.int 1))))) aC) (some x::b) au) Q:=by
 simp only[W,V];refine⟨_,g.seq,by rw[zc];exact small _ (by lia),?_⟩;refine sQ (as:=a) (λb=>∃v,b=[v]) cA (λr=>.int (bD r)) aL ⟨_,rfl⟩ ?_ ?_
 ·rintro r c b ⟨v,rfl⟩;refine⟨_,rfl,⟨_,rfl⟩,?_,λl=>?_⟩
  ·simp only[W,V];exact⟨_,QT,trivial,rfl⟩
  ·simp only[W,V];have j:r≠[]:=by rintro rfl;cases l
   exact WP.of (QV j) ⟨rfl,rfl⟩
 ·have d:=qz ((a.filter cA).map bD);rw[eM] at d;have i:dW [.lst ((a.filter cA).map λr=>.int (bD r))] au=.ok (.lst ((dz a).map .int)) au:=by
   unfold dW;dsimp only;rw[show(eS au (.lst ((a.filter cA).map λr=>D.int (bD r)))).bind bN=some ((a.filter cA).map bD) from d];dsimp only;rw[if_pos]
   ·rfl
   rw[cZ];intro y h;obtain⟨r,c,rfl⟩:=bQ.mp h;obtain⟨k,e⟩:=dL.mp c;have:=f r k (by rintro rfl;cases e);unfold gy;rw[jm];exact⟨cC this.1,cC this.2⟩
  exact WP.of i q
theorem KW(c:iJ x rows)(h:rows.length<=1000)(q:Q (.lst (aJ (ahead k rows))) au):
  WP (aG (aH (aA 0)) 1 [3] (gN 0) (jQ (cM (aA 0)) (eB (aS jL (aS cF (aA 0) (kr fA (eC (.int 1)))) (aA 1)))) (kt (aA 0) dv (dr (kr fA (eC (.int 1))))) (some x::v1::v2::some (.int k)::v4::b) au) Q:=by
 simp only[W,V];refine⟨_,c.seq,by rw[zc];exact small _ (by lia),?_⟩;refine sQ (as:=rows) (λb=>∃v,b=[v,some (.int k)]) (λr=>cA r&&decide (bD r=k)) (λr=>aL r.dropLast) aL ⟨_,rfl⟩ ?_ ?_
 ·rintro r g b ⟨v,rfl⟩;refine⟨_,rfl,⟨_,rfl⟩,?_,λf=>?_⟩
  ·simp only[W,V];refine⟨_,QT,?_⟩;cases r with
   |nil=>exact⟨trivial,rfl⟩
   |cons a r=>
    rw[if_pos (show cA (a::r)=true from rfl)];refine WP.of (QV (by simp)) ?_;simp only[W,V];exact⟨trivial,by simp[cA]⟩
  ·simp only[W,V,M,Dd.N];have d:r≠[]:=by rintro rfl;cases f
   rw[Nq d]
   try exact⟨rfl,rfl⟩
   try exact⟨trivial,rfl⟩
 ·have e:(rows.filter λr=>cA r&&decide (bD r=k)).map (λr=>aL r.dropLast)=aJ (ahead k rows):=by
   unfold ahead aJ;rw[eM]
   rfl
  rw[e];exact q
theorem qp{l U:List Row}(h:∀x∈l,x∈U):∀x∈aO l,x∈U:=λx a=>h x (qu a)
theorem yf(h:WP (E σ au) (λx s=>∃a,eG x=some a/\WP (dS bd body a σ s) Q)):WP (bP (aH E) bd body σ au) Q:=by
 simp only[W];exact h
theorem KP(h:WP (E σ au) (λv s=>Q (.nx (σ.set i (some v))) s)):WP (aF i E σ au) Q:=by
 simp only[W];exact h
theorem wV(e:c σ au=.ok t au)(h:if t=true then WP (a σ au) Q else WP (b σ au) Q):WP (eH c a b σ au) Q:=by
 simp only[W];exact WP.of e h
theorem xo(c:f σ au=.ok v au)(a:jp au v=some b):cM f σ au=.ok b au:=by
 unfold cM;rw[c];simp[a]
theorem BL(a:aa)(l:List Row):jp a (aK l)=some (!l.isEmpty):=by
 cases l<;>rfl
def cE(a l:List Row) (i:Nat):List Row:=(if[]∈a then l else[])++((dz a).take i).flatMap λk=>ak (ahead k a) (aO (af k l))
theorem Op{n K T:Nat}{b a l:List Row}(h:KX n K b)(f:fc K T a)(g:T<=K)(c:∀y∈l,y∈UU b T)(i:Nat):∀y∈cE a l i,y∈UU b K:=λy hy=>by
 rcases dB.mp hy with hy|hy
 ·split at hy
  ·exact Bw g (c y hy)
  ·cases hy
 ·obtain⟨k,e,hy⟩:=fr.mp hy;obtain⟨m,p,d⟩:=Ci f (me e);obtain⟨o,rfl⟩:=kX (show 0<=k by lia);exact QO h d (qp λz j=>tm h.rows c j) y hy
section
variable {au:aa}{Q:D->aa->Prop}
theorem RN{n K T:Nat}{I:List Row}(h:KX n K I){fF:cS}{x:D}{b l:List Row}(w:iJ x b)(nd:b.Nodup)(U:b.length<=1000)(G:fc K T b)(hK:K<=16)(hT:T<=K)(u:fY l)(A:∀y∈l,y∈UU I T)
  (E:∀k∈dz b,∀(au:aa) (Q:D->aa->Prop),(∀g,Q (aK (aO (ak (ahead k b) (aO (af k l))))) (au++g))->WP (fF [.lst (aJ (ahead k b)),aK (aO (af k l))] au) Q)
  (k:∀g,Q (aK (aO (ak b l))) (au++g)):WP (qf fF [x,aK l] au) Q:=by
 show WP (cB 6 2 _ [x,aK l] au) Q;refine gM rfl ?_;refine hV (R:=λj s=>j=.nx [some x,some (aK l),some (aK (aO (cE b l 0))),none,none,none]/\s=au) ?_ ?_
 ·have e0:aO (cE b l 0)=if[]∈b then l else[]:=by
   unfold cE;rw[CW,List.flatMap_nil,jy];split
   ·exact u.odd
   ·rfl
  rw[e0];simp only[W,V];refine⟨by simp,?_⟩;refine WP.of (w.in_ []) ?_;simp only[W,V];by_cases c:[]∈b
  ·simp only[c,gt]
   first|exact⟨trivial,trivial⟩|exact⟨rfl,rfl⟩
  ·simp only[c,gj]
   first|exact⟨by simp,trivial,trivial⟩|exact⟨by simp,rfl,rfl⟩|exact⟨by simp,rfl,trivial⟩|exact⟨by simp,trivial,rfl⟩|simp
 rintro j s ⟨rfl,rfl⟩;show WP _ _;refine hV (R:=λj f=>(∃p o m,j=.nx [some x,some (aK l),some (aK (aO (cE b l (dz b).length))),p,o,m])/\∃g,f=s++g) ?_ ?_
 ·refine yf (LV w U (λr v ne=>?_) ⟨_,rfl,?_⟩)
  ·obtain⟨h1,h2,_⟩:=Ci G (Ca.mpr ⟨r,v,ne,rfl⟩);lia
  refine gX (λi P f=>(∃p o m,P=[some x,some (aK l),some (aK (aO (cE b l i))),p,o,m])/\∃g,f=s++g) ⟨⟨_,_,_,rfl⟩,[],by simp⟩ ?_ ?_
  ·rintro i y P f hy ⟨⟨p,o,m,rfl⟩,g,rfl⟩;obtain⟨d,q,rfl⟩:=sS hy;have hm:=dY q;obtain⟨k1,k2,X⟩:=Ci G hm;refine⟨_,rfl,?_⟩;obtain⟨k',S⟩:=kX (show 0<=d by lia);unfold Rz;refine hV (R:=λj f=>j=.nx [some x,some (aK l),some (aK (aO (cE b l i))),some (.int d),some (aK (aO (af d l))),m]/\∃g,f=s++g) ?_ ?_
   ·simp only[W,V];rw[S];exact UJ h (by lia) (by lia) A λJ=>⟨rfl,g++J,by simp⟩
   rintro j f ⟨rfl,g,rfl⟩;show WP _ _;have kl:aO (cE b l (i+1))=aO (aO (cE b l i)++aO (ak (ahead d b) (aO (af d l)))):=vp λz=>by
    have e:cE b l (i+1)=cE b l i++ak (ahead d b) (aO (af d l)):=by
     unfold cE;rw[ze q,Di,eE];simp
    rw[e,j8,j8];have h1:=pu (cE b l i) z;have h2:=pu (ak (ahead d b) (aO (af d l))) z;lia
   have hM:∀y∈aO (af d l),y∈UU I (T+k'):=qp λz hz=>by rw[S] at hz;exact tm h.rows A hz
   have C:fc K (T+k') (ahead d b):=by
    have:d.toNat=k':=by lia
    rw[this] at X;exact X
   by_cases c:aO (af d l)=[]
   ·have e:aO (cE b l (i+1))=aO (cE b l i):=by
     rw[kl,c,Nx,show aO ([]:List Row)=[] from rfl,jy,(R3 _).odd]
    refine wV (xo rfl (BL _ _)) ?_;rw[c];simp only[W,L,List.isEmpty_nil,Bool.not_true,gj];exact⟨⟨_,_,_,by rw[e]⟩,g,rfl⟩
   ·have H:(!(aO (af d l)).isEmpty)=true:=by
     cases e:aO (af d l) with
     |nil=>exact absurd e c
     |cons a t=>rfl
    refine wV (xo rfl (BL _ _)) ?_;rw[if_pos H];refine hV (R:=λj f=>j=.nx [some x,some (aK l),some (aK (aO (cE b l i))),some (.int d),some (aK (aO (af d l))),some (.lst (aJ (ahead d b)))]/\f=s++g) (KP (KW w U ⟨rfl,rfl⟩)) ?_;rintro j f ⟨rfl,rfl⟩;simp only[W,V];refine E d hm _ _ λJ=>?_
    have m1:=Op h G hT A i;have Y:=QO h C hM;have l1:=h.len (bj K) (nH _) (qp m1);have l2:=h.len (bj K) (nH _) (qp Y);refine Nf (by lia) (h.few (bj K) λz hz=>?_) λg3=>?_
    ·rcases dB.mp hz with hz|hz
     ·exact qp m1 z hz
     ·exact qp Y z hz
    ·simp only[L];exact⟨⟨_,_,_,by rw[kl]⟩,g++J++g3,by simp⟩
  ·rintro P f ⟨⟨p,o,m,rfl⟩,g,rfl⟩;rw[bh];exact⟨⟨_,_,_,rfl⟩,g,rfl⟩
 rintro j f ⟨⟨p,o,m,rfl⟩,g,rfl⟩;simp only[W,V];have e:aO (cE b l (dz b).length)=aO (ak b l):=by
  refine vp λz=>?_
  unfold cE;rw[cX];exact(Uw nd z).symm
 rw[e];exact k g
theorem Jf{n K:Nat}{v:List Row}(h:KX n K v)(w:K<=16):∀(f:Nat) {T:Nat}{x:D}{a l:List Row}{au:aa}{Q:D->aa->Prop},iJ x a->a.Nodup->a.length<=1000->(∀r∈a,r.length<=f)->fc K T a->T<=K->fY l->(∀y∈l,y∈UU v T) ->
  (∀g,Q (aK (aO (ak a l))) (au++g))->WP (fE qf (f+1) [x,aK l] au) Q:=λf=>by
 induction f with
 |zero=>
  intro T x a l au Q p e d q j s b i k;refine RN h p e d j w s b i (λA c=>?_) k;obtain⟨r,t,J,_⟩:=Ca.mp c;have:=q r t;exact absurd (yS.mp (by lia)) J
 |succ f ih=>
  intro T x a l au Q p e d q j s b i k;refine RN h p e d j w s b i (λA c I U H=>?_) k;obtain⟨P,X,u⟩:=Ci j c;obtain⟨m,rfl⟩:=kX (show 0<=A by lia);rw[j9] at u;refine ih (.inr rfl) (KU e) ?_ (λr o=>?_) u (by lia) (R3 _) (qp λz E=>tm h.rows i E) H
  ·unfold ahead;rw[bh];exact ax (pU _ _) d
  ·obtain⟨G,t,rfl⟩:=bQ.mp o;obtain⟨C,S⟩:=dL.mp t;have:=q G C;rw[List.length_dropLast];lia
end
theorem Lm{n K:Nat}(h:KX n K S0)(i:K<=16) (e:iJ x a)(c:a.Nodup)(f:a.length<=1000)(l:∀r∈a,r.length<=7)(d:fc K 0 a)(b:fY S0)
 (k:∀g,Q (aK (aO (ak a S0))) (au++g)):WP (fE qf 8 [x,aK S0] au) Q:=Jf h i 7 e c f l d (ir _) b (λy j=>wX j) k
end Dd
namespace Dd
open L2 K07 K23
def ay(r:List Int):List Nat:=(List.range (r.length-1)).filter λp=>decide (aV r p)
noncomputable abbrev ki(l:List Nat):List D:=l.map λ(p:Nat)=>D.int (p:Int)
theorem Cn:p∈ay r↔aV r p:=by
 unfold ay;rw[dL,bB,lG];refine⟨λh=>h.2,λh=>⟨?_,h⟩⟩;obtain⟨a,b,_,e,_⟩:=h;have:=(cU.mp e).1;lia
theorem FA{r:List Int}(C:r.length<=1000):pz [aL r] au=.ok (.lst (ki (ay r))) au:=by
 have W:=nA (bd:=gN 0) (c:=eB (aS fB (aS cF (aA 1) (aA 0)) (aS bC (eC (.int 2)) (aS cF (aA 1) (aS aM (aA 0) (eC (.int 1))))))) (f:=aA 0) (xs:=rng 0 (r.length-1)) (σ:=[none,some (aL r)]) (au:=au)
  (λi acc k s=>s=au/\(∃w:Option D,k=[w,some (aL r)])/\acc=ki ((List.range i).filter λp=>decide (aV r p))) ⟨rfl,⟨none,rfl⟩,rfl⟩ (by
   rintro i y acc k s t ⟨rfl,⟨w,rfl⟩,rfl⟩;obtain⟨v,rfl⟩:=qj t;have d:r[i]?=some r[i]:=bS (by lia);have g:r[i+1]?=some r[i+1]:=bS (by lia);have l:=pi (au:=s) d;have j:=pi (au:=s) g;rw[pI] at j;generalize hA:r[i]=a at *
   generalize hB:r[i+1]=b at *
   have n:decide (a<2*b)=decide (aV r i):=by
    rw[kR,lG,lG];exact⟨λz=>⟨_,_,d,g,z⟩,λ⟨x,y,q,o,z⟩=>by rw[d] at q;rw[g] at o;cases q;cases o;exact z⟩
   have m:dX 2 b:=.inl ⟨by decide,by decide⟩;refine⟨[some (.int (0+i)),some (aL r)],decide (aV r i),s,rfl,?_,?_⟩
   ·rw[←n,l8];generalize hI:(i:Int)=I at *
    simp at j;clear d g hA hB n v t C hI;simp only[aL] at *
    generalize D.tup (r.map D.int)=R at *
    simp[l,j,m]
   ·rw[pJ,kT];by_cases c:aV r i
    ·refine .inr ⟨cC c,.int (0+i),s,rfl,rfl,⟨_,rfl⟩,?_⟩;simp[ki,c]
    ·refine .inl ⟨cI c,rfl,⟨_,rfl⟩,?_⟩
     simp[ki,c])
 obtain⟨H,G,st',e,rfl,_,rfl⟩:=W;rw[kP] at e;refine gW rfl ?_;have u:ca ((r.length:Int)-1):=iz (by lia) (by lia);have h:(rng 0 (r.length-1)).length<=sizeLine:=by rw[kP];exact small _ (by lia)
 have A:h7 (aB (aS cf (aE cu (aB (aA 0) aC)) (eC (.int 1))) aC) [some (aL r)] st'=.ok (rng 0 (r.length-1)) st':=by
  have E:=Ew (au:=st') (r:=r);have l:((r.length:Int)-1).toNat=r.length-1:=by lia
  generalize (r.length:Int)=N at *
  simp only[aL] at *
  generalize D.tup (r.map D.int)=R at *
  simp[E,u,l]
 show aW _ [some (aL r)] st'=_;rw[nw,mU,A,zo,if_pos h];show((bo _ _ _ _ [none,some (aL r)] st').bind _).bind _=_;rw[e]
 rfl
noncomputable def aq:Int->List Int->Int
 |_,[]=>0
 |n,x::xs=>n*x+aq (n+1) xs
theorem vx:∀(a b:List Int) (n:Int),aq n (a++b)=aq n a+aq (n+a.length) b
 |[],b,n=>by simp[aq]
 |x::a,b,n=>by
  rw[ub,aq,aq,vx a b (n+1),dh,show n+1+(a.length:Int)=n+((a.length+1:Nat):Int) by push_cast;lia];lia
theorem xH:∀(a:List Int) (n:Int),aq (n+1) a=aq n a+a.sum
 |[],n=>by simp[aq]
 |x::a,n=>by
  rw[aq,aq,xH a (n+1),fq,tT];lia
noncomputable def eI:Int->List Int->List Int
 |_,[]=>[]
 |n,x::xs=>n*x::eI (n+1) xs
theorem R7:∀(a:List Int) (n:Int),(eI n a).sum=aq n a
 |[],n=>rfl
 |x::a,n=>by rw[eI,fq,R7 a,aq]
theorem SN:∀(a:List Int) (x n:Int),eI n (a++[x])=eI n a++[(n+a.length)*x]
 |[],x,n=>by simp[eI]
 |y::a,x,n=>by
  rw[ub,eI,eI,SN a x (n+1),dh,show n+1+(a.length:Int)=n+((a.length+1:Nat):Int) by push_cast;lia]
  rfl
theorem K4{a:List Int}:gp [.lst (a.map .int)] au=.ok (.int a.sum) au:=by
 unfold gp
 show(match ((some (a.map D.int)).bind bN) with
  |some a=>bv.ok (D.int a.sum) au
  |none=>.stuck)=_
 rw[Option.bind_some,qz]
theorem JM(m:dX I x):aS bC (aA 0) (aA 1) [some (.int I),some (.int x)] s=.ok (.int (I*x)) s:=by simp[m]
theorem P5:gT 2 (bf (gN 0) (bf (gN 1) dA)) (.tup [.int I,.int x]) [v,w]=some [some (.int I),some (.int x)]:=rfl
theorem JL(j:∀x∈r,-10000<=x/\x<=10000):bo (gT 2 (bf (gN 0) (bf (gN 1) dA))) aI (aS bC (aA 0) (aA 1)) (gm 1 (r.map .int)) [none,none] au=.ok ((eI 1 r).map D.int) au:=by
 have W:=nA (bd:=gT 2 (bf (gN 0) (bf (gN 1) dA))) (c:=aI) (f:=aS bC (aA 0) (aA 1)) (xs:=gm 1 (r.map .int)) (σ:=[none,none]) (au:=au)
  (λi acc b s=>s=au/\(∃v w:Option D,b=[v,w])/\acc=(eI 1 (r.take i)).map D.int) ⟨rfl,⟨none,none,rfl⟩,rfl⟩ (by
   rintro i y acc b s k ⟨rfl,⟨v,w,rfl⟩,rfl⟩;obtain⟨d,h,rfl⟩:=EI k;rw[fK] at h;obtain⟨x,a,rfl⟩:=jE.mp h;have g:=j x (dY a);have p:=(cU.mp a).1;have m:dX (1+(i:Int)) x:=AA g.1 g.2;refine⟨[some (.int (1+(i:Int))),some (.int x)],true,s,P5,rfl,.inr ⟨rfl,.int ((1+(i:Int))*x),s,JM m,rfl,⟨_,_,rfl⟩,?_⟩⟩;rw[ze a,SN,iU,gw,j6 (by lia)]
   simp)
 obtain⟨o,n,l,e,rfl,_,rfl⟩:=W;rw[Cr,bh,cX] at e;exact e
theorem NV{r:List Int}(f:r.length<=1000)(b:∀x∈r,-10000<=x/\x<=10000):sZ [aL r] au=.ok (.int (aq 1 r)) au:=by
 have e:=JL (au:=au) b;refine gW rfl ?_;have a:(gm 1 (r.map D.int)).length<=sizeLine:=by rw[Cr,bh];exact small _ (by lia)
 have c:ja (aA 0) [some (aL r)] au=.ok (gm 1 (r.map D.int)) au:=rfl;have d:aG (ja (aA 0)) 2 [] (gT 2 (bf (gN 0) (bf (gN 1) dA))) aI (aS bC (aA 0) (aA 1)) [some (aL r)] au=.ok (.lst ((eI 1 r).map D.int)) au:=by
  rw[mU,c,zo,if_pos a];show((bo _ _ _ _ [none,none] au).bind _)=_;rw[e]
  rfl
 show aW _ [some (aL r)] au=_;rw[nw,j3,lT,d,zo,vW,zo,zo,K4,zo,R7]
theorem Oc{r:List Int}(o:r.length<=1000):BM [aL r] au=.ok (.lst (ki (ay r))) au:=by
 have W:=nA (bd:=gN 0) (c:=cM (aE nF (aB (aA 1) (aB (aA 0) aC)))) (f:=aA 0) (xs:=rng 0 (r.length-1)) (σ:=[none,some (aL r)]) (au:=au)
  (λi acc b s=>s=au/\(∃w:Option D,b=[w,some (aL r)])/\acc=ki ((List.range i).filter λp=>decide (aV r p))) ⟨rfl,⟨none,rfl⟩,rfl⟩ (by
   rintro i y acc b s h ⟨rfl,⟨w,rfl⟩,rfl⟩;obtain⟨n,rfl⟩:=qj h;rw[l8];refine⟨[some (.int i),some (aL r)],decide (aV r i),s,rfl,?_,?_⟩
   ·rw[uD,j3];show((nF [aL r,.int i] s).bind _)=_;rw[Td,j9,show decide (0<=(i:Int)/\aV r i)=decide (aV r i) by simp]
    rfl
   ·rw[pJ,kT];by_cases c:aV r i
    ·refine .inr ⟨cC c,.int i,s,rfl,rfl,⟨_,rfl⟩,?_⟩;simp[ki,c]
    ·refine .inl ⟨cI c,rfl,⟨_,rfl⟩,?_⟩
     simp[ki,c])
 obtain⟨m,k,st',e,rfl,_,rfl⟩:=W;rw[kP] at e;refine gW rfl ?_;have d:ca ((r.length:Int)-1):=iz (by lia) (by lia);have a:(rng 0 (r.length-1)).length<=sizeLine:=by rw[kP];exact small _ (by lia)
 have g:h7 (aB (aS cf (aE cu (aB (aA 0) aC)) (eC (.int 1))) aC) [some (aL r)] st'=.ok (rng 0 (r.length-1)) st':=by
  have j:=Ew (au:=st') (r:=r);have l:((r.length:Int)-1).toNat=r.length-1:=by lia
  generalize (r.length:Int)=N at *
  simp only[aL] at *
  generalize D.tup (r.map D.int)=R at *
  simp[j,d,l]
 show aW _ [some (aL r)] st'=_;rw[nw,mU,g,zo,if_pos a];show((bo _ _ _ _ [none,some (aL r)] st').bind _).bind _=_;rw[e]
 rfl
theorem Mb(j:∀x∈r,1<=x)(m:aV r p)(k:z∈aw r p):aq 1 z<aq 1 r:=by
 obtain⟨a,b,i,g,t⟩:=m;have G:p+1<r.length:=(cU.mp g).1;have E:=j b (dY g);have A:=j a (dY i);unfold aw at k;obtain⟨two,l,rfl⟩:=bQ.mp k;have h:=(zp _).mem_iff.mp l;rw[cK,i,cK,g] at h;simp only[yB] at h;unfold ah at h;obtain⟨c,o,v⟩:=bQ.mp h;have C:c<(a/2+1).toNat:=bB.mp (dL.mp o).1;have u:r=r.take p++[a,b]++r.drop (p+2):=by
  have w:r.drop p=a::r.drop (p+1):=by
   rw[kY (by lia)]
   congr 1
   exact(cU.mp i).2
  have y:r.drop (p+1)=b::r.drop (p+2):=by
   rw[kY (by lia)]
   congr 1
   exact(cU.mp g).2
  calc r=r.take p++r.drop p:=(kc p r).symm
   _=_:=by rw[w,y];simp
 have q:0<=(r.drop (p+2)).sum:=px λx n=>j x (pR n)
 have f:aq 1 (r.take p++two++r.drop (p+2))<aq 1 (r.take p++[a,b]++r.drop (p+2)):=by
  rw[eE,eE,vx,vx (r.take p)];generalize (1:Int)+((r.take p).length:Int)=N;rw[vx,vx];generalize r.drop (p+2)=d at q;rw[←v];unfold eR;split
  ·rename_i s;simp only[aq,dh,ua];rw[Int.mul_sub,CF,tT,tT];lia
  ·rename_i s;have:(c:Int)=0:=by lia
   simp only[aq,dh,ua];have e:=xH d (N+1);rw[show N+((0+1+1:Nat):Int)=N+1+1 by push_cast;lia,show N+((0+1:Nat):Int)=N+1 by push_cast;lia,e,CF,tT];lia
 rw[←u] at f;exact f
end Dd
namespace Dd
open L2
end Dd
namespace Dd
open L2 K07 K23
theorem V8{ks:List (List Int)}{r:List Int}(hk:ks.length<=5000)(hl:r.length<=100)(A:aV r p)(G:1<=r.getD p 0)(t:r.getD p 0<=40)(P:1<=r.getD (p+1) 0)(m:r.getD (p+1) 0<=40):
  ∃g,Cz [aK ks,aL r,.int p] au=.ok (aK (aO (ks++(r::aw r p)))) (au++g):=by
 have o:r.getD p 0<2*r.getD (p+1) 0:=by
  obtain⟨a,b,w,d,h⟩:=A;rw[cK,w,cK,d];exact h
 have hp:p+1<r.length:=by
  obtain⟨a,b,_,z,_⟩:=A;exact(cU.mp z).1
 have g1:r[p]?=some (r.getD p 0):=by rw[cK,bS (by lia)];rfl
 have g2:r[p+1]?=some (r.getD (p+1) 0):=by rw[cK,bS (by lia)];rfl
 have hx:=Ct r p;generalize hA:r.getD p 0=a at *
 generalize hB:r.getD (p+1) 0=b at *
 obtain⟨g,e⟩:=U1 (au:=au) G t P m o;have hL:(av (ah a b (a/2+1).toNat)).length<=100:=by
  rw[vA];have:=qy a b (a/2+1).toNat;lia
 have E:=xh r p;have q:=RI r (p+2);rw[pI] at q;have W:=nA (bd:=gN 0) (c:=aI) (f:=aS aM (aS aM (kt (aA 1) dv (dr (aA 2))) (aA 0)) (kt (aA 1) (dr (aS aM (aA 2) (eC (.int 2)))) dv)) (xs:=aJ (av (ah a b (a/2+1).toNat))) (σ:=[none,some (aL r),some (.int p)]) (au:=au++g)
  (λi acc u s=>s=au++g/\(∃v,u=[v,some (aL r),some (.int p)])/\acc=aJ (((av (ah a b (a/2+1).toNat)).take i).map λtwo=>r.take p++two++r.drop (p+2))) ⟨rfl,⟨none,rfl⟩,rfl⟩ (by
   rintro i y acc u s Q ⟨rfl,⟨v,rfl⟩,rfl⟩;obtain⟨two,C,rfl⟩:=jk Q;have h2:two.length<=2:=Th two ((zp _).mem_iff.mp (dY C));have l1:(r.take p).length<=100:=by rw[gw];lia
   have l2:(r.drop (p+2)).length<=100:=by rw[mZ];lia
   have w:=Cc (au:=au++g) (a:=r.take p) (b:=two) (by lia);have d:=Cc (au:=au++g) (a:=r.take p++two) (b:=r.drop (p+2)) (by rw[cJ];lia);refine⟨[some (aL two),some (aL r),some (.int p)],true,au++g,rfl,rfl,.inr ⟨rfl,aL (r.take p++two++r.drop (p+2)),au++g,?_,rfl,⟨_,rfl⟩,?_⟩⟩
   ·have f1:kt (aA 1) dv (dr (aA 2)) [some (aL two),some (aL r),some (.int p)] (au++g)=.ok (aL (r.take p)) (au++g):=by
     show bv.ok (D.tup (cutD (r.map D.int) none (some (p:Int)))) _=_;rw[E]
    have f2:kt (aA 1) (dr (aS aM (aA 2) (eC (.int 2)))) dv [some (aL two),some (aL r),some (.int p)] (au++g)=.ok (aL (r.drop (p+2))) (au++g):=by
     show bv.ok (D.tup (cutD (r.map D.int) (some ((p:Int)+(2:Nat))) none)) _=_;rw[q]
    rw[kM,kM,f1,zo];show((aM (aL (r.take p)) (aL two) (au++g)).bind _)=_;rw[w,zo,f2];exact d
   ·rw[ze C,iU]
    simp[aJ])
 obtain⟨ys,H,Y,d,rfl,_,rfl⟩:=W;rw[zc,cX] at d;have k:(aJ (av (ah a b (a/2+1).toNat))).length<=sizeLine:=by rw[zc];exact small _ (by lia)
 have I:=pi (au:=au) g1;have n:=pi (au:=au) g2;rw[pI] at n;have j:aw r p=(av (ah a b (a/2+1).toNat)).map λtwo=>r.take p++two++r.drop (p+2):=by unfold aw;rw[hA,hB]
 rw[←j] at d;obtain⟨J,e5⟩:=Fk (au:=au++g) (x:=.lst (aJ (ks++[r]++aw r p))) (l:=ks++[r]++aw r p) rfl (by simp;lia) (by have:=tQ (ks++[r]++aw r p);rw[cJ,cJ,rL] at this;lia);refine⟨g++J,gW rfl ?_⟩;refine fz (σ1:=[some (aK ks),some (aL r),some (.int p),some (.lst (aJ (aw r p)))]) (st1:=au++g) ?_ ?_
 ·have U:aH (aE vk (aB (aS cF (aA 1) (aA 2)) (aB (aS cF (aA 1) (aS aM (aA 2) (eC (.int 1)))) aC))) [some (aK ks),some (aL r),some (.int p),none] au=.ok (aJ (av (ah a b (a/2+1).toNat))) (au++g):=by
   clear E q d j;simp only[aL] at *
   generalize D.tup (r.map D.int)=R at *
   simp at n;simp[I,n,e]
  show aF 3 _ [some (aK ks),some (aL r),some (.int p),none] au=_;rw[q7,mU,U,zo,if_pos k];show(((bo _ _ _ _ [none,some (aL r),some (.int p)] _).bind _).bind _)=_;rw[d]
  rfl
 ·have X:=small 1 (by lia);have a1:aS aM (aE eJ (aB (aA 0) aC)) (dU (aB (aA 1) aC)) [some (aK ks),some (aL r),some (.int p),some (.lst (aJ (aw r p)))] (au++g)=.ok (.lst (aJ (ks++[r]))) (au++g):=by
   have q1:aE eJ (aB (aA 0) aC) [some (aK ks),some (aL r),some (.int p),some (.lst (aJ (aw r p)))] (au++g)=.ok (.lst (aJ ks)) (au++g):=rfl;have S:dU (aB (aA 1) aC) [some (aK ks),some (aL r),some (.int p),some (.lst (aJ (aw r p)))] (au++g)=.ok (.lst (aJ [r])) (au++g):=by
    show(if 1<=sizeLine then bv.ok (D.lst [aL r]) (au++g) else .stuck)=_;rw[if_pos X]
    rfl
   rw[kM,q1,zo,S,zo];show(if(aJ ks).length+(aJ [r]).length<=sizeLine then bv.ok (D.lst (aJ ks++aJ [r])) (au++g) else .stuck)=_;rw[if_pos (by rw[zc,zc];exact small _ (by simp;lia))];simp[aJ]
  have a2:aS aM (aS aM (aE eJ (aB (aA 0) aC)) (dU (aB (aA 1) aC))) (aA 3) [some (aK ks),some (aL r),some (.int p),some (.lst (aJ (aw r p)))] (au++g)=.ok (.lst (aJ (ks++[r]++aw r p))) (au++g):=by
   rw[kM,a1,zo];show(if(aJ (ks++[r])).length+(aJ (aw r p)).length<=sizeLine then bv.ok (D.lst (aJ (ks++[r])++aJ (aw r p))) (au++g) else .stuck)=_;rw[if_pos (by rw[zc,zc];exact small _ (by simp;lia))];simp[aJ]
  rw[nw,j3,lT,a2];show((zw [.lst (aJ (ks++[r]++aw r p))] _).bind _)=_;rw[e5,show ks++[r]++aw r p=ks++(r::aw r p) by simp,eE]
  rfl
theorem B9{r:List Int}{p:Nat}{m:Int}{L:Nat}(h:bt r m L)(l:aV r p):∀z∈aw r p,bt z m L:=λz i=>by
 obtain⟨a,b,g,d,q⟩:=l;have C:p+1<r.length:=(cU.mp d).1;have A:=h.pos b (dY d);have w:=h.pos a (dY g);unfold aw at i;obtain⟨two,k,rfl⟩:=bQ.mp i;have e:=(zp _).mem_iff.mp k;rw[cK,g,cK,d] at e;simp only[yB] at e;unfold ah at e;obtain⟨c,n,t⟩:=bQ.mp e;have y:c<(a/2+1).toNat:=bB.mp (dL.mp n).1;have s:r=r.take p++[a,b]++r.drop (p+2):=by
  have u:r.drop p=a::r.drop (p+1):=by
   rw[kY (by lia)]
   congr 1
   exact(cU.mp g).2
  have v:r.drop (p+1)=b::r.drop (p+2):=by
   rw[kY (by lia)]
   congr 1
   exact(cU.mp d).2
  calc r=r.take p++r.drop p:=(kc p r).symm
   _=_:=by rw[u,v];simp
 have f:two.sum=a+b/\(∀x∈two,1<=x)/\two.length<=2:=by
  rw[←t];unfold eR;split
  ·rename_i o;refine⟨by simp<;>lia,λx hx=>?_,by simp⟩;simp only[bZ,OU,or_false] at hx;rcases hx with rfl|rfl<;>lia
  ·rename_i o;refine⟨by simp<;>lia,λx hx=>?_,by simp⟩;simp only[bZ,OU,or_false] at hx;subst hx;lia
 have j:r.sum=(r.take p).sum+(a+b)+(r.drop (p+2)).sum:=by
  conv=>lhs;rw[s]
  simp[iw];lia
 refine⟨λx hx=>?_,?_,?_⟩
 ·rcases dB.mp hx with hx|hx
  ·rcases dB.mp hx with hx|hx
   ·exact h.pos x (me hx)
   ·exact f.2.1 x hx
  ·exact h.pos x (pR hx)
 ·have:=h.sum;rw[iw,iw,f.1];lia
 ·have E:=h.len;rw[cJ,cJ,gw,mZ];have:=f.2.2;lia
theorem qY{r:List Int}{m:Int}{L:Nat}(h:bt r m L):∀x∈r,1<=x/\x<=m:=λx hx=>by
 refine⟨h.pos x hx,?_⟩;have:∀{r:List Int},(∀y∈r,1<=y)->∀x∈r,x<=r.sum:=λ{r}=>by
  induction r with
  |nil=>intro _ x hx;cases hx
  |cons a r ih=>
   intro h x hx;have c:=h a (by simp);have d:0<=r.sum:=px λy b=>h y (bT _ b)
   rw[fq];rcases bZ.mp hx with rfl|hx
   ·lia
   ·have:=ih (λy b=>h y (bT _ b)) x hx;lia
 exact yr (this h.pos x hx) h.sum
theorem Em{r:List Int}{m:Int}{L p:Nat}(h:bt r m L)(e:aV r p):(1<=r.getD p 0/\r.getD p 0<=m)/\(1<=r.getD (p+1) 0/\r.getD (p+1) 0<=m):=by
 obtain⟨a,b,d,c,_⟩:=e;rw[cK,d,cK,c];exact⟨qY h a (dY d),qY h b (dY c)⟩
noncomputable abbrev Lv:=List (Int×Nat×List (List Int))
def gu(a:Lv):List (Int×D):=a.map λq=>(q.1,.ref q.2.1)
structure gq (au:aa) (L:Nat) (lv:Lv):Prop where
 at_:au[L]?=some (.dI (gu lv))
 in_:∀q∈lv,au[q.2.1]?=some (.dT (aQ q.2.2))
 nd:(lv.map (·.1)).Nodup
 ix:(lv.map (·.2.1)).Nodup
 rows:∀q∈lv,q.2.2.Nodup
def bX(n:Nat) (r:List Int):Lv->Lv
 |[]=>[(aq 1 r,n,[r])]
 |q::lv=>if q.1=aq 1 r then(q.1,q.2.1,aP q.2.2 r)::lv else q::bX n r lv
theorem Ep:eF (gu lv) m=(lv.find? λq=>decide (q.1=m)).map λq=>D.ref q.2.1:=by
 induction lv with
 |nil=>rfl
 |cons q lv ih=>
  by_cases e:q.1=m
  ·simp[eF,gu,e]
  ·have a:eF (gu (q::lv)) m=eF (gu lv) m:=by simp[eF,gu,e]
   rw[a,ih,List.find?_cons_of_neg (by simpa using e)]
theorem S9:∀{a:Lv},(∀q∈a,q.1≠aq 1 r)->bX n r a=a++[(aq 1 r,n,[r])]
 |[],_=>rfl
 |q::a,h=>by
  unfold bX;rw[if_neg (h q (by simp)),S9 λx b=>h x (bT _ b)]
  rfl
theorem Ta:∀{a:Lv}{q:Int×Nat×List (List Int)},(a.map (·.1)).Nodup->q∈a->q.1=aq 1 r->bX n r a=a.map λx=>if x.1=aq 1 r then(x.1,x.2.1,aP x.2.2 r) else x
 |[],q,_,h,_=>by cases h
 |x::a,q,nd,h,e=>by
  rw[ce,gZ] at nd;unfold bX;rw[ce];by_cases c:x.1=aq 1 r
  ·rw[if_pos c,if_pos c]
   congr 1
   symm
   refine(kb (g:=id) λy b=>?_).trans (yo _);rw[if_neg λz=>nd.1 (bQ.mpr ⟨y,b,z.trans c.symm⟩)]
   rfl
  ·rw[if_neg c,if_neg c];rcases bZ.mp h with rfl|h
   ·exact absurd e c
   ·rw[Ta nd.2 h e]
theorem UO{L:Nat}{k:Int}(i:f σ au=.ok (.ref L) au)(b:au[L]?=some (.dI kv0))(c:g σ au=.ok [.int k,d] st2)(h:st2[L]?=some (.dI kvs))(e:kvs.length<sizeLine)(a:eF kvs k=some v):fW f g σ au=.ok v st2:=by
 unfold fW;rw[i,zo];dsimp only;rw[b];dsimp only;rw[c,zo]
 try dsimp only
 rw[h]
 try dsimp only
 rw[if_pos e,a]
theorem UN{L:Nat}{k:Int}(i:f σ au=.ok (.ref L) au)(b:au[L]?=some (.dI kv0))(c:g σ au=.ok [.int k,d] st2)(h:st2[L]?=some (.dI kvs))(e:kvs.length<sizeLine)(a:eF kvs k=none):fW f g σ au=.ok d (st2.set L (.dI (k6 kvs k d))):=by
 unfold fW;rw[i,zo];dsimp only;rw[b];dsimp only;rw[c,zo]
 try dsimp only
 rw[h]
 try dsimp only
 rw[if_pos e,a]
theorem uF{b c:Type}{f:b->c}:∀{l:List b},(l.map f).Nodup->∀{x y:b},x∈l->y∈l->f x=f y->x=y
 |[],_,x,y,hx,_,_=>by cases hx
 |a::l,nd,x,y,hx,hy,e=>by
  rw[ce,gZ] at nd;rcases bZ.mp hx with h1|h1
  ·rcases bZ.mp hy with h2|h2
   ·rw[h1,h2]
   ·exact absurd (bQ.mpr ⟨y,h2,by rw[←e,h1]⟩) nd.1
  ·rcases bZ.mp hy with h2|h2
   ·exact absurd (bQ.mpr ⟨x,h1,by rw[e,h2]⟩) nd.1
   ·exact uF nd.2 h1 h2 e
theorem TC{f:aa}{L:Nat}{g:Lv}{r:List Int}{Q:D->aa->Prop}(h:gq f L g)(U:r.length<=1000)(hr:∀x∈r,-10000<=x/\x<=10000)(hz:g.length<=10000)(Y:∀q∈g,q.2.2.length<=100000)
  (k:∀s,gq s L (bX f.length r g)->(∀i,i<f.length->i≠L->(∀q∈g,q.2.1≠i)->s[i]?=f[i]?)->f.length<=s.length->Q .non s):WP (vy [.ref L,aL r] f) Q:=by
 refine gM rfl ?_;simp only[W,V,M];have X:=NV (au:=f) U hr;have J:aB (aE sZ (aB (aA 1) aC)) (aB eX aC) [some (.ref L),some (aL r)] f=.ok [.int (aq 1 r),.ref f.length] (f++[.dT []]):=by
  rw[lT,show aE sZ (aB (aA 1) aC) [some (.ref L),some (aL r)] f=.ok (.int (aq 1 r)) f from X]
  rfl
 have hL:=ip h.at_;have d:∀{i:Nat}{o:O},f[i]?=some o->(f++[O.dT []])[i]?=some o:=λe=>by rw[gx (ip e)];exact e
 have m:(gu g).length<sizeLine:=by unfold gu;rw[bh];exact d5 _ (by lia)
 cases hf:g.find? λq=>decide (q.1=aq 1 r) with
 |some q=>
  have l:=PB hf;have n:q.1=aq 1 r:=by simpa using OL hf
  have G:q.2.1≠L:=λz=>by have:=h.in_ q l;rw[z,h.at_] at this;cases this
  refine WP.of (UO rfl h.at_ J (d h.at_) m (by rw[Ep,hf];rfl)) ?_;refine WP.of (uM (d (h.in_ q l)) (by have:=Y q l;lia)) (k _ ?_ (λi A w t=>?_) (by rw[iV,cJ];lia))
  ·rw[Ta h.nd l n];refine⟨?_,λx hx=>?_,?_,?_,λx hx=>?_⟩
   ·rw[ft G,d h.at_]
    congr 2
    unfold gu;rw[eM];refine(kb λy j=>?_).symm;simp only[Function.comp];split<;>rfl
   ·obtain⟨y,j,rfl⟩:=bQ.mp hx;by_cases c:y.1=aq 1 r
    ·have I:y=q:=uF h.nd j l (c.trans n.symm);subst I;rw[if_pos c];exact mV (ip (d (h.in_ y j)))
    ·rw[if_neg c];have H:q.2.1≠y.2.1:=λz=>c (by rw[←uF h.ix l j z];exact n)
     rw[ft H];exact d (h.in_ y j)
   ·rw[eM];have:(g.map ((λx=>x.1) ∘ λx=>if x.1=aq 1 r then(x.1,x.2.1,aP x.2.2 r) else x))=g.map (·.1):=kb λy _=>by simp only[Function.comp];split<;>rfl
    rw[this];exact h.nd
   ·rw[eM];have:(g.map ((λx=>x.2.1) ∘ λx=>if x.1=aq 1 r then(x.1,x.2.1,aP x.2.2 r) else x))=g.map (·.2.1):=kb λy _=>by simp only[Function.comp];split<;>rfl
    rw[this];exact h.ix
   ·obtain⟨y,j,rfl⟩:=bQ.mp hx;split
    ·exact tP (h.rows y j)
    ·exact h.rows y j
  ·rw[ft (t q l),gx A]
 |none=>
  have E:∀q∈g,q.1≠aq 1 r:=λq l=>by simpa using yM.mp hf q l
  have hp:k6 (gu g) (aq 1 r) (.ref f.length)=gu (g++[(aq 1 r,f.length,[r])]):=by
   unfold k6;rw[if_neg]
   ·unfold gu;rw[iU];rfl
   ·rw[Bool.not_eq_true,List.any_eq_false];intro x hx;obtain⟨y,j,rfl⟩:=bQ.mp hx
    simpa using E y j
  have v:L≠f.length:=dO hL;refine WP.of (UN rfl h.at_ J (d h.at_) m (by rw[Ep,hf];rfl)) ?_;rw[hp];have P:((f++[O.dT []]).set L (.dI (gu (g++[(aq 1 r,f.length,[r])]))))[f.length]?=some (.dT (aQ [])):=by
   rw[ft v,kZ (bj _),rm];rfl
  refine WP.of (uM P (by simp)) (k _ ?_ (λi A w t=>?_) (by rw[iV,iV,cJ];lia))
  ·rw[S9 E,show aP [] r=[r] from rfl];have u:∀q∈g,q.2.1<f.length:=λq l=>ip (h.in_ q l)
   refine⟨?_,λx hx=>?_,?_,?_,λx hx=>?_⟩
   ·rw[ft v.symm,mV (by rw[cJ];lia)]
   ·rcases dB.mp hx with hx|hx
    ·have h1:f.length≠x.2.1:=(dO (u x hx)).symm;have S:L≠x.2.1:=λz=>by have:=h.in_ x hx;rw[←z,h.at_] at this;cases this
     rw[ft h1,ft S];exact d (h.in_ x hx)
    ·simp at hx;subst hx
     exact mV (ip P)
   ·rw[iU,yJ];refine⟨h.nd,by simp,λa C b p=>?_⟩;obtain⟨y,j,rfl⟩:=bQ.mp C;simp at p;subst p
    exact E y j
   ·rw[iU,yJ];refine⟨h.ix,by simp,λa C b p=>?_⟩;obtain⟨y,j,rfl⟩:=bQ.mp C;simp at p;subst p
    exact dO (u y j)
   ·rcases dB.mp hx with hx|hx
    ·exact h.rows x hx
    ·simp at hx;subst hx;simp
  ·rw[ft (dO A).symm,ft w.symm,gx A]
noncomputable abbrev Lr:=List (Int×List (List Int))
def dj(a:Lv):Lr:=a.map λq=>(q.1,q.2.2)
def cp(r:List Int):Lr->Lr
 |[]=>[(aq 1 r,[r])]
 |q::lr=>if q.1=aq 1 r then(q.1,aP q.2 r)::lr else q::cp r lr
theorem BW:∀{a:Lv},dj (bX n r a)=cp r (dj a)
 |[]=>rfl
 |q::a=>by
  unfold bX;show _=cp r ((q.1,q.2.2)::dj a);unfold cp;dsimp only;split
  ·rfl
  ·show(q.1,q.2.2)::dj (bX n r a)=_;rw[BW]
noncomputable def f8:List Nat->Nat->Nat
 |[],_=>0
 |t::ts,v=>bif Nat.beq v 0 then 0 else Nat.xor (bif Nat.beq (v%2) 1 then t else 0) (f8 ts (v/2))
noncomputable def p9:Nat->Nat->Nat
 |0,_=>0
 |f+1,c=>bif Nat.beq c 0 then 0 else Nat.xor (2^(c%100-1)) (p9 f (c/100))
noncomputable def WU:List (List Nat):=[[2,0,5,6,0,0,9,11,0,14,0,16,17,0,19,0,0,23,0,25,27,28,0,30,0,32,0,0,35,0,37,0,40,41,0,43,0,46,47,0,0,50,0,52,54,0,0,57,58,0,60,0,63,0,66,67,0,0,70,0,72,73,0,76,77,0,0,80,81,0,83],[3,4,6,0,908,11,1211,15,15,18,0,19,21,22,0,2524,26,28,30,3130,32,0,3534,36,36,0,4038,41,4241,0,43,46,4846,49,49,0,5251,55,56,55,0,58,60,6160,64,0,65,66,0,7069,71,71,74,75,0,77,8078,81,8281,0,83],[5,6,0,0,11,0,16,19,19,23,0,0,27,28,0,30,32,0,0,37,0,0,41,43,43,0,46,0,50,0,0,0,57,58,58,0,60,66,67,66,0,0,0,72,76,0,77,0,0,81,83,83],[7,8,10,13,14,17,1918,21,252423,2826,3027,3129,32,353432,3633,3735,4038,4238,4340,444342,48,494745,5046,5148,5150,5554,57,5854,595855,57,59,66,6866,696564,6966,68,70,7875,7975,78,7776,78,80,8382],[9,11,14,17,0,0,23,27,30,32,0,3735,0,41,4340,0,46,5046,0,5250,57,5854,0,6057,60,66,0,0,7066,0,70,0,80,817776,81,80],[12,15,18,21,22,26,28,32,3534,0,4038,434241,0,46,4846,525149,0,5855,6055,616058,66,6564,7069,7166,717069,75,8078,8175,8281,8078,8281],[16,19,23,27,28,32,0,0,41,0,46,50,0,0,57,6058,0,66,66,72,0,7776,81,83,8381],[20,24,29,33,34,38,39,45,47,53,54,5856,62,63,6664,706967,73,74,807876,838279],[25,30,35,40,41,46,47,54,0,63,0,67,73,0,76,81],[31,36,42,48,49,55,56,64,65,74,75,77],[37,43,50,57,58,66,67,76,77],[44,51,59,68,69,78,79],[52,60,70,80,81],[61,71,82],[72,83],[84]]
def gC:List (List Nat):=[]::WU.map λl=>(l++List.replicate (84-l.length) 0).map (p9 3)
noncomputable def aY:List (List Int):=[[],[1],[2],[2,1],[3],[3,1],[4],[4,1],[5],[4,2],[5,1],[6],[4,2,1],[5,2],[6,1],[7],[5,2,1],[6,2],[7,1],[8],[6,2,1],[6,3],[7,2],[8,1],[9],[6,3,1],[7,2,1],[7,3],[8,2],[9,1],[10],[7,3,1],[8,2,1],[8,3],[9,2],[10,1],[11],[8,3,1],[8,4],[9,2,1],[9,3],[10,2],[11,1],[12],[8,4,1],[9,3,1],[9,4],[10,2,1],[10,3],[11,2],[12,1],[13],[8,4,2],[9,4,1],[10,3,1],[10,4],[11,2,1],[11,3],[12,2],[13,1],[14],[8,4,2,1],[9,4,2],[10,4,1],[10,5],[11,3,1],[11,4],[12,2,1],[12,3],[13,2],[14,1],[15],[9,4,2,1],[10,4,2],[10,5,1],[11,4,1],[11,5],[12,3,1],[12,4],[13,2,1],[13,3],[14,2],[15,1],[16]]
def jN(a v:Nat):Nat:=f8 (gC.getD a []) v
theorem BX:∀a,f8 a 0=0
 |[]=>rfl
 |_::_=>rfl
theorem lB(t:Nat)(a:List Nat)(v:Nat):f8 (t::a) v=(if v%2=1 then t else 0)^^^f8 a (v/2):=by
 by_cases c:v=0
 ·subst c;rw[BX,if_neg (by decide),Nat.zero_div,BX];rfl
 ·have b:Nat.beq v 0=false:=by
   cases h:Nat.beq v 0 with
   |false=>rfl
   |true=>exact absurd (pS h) c
  have e:(bif Nat.beq (v%2) 1 then t else 0)=if v%2=1 then t else 0:=by
   by_cases d:v%2=1
   ·rw[if_pos d,d];rfl
   ·have:v%2=0:=by lia
    rw[if_neg d,this];rfl
  show(bif Nat.beq v 0 then 0 else Nat.xor (bif Nat.beq (v%2) 1 then t else 0) (f8 a (v/2)))=_;rw[b,e];rfl
theorem ym(a b c d:Nat):(a^^^b)^^^(c^^^d)=(a^^^c)^^^(b^^^d):=by
 rw[gY,gY,←gY b,←gY c,CJ b c]
theorem xL:∀(c:List Nat) (v w:Nat),f8 c (v^^^w)=f8 c v^^^f8 c w
 |[],v,w=>by show 0=0^^^0;rw[pE]
 |t::c,v,w=>by
  rw[lB,lB,lB,Nat.xor_div_two,xL c,ym]
  congr 1
  have:=Nat.xor_mod_two_eq_one (a:=v) (b:=w);by_cases c1:v%2=1<;>by_cases c2:w%2=1<;>simp[c1,c2,this]
theorem Ec(b:f 0=0)(c:∀v w,f (v^^^w)=f v^^^f w):∀(a:List Nat) (v:Nat),f8 (a.map f) v=f (f8 a v)
 |[],v=>b.symm
 |t::a,v=>by
  rw[ce,lB,lB,c,Ec b c a]
  congr 1
  split
  ·rfl
  ·exact b.symm
theorem xM:∀(b a:List Nat) (v:Nat),b.length=a.length->f8 (List.zipWith Nat.xor b a) v=f8 b v^^^f8 a v
 |[],[],v,_=>by show 0=0^^^0;rw[pE]
 |[],_::_,v,h=>by cases h
 |_::_,[],v,h=>by cases h
 |t::b,u::a,v,h=>by
  show f8 (Nat.xor t u::List.zipWith Nat.xor b a) v=_;rw[lB,lB,lB,xM b a _ (by simpa using h),ym]
  congr 1
  split
  ·rfl
  ·rfl
theorem xK:∀(a:List Nat) (i:Nat),f8 a (2^i)=a.getD i 0
 |[],i=>by simp[f8]
 |t::a,0=>by rw[lB];simp[BX]
 |t::a,i+1=>by
  rw[lB,if_neg (by rw[tV];lia),show 2^(i+1)/2=2^i by rw[tV];lia,xK a i,pF]
  rfl
theorem EG(a:Nat):jN a 0=0:=BX _
theorem Eb(a v w:Nat):jN a (v^^^w)=jN a v^^^jN a w:=xL _ _ _
def hE(r:List Int) (v:Nat):Nat:=r.foldr (λa v=>jN a.toNat v) v
def nu(r:List Int):Nat:=hE r 1
def cn(l:List (List Int)):Nat:=l.foldr (λr x=>nu r^^^x) 0
theorem Co(r s:List Int)(v:Nat):hE (r++s) v=hE r (hE s v):=by unfold hE;rw[List.foldr_append]
theorem Ra:∀r,hE r 0=0
 |[]=>rfl
 |a::r=>by show jN _ (hE r 0)=0;rw[Ra r,EG]
theorem xJ:∀r v w,hE r (v^^^w)=hE r v^^^hE r w
 |[],_,_=>rfl
 |a::r,v,w=>by show jN _ (hE r _)=jN _ (hE r v)^^^jN _ (hE r w);rw[xJ r,Eb]
theorem SM:∀l m,cn (l++m)=cn l^^^cn m
 |[],m=>(pF _).symm
 |r::l,m=>by show nu r^^^cn (l++m)=(nu r^^^cn l)^^^cn m;rw[SM l m,gY]
theorem Mh{l:List (List Int)}(h:l.Perm m):cn l=cn m:=by
 induction h with
 |nil=>rfl
 |@cons x a b _ ih=>show nu x^^^cn a=nu x^^^cn b;rw[ih]
 |swap x y l=>show nu y^^^(nu x^^^cn l)=nu x^^^(nu y^^^cn l);rw[←gY,←gY,CJ (nu y)]
 |trans _ _ a b=>exact a.trans b
theorem Me{l:List (List Int)}(b:l.Nodup):cn (aP l r)=cn l^^^nu r:=by
 unfold aP;split
 ·rename_i h;have:∀{l:List (List Int)},l.Nodup->r∈l->cn (l.filter λx=>decide (x≠r))=cn l^^^nu r:=λ{l}=>by
   induction l with
   |nil=>intro _ h;cases h
   |cons a l ih=>
    intro b h;rw[gZ] at b;by_cases c:a=r
    ·subst c;have e:l.filter (λx=>decide (x≠a))=l:=Pg.mpr λx d=>by
      rw[lG];intro z;subst z;exact b.1 d
     rw[g9 (by simp),e];show cn l=(nu a^^^cn l)^^^nu a;rw[CJ,←gY,pE,pF]
    ·rw[gS (by simpa using c)];show nu a^^^cn (l.filter λx=>decide (x≠r))=(nu a^^^cn l)^^^nu r;rw[ih b.2 (by rcases bZ.mp h with z|z;exact absurd z.symm c;exact z),gY]
  exact this b h
 ·rw[SM];show cn l^^^(nu r^^^0)=_;rw[jx]
theorem R1:∀(m l:List (List Int)),l.Nodup->cn (m.foldl aP l)=cn l^^^cn m
 |[],l,_=>(jx _).symm
 |r::m,l,nd=>by
  rw[lE,R1 m _ (tP nd),Me nd];show _=cn l^^^(nu r^^^cn m);rw[gY]
def AB:List Int->List Nat
 |[x]=>gC.getD x.toNat []
 |[x,y]=>(gC.getD y.toNat []).map (jN x.toNat)
 |_=>[]
noncomputable def twosN(a b n:Nat):List (List Int):=((List.range n).filter λc=>Nat.beq (Nat.land (b-c-1) (a-2*c)) (a-2*c)).map λc=>if c=0 then[((a+b:Nat):Int)] else[((a+b-c:Nat):Int),(c:Int)]
def mB(a b:Nat):Bool:=bif Nat.blt a (2*b) then decide ((gC.getD b []).map (jN a)=(twosN a b (a/2+1)).foldr (λtwo m=>List.zipWith Nat.xor (AB two) m) (List.replicate 84 0)) else true
theorem NZ:((List.range 17).all λa=>(List.range (17-a)).all λb=>bif Nat.blt 0 a&&Nat.blt 0 b then mB a b else true)=true:=by decide +kernel
theorem JU:(gC.all λt=>Nat.beq t.length 84||Nat.beq t.length 0)=true/\((List.range 16).all λi=>Nat.beq (gC.getD (i+1) []).length 84)=true:=by decide +kernel
theorem qV(h:1<=a)(b:a<=16):(gC.getD a []).length=84:=by
 have:=cZ.mp JU.2 (a-1) (bB.mpr (by lia));rw[show a-1+1=a by lia] at this;exact pS this
theorem R0:∀n v,f8 (List.replicate n 0) v=0
 |0,_=>rfl
 |n+1,v=>by
  rw[pQ,lB,R0 n];split<;>rfl
theorem Oy{a b n:Nat}{two:List Int}(h:two∈twosN a b n):(two=[((a+b:Nat):Int)])\/∃c:Nat,0<c/\c<n/\two=[((a+b-c:Nat):Int),(c:Int)]:=by
 unfold twosN at h;obtain⟨c,d,rfl⟩:=bQ.mp h;have d:=bB.mp (dL.mp d).1;by_cases z:c=0
 ·rw[if_pos z];exact .inl rfl
 ·rw[if_neg z];exact .inr ⟨c,by lia,d,rfl⟩
theorem Hy(p:1<=a)(o:1<=b)(q:a+b<=16)(n:a<2*b)(v:Nat):(twosN a b (a/2+1)).foldr (λtwo x=>hE two v^^^x) 0=jN a (jN b v):=by
 have h:=NZ;have h:=cZ.mp h a (bB.mpr (by lia));have h:=cZ.mp h b (bB.mpr (by lia));rw[show(Nat.blt 0 a&&Nat.blt 0 b)=true by rw[jm];exact⟨Ds (by lia),Ds (by lia)⟩] at h;have h:mB a b=true:=h;unfold mB at h;rw[show Nat.blt a (2*b)=true from Ds (by lia)] at h;have h:=gP h;have g:=congrArg (λm=>f8 m v) h;simp only[Ec (EG a) (Eb a)] at g;show _=jN a (f8 (gC.getD b []) v);rw[g];have f:∀(d:List (List Int)),(∀two∈d,two∈twosN a b (a/2+1))->f8 (d.foldr (λtwo m=>List.zipWith Nat.xor (AB two) m) (List.replicate 84 0)) v=d.foldr (λtwo x=>hE two v^^^x) 0/\(d.foldr (λtwo m=>List.zipWith Nat.xor (AB two) m) (List.replicate 84 0)).length=84:=λd=>by
  induction d with
  |nil=>intro _;exact⟨R0 _ _,by simp⟩
  |cons two d ih=>
   intro j;obtain⟨k,i⟩:=ih λt l=>j t (bT _ l)
   have e:(AB two).length=84/\f8 (AB two) v=hE two v:=by
    rcases Oy (j two (by simp)) with rfl|⟨c,s,r,rfl⟩
    ·exact⟨qV (by simp;lia) (by simp;lia),rfl⟩
    ·refine⟨?_,?_⟩
     ·show((gC.getD (c:Int).toNat []).map _).length=_;rw[bh];exact qV (by simp;lia) (by simp;lia)
     ·show f8 ((gC.getD (c:Int).toNat []).map _) v=_;rw[Ec (EG _) (Eb _)];rfl
   rw[List.foldr_cons,List.foldr_cons];refine⟨?_,by rw[List.length_zipWith,e.1,i];rfl⟩;rw[xM _ _ _ (by rw[e.1,i]),e.2,k]
 exact(f _ λ_ h=>h).1.symm
theorem Ol{a b:Nat}(i:1<=a)(g:1<=b)(f:a<2*b):∀{n:Nat},n<=a/2+1->ah a b n=twosN a b n:=λ{n} j=>by
 unfold ah twosN;have e:((List.range n).filter λ(c:Nat)=>fi ((b:Int)-c-1) ((a:Int)-2*c))=(List.range n).filter λc=>Nat.beq (Nat.land (b-c-1) (a-2*c)) (a-2*c):=by
  refine m3 λc d=>?_
  have d:=bB.mp d;rw[show(b:Int)-c-1=((b-c-1:Nat):Int) by lia,show(a:Int)-2*c=((a-2*c:Nat):Int) by lia,Rg];generalize b-c-1=x;generalize a-2*c=y;show decide (Nat.land x y=y)=_;cases h:Nat.beq (Nat.land x y) y with
  |true=>exact cC (pS h)
  |false=>exact cI (Nat.ne_of_beq_eq_false h)
 rw[e];refine kb λc d=>?_
 have d:=bB.mp (dL.mp d).1;unfold eR;by_cases z:c=0
 ·subst z;rw[if_pos rfl,if_neg (by lia)];rfl
 ·rw[if_neg z,if_pos (by lia)]
  congr 1
  lia
theorem xO{f:List Int->List Int}{g:List Int->Nat}(w:Nat)(r:List Int)(h:∀two,nu (f two)=hE r (g two)):∀l:List (List Int),cn (l.map f)=hE r (l.foldr (λtwo x=>g two^^^x) 0)
 |[]=>(Ra r).symm
 |two::l=>by
  show nu (f two)^^^cn (l.map f)=hE r (g two^^^l.foldr (λtwo x=>g two^^^x) 0);rw[xO w r h l,xJ,h]
theorem Hw{r:List Int}{p:Nat}{L:Nat}(h:bt r 16 L)(j:aV r p):cn (aw r p)=nu r:=by
 obtain⟨a,b,e,c,m⟩:=j;have s:p+1<r.length:=(cU.mp c).1;have o:=h.pos a (dY e);have n:=h.pos b (dY c);have i:r=r.take p++([a,b]++r.drop (p+2)):=by
  have k:r.drop p=a::r.drop (p+1):=by
   rw[kY (by lia)]
   congr 1
   exact(cU.mp e).2
  have l:r.drop (p+1)=b::r.drop (p+2):=by
   rw[kY (by lia)]
   congr 1
   exact(cU.mp c).2
  calc r=r.take p++r.drop p:=(kc p r).symm
   _=_:=by rw[k,l];simp
 have d:a+b<=16:=by
  have t:r.sum=(r.take p).sum+(a+(b+(r.drop (p+2)).sum)):=by
   conv=>lhs;rw[i]
   rw[iw,iw];simp;lia
  have q:=h.sum;have v:0<=(r.take p).sum:=px λx f=>h.pos x (me f)
  have u:0<=(r.drop (p+2)).sum:=px λx f=>h.pos x (pR f)
  lia
 obtain⟨a,rfl⟩:=kX (show 0<=a by lia);obtain⟨b,rfl⟩:=kX (show 0<=b by lia);unfold aw;rw[cK,e,cK,c];simp only[yB];rw[Mh ((zp _).map _),show((a:Int)/2+1).toNat=a/2+1 by lia,Ol (by lia) (by lia) (by lia) (bj _)];rw[xO (g:=λtwo=>hE two (hE (r.drop (p+2)) 1)) 0 (r.take p) λtwo=>by unfold nu;rw[Co,Co]];rw[Hy (by lia) (by lia) (by lia) (by lia)]
 conv=>rhs;rw[i]
 unfold nu;rw[Co,Co];rfl
def jM(i a:Nat):Bool:=match aY[i]? with
 |none=>true
 |some r=>bif decide ((a:Int)+r.sum<=16)&&decide (2*r.headD 0<=(a:Int)) then(match aY[aY.idxOf ((a:Int)::r)]? with|some b=>decide (b=(a:Int)::r)|none=>false)&&Nat.beq ((gC.getD a []).getD i 0) (2^aY.idxOf ((a:Int)::r)) else true
theorem UD:((List.range 84).all λi=>(List.range 17).all λa=>bif Nat.beq a 0 then true else jM i a)=true:=by decide +kernel
theorem Ed:aY.Nodup:=by decide +kernel
theorem pp:aY.length=84:=by decide +kernel
def lP(r:List Int):Prop:=∀p,¬ aV r p
theorem Iy(h:ay r=[]):lP r:=λp a=>by
 have:=Cn.mpr a;rw[h] at this;cases this
theorem lP.tail(h:lP (a::r)):lP r:=λp ⟨x,y,c,b,q⟩=>h (p+1) ⟨x,y,by simpa using c,by simpa using b,q⟩
theorem lP.head(h:lP (a::r))(d:1<=a):2*r.headD 0<=a:=by
 cases r with
 |nil=>simp;lia
 |cons b r=>
  have:=h 0;refine Classical.byContradiction λc=>this ⟨a,b,rfl,rfl,?_⟩
  simp at c;lia
theorem EH{L:Nat}:∀{r:List Int},bt r 16 L->lP r->∃i,aY[i]?=some r/\nu r=2^i
 |[],_,_=>⟨0,by decide +kernel,rfl⟩
 |a::r,h,hs=>by
  have g:=h.pos a (by simp);have b:=h.sum;rw[fq] at b;have o:0<=r.sum:=px λx d=>h.pos x (bT _ d)
  obtain⟨i,e,m⟩:=EH (L:=L) (r:=r) ⟨λx d=>h.pos x (bT _ d),by lia,by have:=h.len;rw[dh] at this;lia⟩ hs.tail;have j:i<84:=by have:=(cU.mp e).1;rw[pp] at this;exact this
  have l:=hs.head g;obtain⟨a,rfl⟩:=kX (show 0<=a by lia);have k:=cZ.mp (cZ.mp UD i (bB.mpr j)) a (bB.mpr (by lia));rw[show Nat.beq a 0=false by cases z:Nat.beq a 0 with|false=>rfl|true=>have:=pS z;lia] at k;have k:jM i a=true:=k;unfold jM at k;rw[e] at k;have k:(bif decide ((a:Int)+r.sum<=16)&&decide (2*r.headD 0<=(a:Int)) then(match aY[aY.idxOf ((a:Int)::r)]? with|some f=>decide (f=(a:Int)::r)|none=>false)&&Nat.beq ((gC.getD a []).getD i 0) (2^aY.idxOf ((a:Int)::r)) else true)=true:=k;rw[cC (show(a:Int)+r.sum<=16 by lia),cC l] at k;simp only[CS,cond_true] at k;rw[jm] at k;obtain⟨c,n⟩:=k;refine⟨aY.idxOf ((a:Int)::r),?_,?_⟩
  ·cases z:aY[aY.idxOf ((a:Int)::r)]? with
   |none=>rw[z] at c;cases c
   |some f=>
    rw[z] at c;rw[gP c]
  ·show jN _ (nu r)=_;rw[m];show f8 (gC.getD a []) (2^i)=_;rw[xK];exact pS n
def mL(l:List (List Int)):Prop:=∀r∈l,bt r 16 6/\lP r
theorem xN(h:mL l) (d:aY[i]?=some x):(cn l).testBit i=decide (l.count x%2=1):=by
 induction l with
 |nil=>simp[cn]
 |cons r l a=>
  have a:=a λy g=>h y (bT _ g)
  obtain⟨j,b,k⟩:=EH (h r (by simp)).1 (h r (by simp)).2;show(nu r^^^cn l).testBit i=_;rw[tY,a,k,Dj,om];by_cases c:j=i
  ·subst c;rw[d] at b;cases b;rw[cC rfl,if_pos (by simp)];rcases mh (l.count x) with z|z
   ·rw[cI (by lia),cC (by lia)];rfl
   ·rw[cC z,cI (by lia)];rfl
  ·have:¬ r=x:=λz=>by
    subst z;obtain⟨n,f⟩:=cU.mp b;obtain⟨m,e⟩:=cU.mp d;exact c ((C3 Ed).mp (f.trans e.symm))
   simp[c,this]
def i3(v:Nat):List (List Int):=av (((List.range 84).filter λi=>v.testBit i).map λi=>aY.getD i [])
theorem Ix(h:mL l)(k:l.Nodup):av l=i3 (cn l):=by
 unfold i3;refine Tj (Fo k ?_ λx=>?_)
 ·refine O0 _ (R:=λi j=>i≠j/\i<84/\j<84) ?_ ?_
  ·rintro i j ⟨p,o,q⟩ e;rw[cK,cK,bS (by rw[pp];exact o),bS (by rw[pp];exact q)] at e;exact p ((C3 Ed).mp e)
  ·refine List.Pairwise.imp_of_mem (R:=(·≠·)) (λ{a b} n f h=>⟨h,bB.mp (dL.mp n).1,bB.mp (dL.mp f).1⟩) (pK.filter _)
 ·constructor
  ·intro g;obtain⟨i,m,r⟩:=EH (h x g).1 (h x g).2;have d:i<84:=by have:=(cU.mp m).1;rw[pp] at this;exact this
   refine bQ.mpr ⟨i,dL.mpr ⟨bB.mpr d,?_⟩,by rw[cK,m];rfl⟩;rw[xN h m,OS k,if_pos g];rfl
  ·intro g;obtain⟨i,d,rfl⟩:=bQ.mp g;obtain⟨d,f⟩:=dL.mp d;have d:=bB.mp d;have e:aY[i]?=some (aY.getD i []):=by rw[cK,bS (by rw[pp];exact d)];rfl
   rw[xN h e,OS k] at f;by_cases c:aY.getD i []∈l
   ·exact c
   ·rw[if_neg c] at f;simp at f
theorem D9{d:Type}[DecidableEq d]:∀{l m:List d},l.Nodup->(∀x∈l,x∈m)->l.length<=m.length
 |[],m,_,_=>ir _
 |a::l,m,nd,h=>by
  rw[gZ] at nd;have b:a∈m:=h a (by simp);have f:=D9 (l:=l) (m:=m.erase a) nd.2 λx c=>by
   refine(List.mem_erase_of_ne λe=>?_).mpr (h x (bT _ c));subst e;exact nd.1 c
  rw[List.length_erase_of_mem b] at f;have:0<m.length:=List.length_pos_of_mem b;rw[dh];lia
noncomputable def jR:Nat->Nat->List (List Int)
 |0,_=>[[]]
 |k+1,s=>[]::(List.range s).flatMap λa=>(jR k (s-1-a)).map λr=>((a+1:Nat):Int)::r
noncomputable def o0:Nat->Nat->Nat
 |0,_=>1
 |k+1,s=>1+((List.range s).map λa=>o0 k (s-1-a)).sum
theorem QC:∀k s,(jR k s).length=o0 k s
 |0,_=>rfl
 |k+1,s=>by
  unfold jR o0;rw[dh,List.length_flatMap,CM]
  congr 2
  refine kb λa _=>?_
  rw[bh,QC k]
theorem QD:∀(k s:Nat) (r:List Int),bt r s k->r∈jR k s
 |0,s,r,h=>by
  have:=h.len;have:r=[]:=yS.mp (by lia);subst this;simp[jR]
 |k+1,s,[],_=>by simp[jR]
 |k+1,s,a::r,h=>by
  have d:=h.pos a (by simp);have c:=h.sum;rw[fq] at c;have e:0<=r.sum:=px λx b=>h.pos x (bT _ b)
  obtain⟨a,rfl⟩:=kX (show 0<=a by lia);unfold jR;refine bT _ (fr.mpr ⟨a-1,bB.mpr (by lia),bQ.mpr ⟨r,QD k _ r ⟨λx b=>h.pos x (bT _ b),?_,?_⟩,?_⟩⟩)
  ·lia
  ·have:=h.len;rw[dh] at this;lia
  ·rw[show a-1+1=a by lia]
theorem Rp{l:List (List Int)}(c:l.Nodup)(h:∀r∈l,bt r 16 6):l.length<=15000:=by
 have b:=D9 c λr d=>QD 6 16 r (h r d)
 rw[QC] at b;have a:Nat.ble (o0 6 16) 15000=true:=by decide +kernel
 have a:=Dr a;lia
theorem wA:∀{r:List Int}{k:Int},0<=k->(∀x∈r,1<=x)->0<=aq k r
 |[],k,_,_=>by simp[aq]
 |x::r,k,hk,h=>by
  have b:=wA (r:=r) (k:=k+1) (by lia) λy a=>h y (bT _ a)
  have d:=h x (by simp);have c:0<=k*x:=OG hk (by lia);unfold aq;lia
theorem wz:∀{r:List Int}{k:Int},0<=k->(∀x∈r,1<=x)->aq k r<=(k+r.length)*r.sum
 |[],k,_,_=>by simp[aq]
 |x::r,k,hk,h=>by
  have d:=wz (r:=r) (k:=k+1) (by lia) λy b=>h y (bT _ b)
  have e:=h x (by simp);have f:0<=((r.length:Int)+1)*x:=OG (by lia) (by lia);rw[fq,dh,CF];unfold aq;have a:(k+((r.length+1:Nat):Int))*x=k*x+((r.length:Int)+1)*x:=by rw[←tT];congr 1;try lia
  have c:(k+1+(r.length:Int))*r.sum=(k+((r.length+1:Nat):Int))*r.sum:=by congr 1;push_cast;lia
  rw[a];rw[c] at d
  lia
theorem wy(h:bt r 16 6):0<=aq 1 r/\aq 1 r<=112:=by
 refine⟨wA (by lia) h.pos,yr (wz (by lia) h.pos) ?_⟩;have b:=h.len;have c:=h.sum;have a:0<=r.sum:=px h.pos
 calc (1+(r.length:Int))*r.sum<=7*r.sum:=Int.mul_le_mul_of_nonneg_right (by lia) a
  _<=112:=by lia
structure ii (lr:Lr):Prop where
 nd:(lr.map (·.1)).Nodup
 row:∀q∈lr,∀r∈q.2,bt r 16 6/\aq 1 r=q.1
 key:∀q∈lr,0<=q.1/\q.1<=112
 rnd:∀q∈lr,q.2.Nodup
theorem ii.few(h:ii b):b.length<=113/\∀q∈b,q.2.length<=15000:=by
 refine⟨?_,λq a=>Rp (h.rnd q a) λr d=>(h.row q a r d).1⟩;have:=D9 (m:=(List.range 113).map λ(i:Nat)=>(i:Int)) h.nd λx c=>by
  obtain⟨q,a,rfl⟩:=bQ.mp c;have:=h.key q a;exact bQ.mpr ⟨q.1.toNat,bB.mpr (by lia),by lia⟩
 simpa using this
theorem tM:∀{a:Lr}(q:Int×List (List Int)),q∈cp r a->q∈a\/(q.1=aq 1 r/\((q.2=[r]/\∀x∈a,x.1≠aq 1 r)\/∃l,(q.1,l)∈a/\q.2=aP l r))
 |[],q,h=>by
  unfold cp at h;simp at h;subst h;exact .inr ⟨rfl,.inl ⟨rfl,λx f=>by cases f⟩⟩
 |x::a,q,h=>by
  unfold cp at h;split at h
  ·rename_i c;rcases bZ.mp h with rfl|h
   ·exact .inr ⟨c,.inr ⟨x.2,by simp,rfl⟩⟩
   ·exact .inl (bT _ h)
  ·rename_i c;rcases bZ.mp h with rfl|h
   ·exact .inl (by simp)
   ·rcases tM q h with h|⟨e,⟨b,d⟩|⟨l,b,d⟩⟩
    ·exact .inl (bT _ h)
    ·refine .inr ⟨e,.inl ⟨b,λy hy=>?_⟩⟩;rcases bZ.mp hy with rfl|hy
     ·exact c
     ·exact d y hy
    ·exact .inr ⟨e,.inr ⟨l,bT _ b,d⟩⟩
theorem QS:∀{a:Lr},(a.map (·.1)).Nodup->((cp r a).map (·.1)).Nodup
 |[],_=>by simp[cp]
 |x::a,nd=>by
  rw[ce,gZ] at nd;unfold cp;split
  ·rw[ce,gZ];exact nd
  ·rename_i c;rw[ce,gZ];refine⟨λz=>?_,QS nd.2⟩;obtain⟨q,b,e⟩:=bQ.mp z;rcases tM q b with h|⟨h,_⟩
   ·exact nd.1 (bQ.mpr ⟨q,h,e⟩)
   ·exact c (e.symm.trans h)
theorem ii.flip(h:ii lr)(f:bt r 16 6):ii (cp r lr):=by
 refine⟨QS h.nd,λq d x c=>?_,λq d=>?_,λq d=>?_⟩
 ·rcases tM q d with a|⟨a,⟨b,e⟩|⟨l,b,e⟩⟩
  ·exact h.row q a x c
  ·rw[b,em] at c;subst c;exact⟨f,a.symm⟩
  ·rw[e,lU] at c;rcases c with⟨c,_⟩|⟨rfl,_⟩
   ·exact h.row _ b x c
   ·exact⟨f,a.symm⟩
 ·rcases tM q d with a|⟨a,_⟩
  ·exact h.key q a
  ·rw[a];exact wy f
 ·rcases tM q d with a|⟨a,⟨b,e⟩|⟨l,b,e⟩⟩
  ·exact h.rnd q a
  ·rw[b];simp
  ·rw[e];exact tP (h.rnd _ b)
def gv(a:Lr) (x:List Int):Prop:=∃q∈a,x∈q.2
theorem LM(h:ii b)(o:bt r 16 6):gv (cp r b) x↔(gv b x/\x≠r)\/(x=r/\¬ gv b r):=by
 have j:∀{b:Lr},(b.map (·.1)).Nodup->(∀q∈b,∀r∈q.2,aq 1 r=q.1)->(gv (cp r b) x↔(gv b x/\x≠r)\/(x=r/\¬ gv b r)):=λ{b}=>by
  induction b with
  |nil=>
   intro _ _;unfold cp gv;simp
  |cons a b ih=>
   intro g l;rw[ce,gZ] at g;have f:∀y,gv (a::b) y↔y∈a.2\/gv b y:=λy=>by unfold gv;simp
   unfold cp;split
   ·rename_i c;have m:¬ gv b r:=λ⟨q,d,k⟩=>g.1 (bQ.mpr ⟨q,d,by rw[c];exact(l q (bT _ d) r k).symm⟩)
    have i:gv ((a.1,aP a.2 r)::b) x↔x∈aP a.2 r\/gv b x:=by unfold gv;simp
    rw[i,lU,f,f];by_cases e:x=r
    ·subst e;simp[m]
    ·simp[e]
   ·rename_i c;have i:gv (a::cp r b) x↔x∈a.2\/gv (cp r b) x:=by unfold gv;simp
    have n:r∉a.2:=λz=>c (l a (by simp) r z).symm
    rw[i,ih g.2 λq d=>l q (bT _ d),f,f];by_cases e:x=r
    ·subst e;simp[n]
    ·simp[e]
 exact j h.nd λq d x k=>(h.row q d x k).2
def stepK(a:List (List Int)) (z:List Int×Nat):List (List Int):=(z.1::aw z.1 z.2).foldl aP a
def eZ(a:List (List Int)) (q:List (List Int×Nat)):List (List Int):=q.foldl stepK a
def mK:List (List Int)->List (List Int×Nat)->Prop
 |_,[]=>True
 |ks,z::q=>z.1∈ks/\aV z.1 z.2/\mK (stepK ks z) q
theorem mK.snoc:∀{q:List (List Int×Nat)}{b:List (List Int)}{z:List Int×Nat},mK b q->z.1∈eZ b q->aV z.1 z.2->mK b (q++[z])
 |[],b,z,_,h1,h2=>⟨h1,h2,trivial⟩
 |a::q,b,z,h,h1,h2=>⟨h.1,h.2.1,mK.snoc h.2.2 h1 h2⟩
theorem eZ.snoc:eZ ks (q++[z])=stepK (eZ ks q) z:=by unfold eZ;rw[lH];rfl
theorem NE{m:List (List Int)}(h:x∈m.foldl aP ks):x∈ks\/x∈m:=by
 induction m generalizing ks with
 |nil=>exact .inl h
 |cons a m ih=>
  rcases ih h with h|h
  ·rw[lU] at h;rcases h with⟨h,_⟩|⟨rfl,_⟩
   ·exact .inl h
   ·exact .inr (by simp)
  ·exact .inr (bT _ h)
theorem LK{m b:List (List Int)}(h:b.Nodup):(m.foldl aP b).Nodup:=by
 induction m generalizing b with
 |nil=>exact h
 |cons a m ih=>exact ih (tP h)
structure cv (ks:List (List Int)):Prop where
 nd:ks.Nodup
 row:∀r∈ks,bt r 16 6
theorem cv.few(h:cv ks):ks.length<=15000:=Rp h.nd h.row
theorem cv.step(h:cv ks)(a:z.1∈ks)(b:aV z.1 z.2):cv (stepK ks z)/\cn (stepK ks z)=cn ks:=by
 refine⟨⟨LK h.nd,λr hr=>?_⟩,?_⟩
 ·rcases NE hr with hr|hr
  ·exact h.row r hr
  ·rcases bZ.mp hr with rfl|hr
   ·exact h.row _ a
   ·exact B9 (h.row _ a) b r hr
 ·unfold stepK;rw[R1 _ _ h.nd];show cn ks^^^(nu z.1^^^cn (aw z.1 z.2))=_;rw[Hw (h.row _ a) b,pE,jx]
theorem cv.walk:∀{q:List (List Int×Nat)}{e:List (List Int)},cv e->mK e q->cv (eZ e q)/\cn (eZ e q)=cn e
 |[],e,h,_=>⟨h,rfl⟩
 |z::q,e,h,w=>by
  obtain⟨a,b⟩:=h.step w.1 w.2.1;obtain⟨c,d⟩:=cv.walk a w.2.2;exact⟨c,d.trans b⟩
theorem M8(h:cv c)(w:mK c q)(s:∀x∈eZ c q,lP x):av (eZ c q)=i3 (cn c):=by
 obtain⟨a,b⟩:=h.walk w;rw[Ix (λr d=>⟨a.row r d,s r d⟩) a.nd,b]
def gd(b:List (List Int)) (c:Lr):Lr:=b.foldl (λa r=>cp r a) c
structure hH (au:aa) (L:Nat) (lv:Lv) (ms:List (List Int)) (s:aa) (lv':Lv):Prop where
 at_:gq s L lv'
 eq:dj lv'=gd ms (dj lv)
 keep:∀i,i<au.length->i≠L->(∀q∈lv,q.2.1≠i)->s[i]?=au[i]?
 len:au.length<=s.length
 ix:∀q∈lv',au.length<=q.2.1\/∃q0∈lv,q0.2.1=q.2.1
theorem hH.refl{L:Nat}(h:gq au L lv):hH au L lv [] au lv:=⟨h,rfl,λ_ _ _ _=>rfl,bj _,λq a=>.inr ⟨q,a,rfl⟩⟩
theorem RT:∀{b:Lv},∀q∈bX n r b,q.2.1=n\/∃a∈b,a.2.1=q.2.1
 |[],q,hq=>by
  unfold bX at hq;simp at hq;subst hq;exact .inl rfl
 |x::b,q,hq=>by
  unfold bX at hq;split at hq
  ·rcases bZ.mp hq with rfl|hq
   ·exact .inr ⟨x,by simp,rfl⟩
   ·exact .inr ⟨q,bT _ hq,rfl⟩
  ·rcases bZ.mp hq with rfl|hq
   ·exact .inr ⟨q,by simp,rfl⟩
   ·rcases RT q hq with h|⟨a,c,d⟩
    ·exact .inl h
    ·exact .inr ⟨a,bT _ c,d⟩
theorem hH.snoc{L:Nat}{m:List (List Int)}{r:List Int}(a:hH au L lv m s b)(h:gq s2 L (bX s.length r b))(k:∀i,i<s.length->i≠L->(∀q∈b,q.2.1≠i)->s2[i]?=s[i]?)(l:s.length<=s2.length):
  hH au L lv (m++[r]) s2 (bX s.length r b):=by
 refine⟨h,?_,λi o n e=>?_,ax a.len l,λq e=>?_⟩
 ·rw[BW,a.eq];unfold gd;rw[lH];rfl
 ·have u:=a.len;rw[k i (by lia) n λq f=>?_,a.keep i o n e];rcases a.ix q f with c|⟨g,c,d⟩
  ·lia
  ·rw[←d];exact e g c
 ·rcases RT q e with c|⟨g,c,d⟩
  ·exact .inl (by rw[c];exact a.len)
  ·rcases a.ix g c with j|⟨p,j,t⟩
   ·exact .inl (by rw[←d];exact j)
   ·exact .inr ⟨p,j,t.trans d⟩
theorem xF(h:ii (dj a)):a.length<=113/\∀q∈a,q.2.2.length<=15000:=by
 refine⟨by have:=h.few.1;unfold dj at this;rwa [bh] at this,λq b=>h.few.2 (q.1,q.2.2) (bQ.mpr ⟨q,b,rfl⟩)⟩
theorem wO(h:bt r 16 6):r.length<=1000/\∀x∈r,-10000<=x/\x<=10000:=⟨by have:=h.len;lia,λx a=>by have:=qY h x a;lia⟩
theorem JJ{L:Nat}{e:List (List Int)}(h:gq au L lv)(m:ii (dj lv))(j:∀r∈e,bt r 16 6)
  (k:∀s a d,hH au L lv e s a->ii (dj a)->Q (.nx [S0,some (.ref L),S2,S3,S4,S5,d]) s):WP (dS (gN 6) Et (aJ e) [S0,some (.ref L),S2,S3,S4,S5,v6] au) Q:=by
 refine gX (λi g s=>∃a d,g=[S0,some (.ref L),S2,S3,S4,S5,d]/\hH au L lv (e.take i) s a/\ii (dj a)) ⟨lv,v6,rfl,.refl h,m⟩ ?_ ?_
 ·rintro i x g s o ⟨a,d,rfl,t,c⟩;obtain⟨r,f,rfl⟩:=jk o;have y:=(cU.mp f).1;have b:=wO (j r (dY f));have z:=xF c;have u:=j r (dY f);refine⟨[S0,some (.ref L),S2,S3,S4,S5,some (aL r)],rfl,?_⟩;unfold Et;simp only[W,V,M];refine TC t.at_ b.1 b.2 (by lia) (λq p=>by have:=z.2 q p;lia) λw l v n=>?_
  simp only[W,V,Dd.L];refine⟨bX s.length r a,_,rfl,?_,?_⟩
  ·rw[ze f];exact t.snoc l v n
  ·rw[BW];exact c.flip u
 ·rintro g s ⟨a,d,rfl,t,c⟩;rw[zc] at t;rw[cX] at t;exact k s a d t c
theorem LJ{L:Nat}{e:List (List Int)}(h:gq au L lv)(m:ii (dj lv))(j:∀r∈e,bt r 16 6)
  (k:∀s a d,hH au L lv e s a->ii (dj a)->Q (.nx [S0,some (.ref L),d,S3,S4,S5,S6]) s):WP (dS (gN 2) BO (aJ e) [S0,some (.ref L),v2,S3,S4,S5,S6] au) Q:=by
 refine gX (λi g s=>∃a d,g=[S0,some (.ref L),d,S3,S4,S5,S6]/\hH au L lv (e.take i) s a/\ii (dj a)) ⟨lv,v2,rfl,.refl h,m⟩ ?_ ?_
 ·rintro i x g s o ⟨a,d,rfl,t,c⟩;obtain⟨r,f,rfl⟩:=jk o;have y:=(cU.mp f).1;have b:=wO (j r (dY f));have z:=xF c;have u:=j r (dY f);refine⟨[S0,some (.ref L),some (aL r),S3,S4,S5,S6],rfl,?_⟩;unfold BO;simp only[W,V,M];refine TC t.at_ b.1 b.2 (by lia) (λq p=>by have:=z.2 q p;lia) λw l v n=>?_
  simp only[W,V,Dd.L];refine⟨bX s.length r a,_,rfl,?_,?_⟩
  ·rw[ze f];exact t.snoc l v n
  ·rw[BW];exact c.flip u
 ·rintro g s ⟨a,d,rfl,t,c⟩;rw[zc] at t;rw[cX] at t;exact k s a d t c
def gk(q:List (List Int×Nat)):List D:=q.map λz=>.tup [aL z.1,.int z.2]
def gz(a:Lr×List (List Int×Nat)) (r:List Int):Lr×List (List Int×Nat):=match ay r with
 |[]=>a
 |p::_=>(gd (aw r p) a.1,a.2++[(r,p)])
structure Wy (s0:aa) (b:Nat) (L M:Nat) (s:aa) (lv:Lv) (q:List (List Int×Nat)):Prop where
 at_:gq s L lv
 stp:s[M]?=some (.lst (gk q))
 ne:M≠L
 ni:∀x∈lv,x.2.1≠M
 bL:b<=L
 bM:b<=M
 bI:∀x∈lv,b<=x.2.1
 low:∀i,i<b->s[i]?=s0[i]?
 bs:b<=s.length
theorem gq.more{L:Nat}(h:gq s L lv)(g:aa):gq (s++g) L lv:=
 ⟨by rw[gx (ip h.at_)];exact h.at_,λq a=>by rw[gx (ip (h.in_ q a))];exact h.in_ q a,h.nd,h.ix,h.rows⟩
theorem Wy.more{b L M:Nat}(h:Wy s0 b L M s lv q)(g:aa):Wy s0 b L M (s++g) lv q:=
 ⟨h.at_.more g,by rw[gx (ip h.stp)];exact h.stp,h.ne,h.ni,h.bL,h.bM,h.bI,λi a=>by rw[gx (da a h.bs)];exact h.low i a,by rw[cJ];have:=h.bs;lia⟩
theorem Wy.put{b L M:Nat}(h:Wy s0 b L M s lv q):Wy s0 b L M (s.set M (.lst (gk q++[.tup [aL z.1,.int z.2]]))) lv (q++[z]):=by
 refine⟨⟨?_,λx a=>?_,h.at_.nd,h.at_.ix,h.at_.rows⟩,?_,h.ne,h.ni,h.bL,h.bM,h.bI,λi c=>?_,by rw[iV];exact h.bs⟩
 ·rw[ft h.ne];exact h.at_.at_
 ·rw[ft (h.ni x a).symm];exact h.at_.in_ x a
 ·rw[mV (ip h.stp)];unfold gk;rw[iU];rfl
 ·have:=h.bM;rw[ft (by lia)];exact h.low i c
theorem Wy.to{b L M:Nat}{e:List (List Int)}(h:Wy s0 b L M s lv q)(t:hH s L lv e s2 lv'):Wy s0 b L M s2 lv' q:=by
 have g:=ip h.stp;refine⟨t.at_,?_,h.ne,λx c=>?_,h.bL,h.bM,λx c=>?_,λi f=>?_,ax h.bs t.len⟩
 ·rw[t.keep M g h.ne h.ni];exact h.stp
 ·rcases t.ix x c with a|⟨y,a,d⟩
  ·lia
  ·rw[←d];exact h.ni y a
 ·rcases t.ix x c with a|⟨y,a,d⟩
  ·exact ax h.bs a
  ·rw[←d];exact h.bI y a
 ·have a:=h.bs;have d:=h.bL;rw[t.keep i (by lia) (by lia) λx c=>by have:=h.bI x c;lia];exact h.low i f
theorem L4{b L M:Nat}{n:List (List Int)}(h:Wy s0 b L M au lv q)(Y:ii (dj lv))(hq:q.length+n.length<=10000000)(hr:∀r∈n,bt r 16 6)
  (k:∀s c d t l o,Wy s0 b L M s c d->(dj c,d)=n.foldl gz (dj lv,q)->ii (dj c)->d.length<=q.length+n.length->Q (.nx [S0,some (.ref L),t,some (.ref M),S4,l,o]) s):
  WP (dS (gN 2) Eu (aJ n) [S0,some (.ref L),v2,some (.ref M),S4,v5,v6] au) Q:=by
 refine gX (λi I s=>∃c d t l o,I=[S0,some (.ref L),t,some (.ref M),S4,l,o]/\Wy s0 b L M s c d/\(dj c,d)=(n.take i).foldl gz (dj lv,q)/\ii (dj c)/\d.length<=q.length+i) ⟨lv,q,v2,v5,v6,rfl,h,rfl,Y,bj _⟩ ?_ ?_
 ·rintro i x I s hx ⟨c,d,t,l,o,rfl,u,v,f,P⟩;obtain⟨r,H,rfl⟩:=jk hx;have hi:=(cU.mp H).1;have m:=hr r (dY H);have rl:=m.len;refine⟨[S0,some (.ref L),some (aL r),some (.ref M),S4,l,o],rfl,?_⟩;have S:(n.take (i+1)).foldl gz (dj lv,q)=gz (dj c,d) r:=by rw[ze H,lH,←v];rfl
  unfold Eu;simp only[W,V,Dd.M];refine WP.of (Oc (by lia)) ?_
  try simp only[W,V,Dd.M]
  cases hp:ay r with
  |nil=>
   refine⟨false,rfl,?_⟩;rw[if_neg (by decide)];refine⟨c,d,_,_,_,rfl,u,?_,f,by lia⟩;rw[S];unfold gz;rw[hp]
  |cons p ps=>
   refine⟨true,rfl,?_⟩;rw[if_pos rfl];have y:aV r p:=Cn.mp (by rw[hp];simp);have G:=Em m y;have A:p+1<r.length:=by obtain⟨a,b,_,z,_⟩:=y;exact(cU.mp z).1
   have a0:=Ct r p;have X:∀s:aa,cF (.lst (ki (p::ps))) (.int 0) s=.ok (.int p) s:=λs=>nt rfl (QF (j:=0) rfl)
   refine⟨_,_,rfl,u.stp,WP.of (X s) ⟨small _ (by simp),_,_,rfl,u.stp,by unfold gk;rw[bh,l6];lia,WP.of (X _) ?_⟩⟩;have E:=u.put (z:=(r,p));obtain⟨g,e⟩:=TK (au:=s.set M (.lst (gk d++[.tup [aL r,.int p]]))) (r:=r) (p:=p) A (by lia) G.1.1 (by lia) (by lia) (by lia);refine WP.of e ⟨_,rfl,?_⟩;have w:=E.more g;refine JJ w.at_ f (B9 m y) λs2 J a1 U C=>?_
   refine⟨J,d++[(r,p)],_,_,_,rfl,w.to U,?_,C,by rw[cJ,rL];lia⟩;rw[S];unfold gz;rw[hp]
   show _=(gd (aw r p) (dj c),d++[(r,p)])
   rw[U.eq]
 ·rintro I s ⟨c,d,t,l,o,rfl,u,v,f,P⟩;rw[zc] at v P;rw[cX] at v;exact k s c d t l o u v f P
def dc(a:Lr):Int:=match a.map (·.1) with
 |[]=>0
 |k::ks=>cH true k ks
def kn(a:Lr) (m:Int):Lr:=a.filter λq=>decide (q.1≠m)
def gc(a:Lv) (m:Int):Lv:=a.filter λq=>decide (q.1≠m)
theorem JF:dj (gc lv m)=kn (dj lv) m:=by
 unfold dj gc kn;rw[rA];rfl
theorem JD:ic (gu lv) m=gu (gc lv m):=by
 unfold ic gu gc;rw[rA];rfl
theorem Wy.less{b L M:Nat}{m:Int}(h:Wy s0 b L M s lv q):Wy s0 b L M (s.set L (.dI (gu (gc lv m)))) (gc lv m) q:=by
 have sub:∀x∈gc lv m,x∈lv:=λx a=>(dL.mp a).1
 have d:∀x∈lv,x.2.1≠L:=λx a z=>by have:=h.at_.in_ x a;rw[z,h.at_.at_] at this;cases this
 refine⟨⟨mV (ip h.at_.at_),λx a=>?_,?_,?_,λx a=>h.at_.rows x (sub x a)⟩,?_,h.ne,λx a=>h.ni x (sub x a),h.bL,h.bM,λx a=>h.bI x (sub x a),λi c=>?_,by rw[iV];exact h.bs⟩
 ·rw[ft (d x (sub x a)).symm];exact h.at_.in_ x (sub x a)
 ·exact h.at_.nd.sublist (yO.map _)
 ·exact h.at_.ix.sublist (yO.map _)
 ·rw[ft h.ne.symm];exact h.stp
 ·have:=h.bL;rw[ft (by lia)];exact h.low i c
structure Iv (k0:List (List Int)) (m:Int) (lr:Lr) (rs:List (List Int)) (q:List (List Int×Nat)):Prop where
 wk:mK k0 q
 g:ii lr
 lt:∀x∈lr,x.1<m
 low:∀x,aq 1 x<m->(x∈eZ k0 q↔gv lr x)
 rs_:∀x∈rs,aq 1 x=m/\x∈eZ k0 q
 rn:rs.Nodup
 high:∀x∈eZ k0 q,m<=aq 1 x->x∈rs\/lP x
theorem Ni(G:ii lr)(c:bt r 16 6)(b:aq 1 r<m)(h:∀x,aq 1 x<m->(x∈ks↔gv lr x)):∀x,aq 1 x<m->(x∈aP ks r↔gv (cp r lr) x):=λx a=>by
 rw[lU,LM G c,h x a,h r b]
theorem Fc:∀{ms:List (List Int)}{lr:Lr}{ks:List (List Int)},ii lr->(∀r∈ms,bt r 16 6/\aq 1 r<m)->(∀x,aq 1 x<m->(x∈ks↔gv lr x))->ii (gd ms lr)/\∀x,aq 1 x<m->(x∈ms.foldl aP ks↔gv (gd ms lr) x)
 |[],lr,ks,G,_,h=>⟨G,h⟩
 |r::ms,lr,ks,G,hm,h=>Fc (ms:=ms) (G.flip (hm r (by simp)).1) (λx a=>hm x (bT _ a)) (Ni G (hm r (by simp)).1 (hm r (by simp)).2 h)
theorem RU:∀{ms a:List (List Int)},(∀r∈ms,x≠r)->(x∈ms.foldl aP a↔x∈a)
 |[],a,_=>Iff.rfl
 |r::ms,a,h=>by
  rw[lE,RU (ms:=ms) λy b=>h y (bT _ b),lU];have:=h r (by simp);simp[this]
theorem ED:∀{ms:List (List Int)}{a:Lr},(∀r∈ms,aq 1 r<m)->(∀x∈a,x.1<m)->∀x∈gd ms a,x.1<m
 |[],a,_,h=>h
 |r::ms,a,hm,h=>ED (ms:=ms) (λx c=>hm x (bT _ c)) λx c=>by
  rcases tM x c with b|⟨b,_⟩
  ·exact h x b
  ·rw[b];exact hm r (by simp)
theorem Iv.row(K:cv k0)(h:Iv k0 m lr (r::rs) q):Iv k0 m (gz (lr,q) r).1 rs (gz (lr,q) r).2:=by
 obtain⟨v,_⟩:=K.walk h.wk;have d:=h.rs_ r (by simp);have j:=gZ.mp h.rn;unfold gz;cases hp:ay r with
 |nil=>
  refine⟨h.wk,h.g,h.lt,h.low,λx a=>h.rs_ x (bT _ a),j.2,λx a i=>?_⟩;rcases h.high x a i with z|z
  ·rcases bZ.mp z with rfl|z
   ·exact .inr (Iy hp)
   ·exact .inl z
  ·exact .inr z
 |cons p ps=>
  have l:aV r p:=Cn.mp (by rw[hp];simp);have f:=v.row r d.2;have n:∀z∈aw r p,bt z 16 6/\aq 1 z<m:=λz g=>⟨B9 f l z g,by rw[←d.1];exact Mb f.pos l g⟩
  have s:∀x,aq 1 x<m->(x∈aP (eZ k0 q) r↔gv lr x):=λx a=>by
   rw[lU,←h.low x a];have:x≠r:=λe=>by rw[e,d.1] at a;lia
   simp[this]
  obtain⟨u,o⟩:=Fc h.g n s;have c:∀x,m<=aq 1 x->(x∈stepK (eZ k0 q) (r,p)↔x∈eZ k0 q/\x≠r):=λx a=>by
   show x∈(aw r p).foldl aP (aP (eZ k0 q) r)↔_;rw[RU λy t e=>by have:=(n y t).2;rw[←e] at this;lia,lU];have:=d.2;constructor
   ·rintro(z|⟨rfl,z⟩)
    ·exact z
    ·exact absurd this z
   ·exact λz=>.inl z
  refine⟨h.wk.snoc d.2 l,u,ED (λz g=>(n z g).2) h.lt,λx a=>?_,λx a=>?_,j.2,λx a i=>?_⟩
  ·rw[eZ.snoc];exact o x a
  ·have b:=h.rs_ x (bT _ a);rw[eZ.snoc];refine⟨b.1,(c x (by rw[b.1];exact CD _)).mpr ⟨b.2,λe=>?_⟩⟩;subst e;exact j.1 a
  ·rw[eZ.snoc] at a;obtain⟨a,k⟩:=(c x i).mp a;rcases h.high x a i with z|z
   ·rcases bZ.mp z with e|z
    ·exact absurd e k
    ·exact .inl z
   ·exact .inr z
theorem Iv.rows(K:cv k0):∀{rs:List (List Int)}{a:Lr}{q:List (List Int×Nat)},Iv k0 m a rs q->Iv k0 m (rs.foldl gz (a,q)).1 [] (rs.foldl gz (a,q)).2
 |[],a,q,h=>h
 |r::rs,a,q,h=>Iv.rows (rs:=rs) K (h.row K)
theorem wS:∀{b:Lr},b≠[]->(∃l,(dc b,l)∈b)/\∀x∈b,x.1<=dc b
 |[],h=>absurd rfl h
 |a::b,_=>by
  obtain⟨c,d⟩:=Ex (b.map (·.1)) a.1;have e:dc (a::b)=cH true a.1 (b.map (·.1)):=rfl;rw[e];refine⟨?_,λx g=>d _ (by rw[←ce (f:=λq:Int×List (List Int)=>q.1)];exact bQ.mpr ⟨x,g,rfl⟩)⟩;rw[←ce (f:=λq:Int×List (List Int)=>q.1)] at c;obtain⟨q,i,e⟩:=bQ.mp c;exact⟨q.2,by rw[←e];exact i⟩
theorem Iv.next(h:Iv k0 m lr [] q)(d:(dc lr,l)∈lr):Iv k0 (dc lr) (kn lr (dc lr)) (av l) q:=by
 have j:lr≠[]:=λe=>by rw[e] at d;cases d
 have top:=(wS j).2;have k:dc lr<m:=h.lt _ d;have sub:∀x∈kn lr (dc lr),x∈lr/\x.1≠dc lr:=λx a=>by
  obtain⟨f,g⟩:=dL.mp a;exact⟨f,gP g⟩
 have i:∀x∈lr,x.1=dc lr->x.2=l:=λx a e=>by
  have:=uF h.g.nd a d e;rw[this]
 refine⟨h.wk,⟨h.g.nd.sublist (yO.map _),λx a=>h.g.row x (sub x a).1,λx a=>h.g.key x (sub x a).1,λx a=>h.g.rnd x (sub x a).1⟩,λx a=>?_,λx a=>?_,λx a=>?_,?_,λx a p=>?_⟩
 ·have f:=sub x a;have g:=top x f.1;have o:=f.2;lia
 ·rw[h.low x (by lia)];constructor
  ·rintro⟨y,c,b⟩;refine⟨y,dL.mpr ⟨c,cC λe=>?_⟩,b⟩;have:=(h.g.row y c x b).2;lia
  ·rintro⟨y,c,b⟩;exact⟨y,(sub y c).1,b⟩
 ·have a:=(zp l).mem_iff.mp a;have e:=(h.g.row _ d x a).2;have e:aq 1 x=dc lr:=e;exact⟨e,(h.low x (by lia)).mpr ⟨_,d,a⟩⟩
 ·exact(zp l).nodup_iff.mpr (h.g.rnd _ d)
 ·rcases Int.lt_or_le (aq 1 x) m with z|z
  ·obtain⟨y,c,b⟩:=(h.low x z).mp a;have e:=(h.g.row y c x b).2;have n:=top y c;exact .inl ((zp l).mem_iff.mpr (by rw[←i y c (by lia)];exact b))
  ·rcases h.high x a z with z|z
   ·cases z
   ·exact .inr z
theorem Iv.end_(h:Iv b m [] [] q):∀x∈eZ b q,lP x:=λx a=>by
 rcases Int.lt_or_le (aq 1 x) m with z|z
 ·obtain⟨y,c,_⟩:=(h.low x z).mp a;cases c
 ·rcases h.high x a z with z|z
  ·cases z
  ·exact z
theorem Iv.start(K:cv k0):Iv k0 113 (gd k0 []) [] []:=by
 have d:∀r∈k0,bt r 16 6/\aq 1 r<113:=λr f=>⟨K.row r f,by have:=wy (K.row r f);lia⟩
 obtain⟨g,h⟩:=Fc (m:=113) (ms:=k0) (lr:=[]) (ks:=[]) ⟨by simp,λq b=>(by cases b),λq b=>(by cases b),λq b=>(by cases b)⟩ d λx _=>by unfold gv;simp
 have e:∀x,x∈k0.foldl aP []↔x∈k0:=λx=>by
  have:=(sW k0 [] mY).2.2 x;rw[this,OS K.nd];by_cases c:x∈k0<;>simp[c]
 refine⟨trivial,g,ED (λz i=>(d z i).2) (λx a=>(by cases a)),λx a=>?_,λx a=>(by cases a),mY,λx a j=>?_⟩
 ·rw[←h x a,e];rfl
 ·have:=(d x a).2;lia
theorem KI{L:Nat}(a:f σ au=.ok (.ref L) au)(h:au[L]?=some (.dI kvs)):jd f σ au=.ok (!kvs.isEmpty) au:=by
 unfold jd;rw[a,zo];dsimp only;rw[h]
theorem JK{L:Nat}(h:au[L]?=some (.dI (gu lv)))(b:lv≠[]):gI [.ref L] au=.ok (.int (dc (dj lv))) au:=by
 unfold gI;dsimp only;rw[h];cases lv with
 |nil=>exact absurd rfl b
 |cons a lv=>
  show bv.ok (D.int (cH true a.1 ((gu lv).map (·.1)))) au=.ok (D.int (cH true a.1 ((dj lv).map (·.1)))) au
  congr 3
  unfold gu dj;rw[eM,eM];rfl
theorem Ko{L:Nat}{k:Int}(b:f σ au=.ok (.ref L) au)(h:au[L]?=some (.dI kvs))(a:g σ au=.ok [.int k] au)(c:eF kvs k=some v):ku f g σ au=.ok v (au.set L (.dI (ic kvs k))):=by
 unfold ku;rw[b,zo];dsimp only
 rw[h];dsimp only
 rw[a,zo];try dsimp only
 rw[h];try dsimp only
 rw[c]
theorem Os{au:aa}(h:∀i,i<au.length->s[i]?=au[i]?)(a:au.length<=s.length):s=au++s.drop au.length:=by
 refine ue λi=>?_
 rcases pH i au.length with z|z
 ·rw[h i z,gx z]
 ·rw[kZ z,oA];congr 1;lia
structure Ub (ks:List (List Int)) (q:List (List Int×Nat)):Prop where
 wk:mK ks q
 fin:∀x∈eZ ks q,lP x
 len:q.length<=2000000
theorem Na{c:aa}{f:List (List Int)}{T:SS}(K:cv f)(k:∀q M s h w o v,Ub f q->s[M]?=some (.lst (gk q))->c.length<=M->(∀i,i<c.length->s[i]?=c[i]?)->WP (T [some (aK f),some (.ref c.length),h,some (.ref M),w,o,v] s) QQ):
  WP (aD (aF 1 iF) (aD (bP (aH (aA 0)) (gN 2) BO) (aD (aF 3 (de aC)) (aD (dE (jd (aA 1)) Ev) T))) [some (aK f),none,none,none,none,none,none] c) QQ:=by
 simp only[W,V];refine WP.of (show iF _ c=.ok (.ref c.length) (c++[.dI []]) from rfl) ?_
 try simp only[W,V]
 refine⟨_,rfl,?_⟩;have a0:gq (c++[O.dI []]) c.length []:=⟨by simp;rfl,λq e=>(by cases e),by simp,by simp,λq e=>(by cases e)⟩
 refine LJ (lv:=[]) a0 ⟨by simp[dj],λq e=>(by cases e),λq e=>(by cases e),λq e=>(by cases e)⟩ K.row λs b h t G=>?_
 simp only[W,V];refine⟨small _ (by simp),?_⟩;have C:=t.len;rw[cJ,rL] at C;have I:∀x∈b,c.length+1<=x.2.1:=λx A=>by
  rcases t.ix x A with z|⟨y,u,_⟩
  ·rw[cJ,rL] at z;exact z
  ·cases u
 have d:Wy c c.length c.length s.length (s++[.lst []]) b []:=by
  refine⟨t.at_.more _,by simp;rfl,by lia,λx A=>dO (ip (t.at_.in_ x A)),bj _,by lia,λx A=>by have:=I x A;lia,λi hi=>?_,by rw[cJ];lia⟩;rw[gx (by lia),t.keep i (by rw[cJ];lia) (by lia) λq e=>(by cases e),gx hi]
 have g:Iv f (113:Nat) (dj b) [] []:=by
  rw[t.eq];exact Iv.start K
 generalize s.length=M at d;refine EU (λj σ s=>∃b q h w o v,σ=[some (aK f),some (.ref c.length),h,some (.ref M),w,o,v]/\Wy c c.length c.length M s b q/\Iv f (j:Int) (dj b) [] q/\q.length+15000*j<=15000*113) (k:=113) ⟨b,[],_,_,_,_,rfl,d,g,by simp⟩ (by lia) ?_;rintro j σ s ⟨b,q,h,w,o,v,rfl,d,g,ql⟩;refine WP.of (KI rfl d.at_.at_) ?_;cases b with
 |nil=>
  rw[if_neg (by simp[gu])];simp only[W];exact k q M s _ _ _ _ ⟨g.wk,g.end_,by lia⟩ d.stp d.bM d.low
 |cons a lv0=>
  rw[if_pos (by simp[gu])];generalize hlv:a::lv0=b at *
  have Q:b≠[]:=by rw[←hlv];simp
  have E:dj b≠[]:=by rw[←hlv];simp[dj]
  clear hlv a lv0;obtain⟨⟨l,p⟩,_⟩:=wS E;obtain⟨y,u,Y⟩:=bQ.mp (show(dc (dj b),l)∈b.map λq=>(q.1,q.2.2) from p);have e1:y.1=dc (dj b):=congrArg Prod.fst Y;have e2:y.2.2=l:=congrArg Prod.snd Y;have ev:eF (gu b) (dc (dj b))=some (.ref y.2.1):=by
   rw[Ep];cases hf:b.find? λq=>decide (q.1=dc (dj b)) with
   |none=>exact absurd e1 (by simpa using yM.mp hf y u)
   |some z=>
    have h1:z.1=dc (dj b):=by simpa using OL hf
    rw[uF d.at_.nd (PB hf) u (h1.trans e1.symm)];rfl
  have eg:aB (aE gI (aB (aA 1) aC)) aC [some (aK f),some (.ref c.length),h,some (.ref M),w,o,v] s=.ok [.int (dc (dj b))] s:=by
   rw[lT,show aE gI (aB (aA 1) aC) [some (aK f),some (.ref c.length),h,some (.ref M),w,o,v] s=_ from JK d.at_.at_ Q]
   rfl
  unfold Ev;simp only[W,V];refine WP.of (Ko rfl d.at_.at_ eg ev) ?_;rw[JD]
  try simp only[W,V]
  have X:y.2.1≠c.length:=λz=>by have:=d.at_.in_ y u;rw[z,d.at_.at_] at this;cases this
  have U:(s.set c.length (.dI (gu (gc b (dc (dj b))))))[y.2.1]?=some (.dT (aQ l)):=by
   rw[ft X.symm,←e2];exact d.at_.in_ y u
  have fl:=g.g.few.2 _ p;have fl:l.length<=15000:=fl;refine WP.of (Fq U (by lia)) ⟨_,rfl,?_⟩;have n:=g.next p;have P:=d.less (m:=dc (dj b));rw[←JF] at n;have sl:(av l).length=l.length:=vA l;have tj:dc (dj b)<j:=g.lt _ p;have t0:0<=dc (dj b):=(g.g.key _ p).1;refine L4 P n.g (by lia) (λr hr=>(g.g.row _ p r ((zp l).mem_iff.mp hr)).1) λs3 J q3 x2 x5 x6 S ee g3 a1=>?_
  refine⟨(dc (dj b)).toNat,by lia,J,q3,_,_,_,_,rfl,S,?_,by lia⟩;have H:=n.rows K;rw[←ee] at H;rw[Pf t0];exact H
theorem IF(K:cv ks)(k:∀q g,Ub ks q->Q (.lst (gk q)) (au++g)):WP (nI [aK ks] au) Q:=by
 refine gM rfl ?_;refine Na K λq M s f h j l w b d a=>?_
 simp only[W,V,Dd.M];refine⟨_,_,rfl,b,?_⟩;have e:=Os (s:=s.set M .dead) (au:=au) (λi c=>by rw[ft (by lia)];exact a i c) (by rw[iV];have:=ip b;lia);rw[e];exact k q _ w
theorem UY(K:cv ks)(w:mK ks q)(k:∀g,Q (aK (av (eZ ks q))) (au++g)):WP (B5 [aK ks,.lst (gk q)] au) Q:=by
 refine gM rfl ?_;simp only[W,V];refine WP.of (VC K.nd (by have:=K.few;lia)) ?_
 try simp only[W,V]
 refine⟨_,rfl,?_⟩;refine gX (λi d s=>∃h f g,d=[some (aK ks),some (.lst (gk q)),some (.ref au.length),h,f]/\s=au++.dT (aQ (eZ ks (q.take i)))::g/\cv (eZ ks (q.take i))/\mK (eZ ks (q.take i)) (q.drop i)) ⟨_,_,[],rfl,rfl,K,w⟩ ?_ ?_
 ·rintro i x d s j ⟨h,f,g,rfl,rfl,a,l⟩;unfold gk at j;rw[fK] at j;obtain⟨z,o,rfl⟩:=jE.mp j;have t:=(cU.mp o).1;have y:q.drop i=z::q.drop (i+1):=by
   rw[kY t];congr 1;exact(cU.mp o).2
  have m:q.take (i+1)=q.take i++[z]:=ze o;rw[y] at l;obtain⟨c,r,A⟩:=l;have b:=a.row _ c;have u:=Em b r;refine⟨[some (aK ks),some (.lst (gk q)),some (.ref au.length),some (aL z.1),some (.int z.2)],rfl,?_⟩;unfold Tx;simp only[W,V];obtain⟨v,e⟩:=VP (au:=au++.dT (aQ (eZ ks (q.take i)))::g) (n:=au.length) (p:=z.2) (by simp) a.nd (by have:=a.few;lia) c (by have:=b.len;lia) r u.1.1 (by lia) (by lia) (by lia);refine WP.of e ?_;simp only[L];refine⟨_,_,g++v,rfl,?_,?_,?_⟩
  ·rw[m,eZ.snoc];unfold stepK;simp
  ·rw[m,eZ.snoc];exact(a.step c r).1
  ·rw[m,eZ.snoc];exact A
 ·rintro d s ⟨h,f,g,rfl,rfl,a,l⟩;rw[show(gk q).length=q.length from bh ..,cX] at *
  simp only[W,V];refine WP.of (Fq (n:=au.length) (ks:=eZ ks q) (by simp) (by have:=a.few;lia)) ?_;exact WP.of (show bJ [.lst (aJ (av (eZ ks q)))] _=.ok (aK (av (eZ ks q))) _ from rfl) (k _)
theorem UP(K:cv ks)(k:∀g,Q (aK (i3 (cn ks))) (au++g)):WP (B4 [aK ks] au) Q:=by
 refine gM rfl ?_;simp only[W,V];refine IF K λq g w=>?_
 refine UY K w.wk λa=>?_
 rw[M8 K w.wk w.fin,eE];exact k _
end Dd
namespace K45
end K45
namespace Dd
open L2 K13
theorem l0{c d:Type}(h:c->d->Nat)(m:List d):∀l:List c,xr l (λa=>xr m (h a))=xr m (λb=>xr l λa=>h a b)
 |[]=>(lA m).symm
 |a::l=>by
  rw[ik,l0 h m l,←lz]
  rfl
theorem qJ{a b:List Row}(h:∀x,a.count x%2=b.count x%2):xr a f=xr b f:=by
 have c:∀(l:List Row) (i:Nat),(xr l f).testBit i=decide (di l (λx=>if(f x).testBit i=true then 1 else 0)%2=1):=λl i=>by
  induction l with
  |nil=>simp[xr,di]
  |cons x l ih=>
   rw[ik,tY,ih,iR];cases(f x).testBit i
   ·simp
   ·simp only[gt];rw[kR];simp;lia
 refine Nat.eq_of_testBit_eq λi=>?_
 rw[c,c,ye _ h]
theorem vS(l:List Row):xr (aO l) f=xr l f:=qJ (pu l)
theorem n8(x:Row):∀l:List Row,xr l (λy=>if y=x then 1 else 0)=l.count x%2
 |[]=>rfl
 |a::l=>by
  rw[ik,n8 x l,om];have:=mh (l.count x);by_cases c:a=x
  ·rw[if_pos c,if_pos (by simpa using c)];rcases this with e|e<;>rw[e]
   ·show 1=_;lia
   ·show 0=_;lia
  ·rw[if_neg c,if_neg (by simpa using c),pF];lia
theorem R4(h:∀f:Row->Nat,xr a f=xr b f):aO a=aO b:=vp λx=>by rw[←n8 x a,←n8 x b,h]
theorem vT(a:0<=k)(b:Nn p):xr (bH k p) f=T k f p:=by
 rw[tO b a,tI];unfold T;refine zj λx _=>?_
 by_cases c:x.sum=p.sum+k
 ·rw[if_pos (cC c),if_pos c]
 ·rw[if_neg (by simp[c]),if_neg c]
theorem Gr(a:0<=k)(b:∀p∈l,Nn p):xr (af k l) f=xr l (T k f):=by
 unfold af;rw[uV];exact zj λp c=>vT a (b p c)
theorem VT(I:0<=t)(n:∀r∈l,∀x∈r,0<=x/\x<=1000)(Y:∀r∈l,r.length<=1000)(C:∀r∈l,dM r<=20000)(hT:(af t l).length<=900000)(k:∀g,Q (aK (aO (af t l))) (au++g)):WP (vz [aK l,.int t] au) Q:=by
 refine gM rfl ?_;simp only[W,V,Dd.N];refine⟨small _ (by simp),?_⟩;have d:∀i,(af t (l.take i)).length<=900000:=λi=>by
  have e:af t l=af t (l.take i)++af t (l.drop i):=by
   unfold af;rw[←Di,kc]
  rw[e,cJ] at hT;lia
 refine gX (λi c s=>(∃v w x y z a,c=[some (aK l),some (.int t),some (.ref au.length),v,w,x,y,z,a])/\∃g,s=au++(.lst (aJ (af t (l.take i)))::g)) ⟨⟨_,_,_,_,_,_,rfl⟩,[],rfl⟩ ?_ ?_
 ·rintro i y c s E ⟨⟨v,w,x,A,z,a,rfl⟩,g,rfl⟩;obtain⟨r,o,rfl⟩:=jk E;have h:=dY o;have G:∀x∈r,0<=x:=λx S=>(n r h x S).1
  refine⟨_,rfl,?_⟩;unfold TJ;simp only[W,V,Dd.N];refine⟨small _ (by simp),small _ (by simp),small _ (by simp),?_⟩;refine gX (λj c s=>(∃x y z a,c=[some (aK l),some (.int t),some (.ref au.length),some (aL r),some (.lst ((fD t (r.take j)).map i7)),x,y,z,a])/\∃g,s=au++(.lst (aJ (af t (l.take i)))::g)) ⟨⟨_,_,_,_,rfl⟩,g,rfl⟩ ?_ ?_
  ·rintro j y c s E ⟨⟨x,A,z,a,rfl⟩,g,rfl⟩;obtain⟨e,H,rfl⟩:=sS E;refine⟨_,rfl,?_⟩;obtain⟨u,P⟩:=n r h e (dY H);have b:=QZ r t j;have q:=QG r (j+1);rw[ze H,tL,show dM [e]=e.toNat+1 by simp[dM]] at q;have m:(fD t (r.take j)).length*(e.toNat+1)<=20000:=ax (lI _ b) (ax q (C r h));have f:=LY r I j;have U:=Y r h;rw[ze H,EY];unfold dy;generalize fD t (r.take j)=ps at m f ⊢;obtain⟨e',rfl⟩:=kX u;simp only[V];refine VR (e:=e') (by lia) (by rw[j9] at m;lia) (λp n=>?_) λw6 w7 w8 J=>?_
   ·obtain⟨q1,X⟩:=f p n;rw[q1,gw];exact⟨by lia,X⟩
   ·refine⟨⟨_,_,_,_,rfl⟩,g++J,by simp⟩
  ·rintro c s ⟨⟨x,A,z,a,rfl⟩,g,rfl⟩;rw[bh,cX];simp only[W,V,Dd.N,L,Fa];have b:=QZ r t r.length;rw[cX] at b;have a0:=C r h;refine⟨_,_,rfl,nB _ _,by rw[bh];exact small _ (by lia),?_⟩;refine sQ (as:=fD t r) (λc=>∃v w,c=[v,w]) (λp=>decide (p.2=0)) (λp=>aL p.1) i7 ⟨_,_,rfl⟩ ?_ ?_
   ·rintro p n c ⟨v,w,rfl⟩;exact⟨_,rfl,⟨_,_,rfl⟩,by simp only[W,V,and_self],λ_=>by simp only[W,V,and_self]⟩
   ·have e1:((fD t r).filter λp=>decide (p.2=0)).map (λp=>aL p.1)=aJ (bH t r):=by
     rw[←xC G I];unfold oW aJ;rw[eM]
     rfl
    rw[e1];have u:=d i;have P:=UH (k:=t) (C r h);refine⟨_,_,_,rfl,nB _ _,rfl,by rw[zc,zc];exact small _ (by lia),⟨_,_,_,_,_,_,rfl⟩,g,?_⟩;rw[sX,ze o,Tg];simp[aJ]
 ·rintro c s ⟨⟨v,w,x,A,z,a,rfl⟩,g,rfl⟩;rw[zc,cX];have u:=d l.length;rw[cX] at u;simp only[W,V,M,Dd.N];refine⟨_,_,rfl,nB _ _,?_⟩;refine Ee (l:=af t l) rfl (by lia) λJ=>?_
  rw[sX,eE];exact k _
end Dd
namespace K50
end K50
namespace Dd
open L2 K13
theorem Qw:∀m:Row,Nn m->∀a:Row->Nat,T 0 a m=a m:=Rs
 (λa=>by rw[kF,if_pos rfl])
 (λr _ b a=>by rw[uX,b])
 (λr e c b a=>by
  rw[qL,b,pj,nJ ?_ (by lia),jx];intro x hx;rcases dB.mp hx with hx|hx
  ·exact c x hx
  ·rw[em.mp hx]
   lia)
def Act(b:Row) (c:Row->Nat):Row->Nat:=b.foldl (λd a=>T a d) c
theorem uY(a:Int)(b:Row)(c:Row->Nat):Act (a::b) c=Act b (T a c):=rfl
theorem rf(p q:Row)(a:Row->Nat):Act (p++q) a=Act q (Act p a):=lH
theorem FI{a:Type}{L:List a}{d:Row->Nat}{b:a->Row->Nat}(k:Int)(h:∀m,Nn m->d m=xr L λc=>b c m){m:Row}(f:Nn m):T k d m=xr L λc=>T k (b c) m:=by
 unfold T
 conv=>rhs;rw[l0]
 refine zj λx e=>?_
 rw[h x (ES m f x e)];by_cases c:x.sum=m.sum+k
 ·simp only[c,gt]
 ·simp only[c,gj];exact(lA _).symm
theorem rg{e:Type}{L:List e}:∀(b:Row) {ψ:Row->Nat}{χ:e->Row->Nat},(∀m,Nn m->ψ m=xr L λc=>χ c m)->∀m,Nn m->Act b ψ m=xr L λc=>Act b (χ c) m
 |[],_,_,h,m,d=>h m d
 |a::b,_,_,h,m,d=>rg b (λm d=>FI a h d) m d
theorem Nd{a:Row}(h:∀m,Nn m->ψ m=χ m) (b:Nn m):Act a ψ m=Act a χ m:=by
 have:=rg (L:=[()]) a (ψ:=ψ) (χ:=λ_=>χ) (λm b=>by rw[h m b];show χ m=χ m^^^0;rw[jx]) m b;rw[this];show _^^^0=_;rw[jx]
theorem yi:∀(b:Row) (m:Row),Act b (λ_=>0) m=0
 |[],_=>rfl
 |a::b,m=>by
  rw[uY,show T a (λ_=>0)=λ_=>0 from funext λm=>vV a m];exact yi b m
theorem AV:∀(b:Row) {l:List Row},(∀x∈b,0<=x)->(∀p∈l,Nn p)->∀p∈R b l,Nn p
 |[],_,_,h=>h
 |a::b,l,hr,h=>λp c=>by
  obtain⟨q,f,c⟩:=fr.mp (show p∈af a (R b l) from c);have d:=AV b (λx e=>hr x (bT _ e)) h q f;rw[tO d (hr a dk)] at c;exact ES q d p (dL.mp c).1
theorem yj:∀(b:Row) {l:List Row}{d:Row->Nat},(∀x∈b,0<=x)->(∀p∈l,Nn p)->xr (R b l) d=xr l (Act b d)
 |[],_,_,_,_=>rfl
 |a::b,l,d,hr,h=>by
  have c:∀x∈b,0<=x:=λx e=>hr x (bT _ e)
  show xr (af a (R b l)) d=_;rw[Gr (hr a dk) (AV b c h),yj b c h]
  rfl
theorem uU(d:∀r∈b,∀x∈r,0<=x)(h:∀p∈l,Nn p):xr (ak b l) φ=xr b λa=>xr l (Act a φ):=by
 unfold ak;rw[uV];exact zj λa c=>yj a (d a c) h
def two(a b:Int) (c:Nat):Row:=if c=0 then[a+b] else[a+b-c,(c:Int)]
theorem Gw(h:a<2*b)(p q:Row)(f:Row->Nat) (d:Nn m):Act (p++a::b::q) f m=xr ((List.range (b.toNat+1)).filter (co b a)) λc=>Act (p++two a b c++q) f m:=by
 rw[rf,uY,uY,tI];generalize hψ:Act p f=ψ;have e:∀m,Nn m->T b (T a ψ) m=xr (List.range (b.toNat+1)) λc=>(if co b a c=true then Act (two a b c) ψ else λ_=>0) m:=λm d=>by
  rw[Qr m d ψ a b (b.toNat+1) (by lia) (by lia)];unfold cs;refine zj λc _=>?_
  by_cases z:co b a c=true
  ·rw[if_pos z,if_pos z];unfold two;by_cases z0:c=0
   ·subst z0;rw[if_pos rfl];show T 0 _ m=T (a+b) ψ m;rw[Qw m d,show a+b-((0:Nat):Int)=a+b by lia]
   ·rw[if_neg z0]
    rfl
  ·rw[if_neg z,if_neg z]
 rw[rg q e m d];refine zj λc _=>?_
 by_cases z:co b a c=true
 ·rw[if_pos z,if_pos z,rf,rf,hψ]
 ·rw[if_neg z,if_neg z,yi]
def slow:Row->Option (Row×Int×Int×Row)
 |a::b::r=>if a<2*b then some ([],a,b,r) else(slow (b::r)).map λz=>(a::z.1,z.2)
 |_=>none
theorem x8:∀{r p q:Row}{a b:Int},slow r=some (p,a,b,q)->r=p++a::b::q/\a<2*b
 |[],_,_,_,_,h=>by cases h
 |[_],_,_,_,_,h=>by cases h
 |a::b::r,p,q,a',b',h=>by
  unfold slow at h;split at h
  ·rename_i c;cases h;exact⟨rfl,c⟩
  ·obtain⟨⟨g,z⟩,d,f⟩:=jE.mp h;cases f;obtain⟨e,l⟩:=x8 d;exact⟨by rw[e];rfl,l⟩
def mH:Nat->Row->List Row
 |0,r=>[r]
 |n+1,r=>match slow r with
  |none=>[r]
  |some (p,a,b,q)=>((List.range (b.toNat+1)).filter (co b a)).flatMap λc=>mH n (p++two a b c++q)
theorem xq(d:Row->Nat) (f:Nn m):∀(n:Nat) (r:Row),Act r d m=xr (mH n r) λs=>Act s d m
 |0,r=>by
  show _=_^^^0;rw[jx]
 |n+1,r=>by
  unfold mH;split
  ·show _=_^^^0;rw[jx]
  ·rename_i p a b q h;obtain⟨e,l⟩:=x8 h;rw[uV,e,Gw l p q d f];exact zj λc _=>xq d f n _
def jP(a b:List Row):Bool:=(a++b).all λx=>Nat.beq ((a.count x+b.count x)%2) 0
theorem LG(h:jP a b=true)(x:Row):a.count x%2=b.count x%2:=by
 by_cases c:x∈a++b
 ·have:=pS (cZ.mp h x c);lia
 ·have d:x∉a:=λz=>c (dB.mpr (.inl z))
  have e:x∉b:=λz=>c (dB.mpr (.inr z))
  rw[ka.mpr d,ka.mpr e]
def jG(a:Row->Nat) (v:Nat):Nat:=xr (List.range 84) λi=>if v.testBit i=true then a (aY.getD i []) else 0
theorem KC(a:Row->Nat)(v w:Nat):jG a (v^^^w)=jG a v^^^jG a w:=by
 unfold jG;rw[←lz];exact zj λi _=>by rw[DB,tY]
theorem Rt(a:Row->Nat):jG a 0=0:=by
 unfold jG;rw[show(λi=>if(0:Nat).testBit i=true then a (aY.getD i []) else 0)=λ_=>0 from funext λi=>by rw[yA];rfl,lA]
theorem rb{b:Type}(a:Row->Nat)(g:b->Nat):∀L:List b,jG a (xr L g)=xr L λc=>jG a (g c)
 |[]=>Rt a
 |c::L=>by rw[ik,KC,rb a g L];rfl
theorem x9(a:Row->Nat)(v:Nat):xr (i3 v) a=jG a v:=by
 unfold i3;refine(qJ (b:=((List.range 84).filter λi=>v.testBit i).map λi=>aY.getD i []) λx=>by rw[(zp _).count_eq]).trans ?_;rw[qm,tI]
 rfl
theorem wB:∀(a:List Nat) (v:Nat),f8 a v=xr (List.range a.length) λi=>if v.testBit i=true then a.getD i 0 else 0
 |[],v=>rfl
 |t::a,v=>by
  rw[lB,dh,oe,wB a]
  congr 1
  ·by_cases c:v%2=1
   ·rw[if_pos c,if_pos (by rw[Nat.testBit_zero];exact cC c)]
    rfl
   ·rw[if_neg c,if_neg (by rw[Nat.testBit_zero];simpa using c)]
  ·exact zj λi _=>by rw[Nat.testBit_succ];rfl
def zD(a i:Nat):Bool:=bif Nat.ble ((aY.getD i []).sum.toNat+a) 9 then jP (mH 40 ((a:Int)::aY.getD i [])) (((List.range 84).filter λj=>((gC.getD a []).getD i 0).testBit j).map λj=>aY.getD j [])&&(List.range 84).all (λj=>!((gC.getD a []).getD i 0).testBit j||decide ((aY.getD j []).sum=(aY.getD i []).sum+a)) else true
theorem MU:((List.range 9).all λa=>(List.range 84).all λi=>zD (a+1) i)=true:=by decide +kernel
theorem Rc:(aY.all λr=>r.all λx=>decide (0<=x))=true:=by decide +kernel
theorem JR:0<=(aY.getD i []).sum:=by
 by_cases c:i<aY.length
 ·rw[cK,bS c];exact lS λx a=>gP (cZ.mp (cZ.mp Rc _ (fZ c)) x a)
 ·rw[cK,oD (by lia)];exact CD _
theorem n0:∀(r:Row),(∀x∈r,1<=x)->r.sum<=9->(∀i,i<84->(nu r).testBit i=true->(aY.getD i []).sum=r.sum)/\∀(d:Row->Nat) (m:Row),Nn m->Act r d m=jG (λs=>Act s d m) (nu r)
 |[],_,_=>by
  refine⟨λi b h=>?_,λd m v=>?_⟩
  ·have:i=0:=by
    have h:(2^0:Nat).testBit i=true:=h;rw[Dj] at h;exact(gP h).symm
   subst this
   rfl
  ·show d m=jG _ 1;unfold jG;rw[uW (k:=0) (by lia) λc H=>if_neg (by rw[show(1:Nat)=2^0 from rfl,Dj];simpa using fO H)]
   rfl
 |a::r,hp,hs=>by
  have P:=hp a dk;have f:∀x∈r,1<=x:=λx o=>hp x (bT _ o)
  have Q:0<=r.sum:=lS λx o=>by have:=f x o;lia
  rw[fq] at hs;obtain⟨A,E⟩:=n0 r f (by lia);obtain⟨a,rfl⟩:=kX (show 0<=a by lia);have e:nu ((a:Int)::r)=xr (List.range 84) λi=>if(nu r).testBit i=true then(gC.getD a []).getD i 0 else 0:=by
   show f8 (gC.getD (a:Int).toNat []) (nu r)=_;rw[wB,j9,qV (by lia) (by lia)]
  have n:∀i,i<84->(nu r).testBit i=true->jP (mH 40 ((a:Int)::aY.getD i [])) (((List.range 84).filter λj=>((gC.getD a []).getD i 0).testBit j).map λj=>aY.getD j [])=true/\∀j,j<84->((gC.getD a []).getD i 0).testBit j=true->(aY.getD j []).sum=(aY.getD i []).sum+a:=λi b g=>by
   have:=cZ.mp (cZ.mp MU (a-1) (bB.mpr (by lia))) i (bB.mpr b);rw[show a-1+1=a by lia] at this;unfold zD at this;have J:=@JR i;have C:=A i b g;rw[show Nat.ble ((aY.getD i []).sum.toNat+a) 9=true from Ds (by lia)] at this;obtain⟨t,I⟩:=Pi.mp this;refine⟨t,λj p u=>?_⟩;have:=cZ.mp I j (bB.mpr p);rw[u] at this;exact gP (by simpa using this)
  refine⟨λj p g=>?_,λd m v=>?_⟩
  ·rw[e] at g;have:∃i,i<84/\(nu r).testBit i=true/\((gC.getD a []).getD i 0).testBit j=true:=by
    by_cases c:∃i,i<84/\(nu r).testBit i=true/\((gC.getD a []).getD i 0).testBit j=true
    ·exact c
    ·exfalso
     have none:∀l:List Nat,(∀i∈l,i<84)->(xr l λi=>if(nu r).testBit i=true then(gC.getD a []).getD i 0 else 0).testBit j=false:=λl=>by
      induction l with
      |nil=>intro _;exact yA j
      |cons i l ih=>
       intro y;rw[ik,tY,ih λi b=>y i (bT _ b)];by_cases z:(nu r).testBit i=true
       ·rw[if_pos z];cases q:((gC.getD a []).getD i 0).testBit j with
        |false=>rfl
        |true=>exact absurd ⟨i,y i dk,z,q⟩ c
       ·rw[if_neg z,yA]
        rfl
     rw[none _ λi b=>bB.mp b] at g;cases g
   obtain⟨i,b,w,G⟩:=this;rw[(n i b w).2 j p G,A i b w,fq];lia
  ·rw[uY,E (T (a:Int) d) m v,e,rb];unfold jG;refine zj λi b=>?_
   have b:=bB.mp b;by_cases z:(nu r).testBit i=true
   ·rw[if_pos z];show Act ((a:Int)::aY.getD i []) d m=_;have t:=(n i b z).1;rw[xq d v 40,qJ (LG t),qm,tI];simp only[z,gt]
   ·rw[if_neg z];simp only[z];exact(Rt λs=>Act s d m).symm
structure hU (c:Int) (ks:List Row):Prop where
 pos:∀r∈ks,∀x∈r,1<=x
 sum:∀r∈ks,r.sum<=c
theorem hU.nn(h:hU c b):∀r∈b,∀x∈r,0<=x:=λr d x a=>by have:=h.pos r d x a;lia
theorem Hx(a:List Row):cn a=xr a nu:=rfl
theorem BK(h:r∈i3 v):∃i,i<84/\v.testBit i=true/\r=aY.getD i []:=by
 unfold i3 at h;obtain⟨i,c,rfl⟩:=bQ.mp ((zp _).mem_iff.mp h);obtain⟨a,b⟩:=dL.mp c;exact⟨i,bB.mp a,b,rfl⟩
theorem Rb:∀x∈aY.getD i [],0<=x:=λx a=>by
 by_cases c:i<aY.length
 ·rw[cK,bS c] at a;exact gP (cZ.mp (cZ.mp Rc _ (fZ c)) x a)
 ·rw[cK,oD (by lia)] at a;cases a
theorem Iw(v:Nat):∀r∈i3 v,∀x∈r,0<=x:=λr a=>by
 obtain⟨i,_,_,rfl⟩:=BK a;exact Rb
theorem Sf(h:hU 9 ks)(a:Row->Nat) (c:Nn m):xr (i3 (cn ks)) (λr=>Act r a m)=xr ks λr=>Act r a m:=by
 rw[x9,Hx,rb];exact zj λr b=>((n0 r (h.pos r b) (h.sum r b)).2 a m c).symm
theorem Ny(g:∀r∈a,∀x∈r,0<=x)(f:∀r∈b,∀x∈r,0<=x)(d:∀p∈e,Nn p)(h:∀(c:Row->Nat) (m:Row),Nn m->xr a (λr=>Act r c m)=xr b λr=>Act r c m):aO (ak a e)=aO (ak b e):=by
 refine R4 λc=>?_
 rw[uU g d,uU f d];exact(l0 _ _ _).trans ((zj λm i=>h c m (d m i)).trans (l0 _ _ _).symm)
theorem Ti(h:hU 9 ks)(b:∀p∈a,Nn p):aO (ak (i3 (cn ks)) a)=aO (ak ks a):=Ny (Iw _) h.nn b λc m d=>Sf h c d
theorem Uz:(List.range 5).all (λn=>(List.range 21).all λs=>Nat.blt (4^n*3^s) (3^n*(20001*2^s)))=true:=by decide +kernel
theorem GC{r:Row}(f:r.length<=4)(h:∀x∈r,0<=x)(e:r.sum<=20):dM r<=20000:=by
 have c:=DZ h;have a:=cZ.mp (cZ.mp Uz r.length (bB.mpr (by lia))) r.sum.toNat (bB.mpr (by lia));have a:4^r.length*3^r.sum.toNat<3^r.length*(20001*2^r.sum.toNat):=Nat.blt_eq.mp a;have b:=iZ c a;have d:=TU b;have g:=TV d;lia
structure KG (n K:Nat) (S0:List Row):Prop where
 rows:Rows n S0
 n10:n<=10
 item:∀{T:Nat},T<K->∀{x:Row},x∈UU S0 T->x.length=n/\(∀y∈x,0<=y/\y<=1000)/\dM x<=20000
 total:∀{T k:Nat},T+k<=K->∀{l:List Row},l.Nodup->(∀x∈l,x∈UU S0 T)->(af (k:Int) l).length<=600000
 top:∀{T:Nat},T<=K->∀{l:List Row},l.Nodup->(∀x∈l,x∈UU S0 T)->l.length<=20000
noncomputable def cG(n:Nat):Nat:=bif Nat.ble n 3 then 4 else bif Nat.ble n 4 then 2 else 1
noncomputable def kG(n:Nat):Nat:=bif Nat.ble n 4 then 14 else 8
theorem Nm:(List.range 9).all (λn=>(List.range 15).all λT=>(List.range 15).all λk=>Nat.ble (T+k) (kG n)==false||Nat.ble (cG n*(sk n T*sk n k)) 600000)=true:=by decide +kernel
theorem K7:(List.range 9).all (λn=>(List.range 15).all λT=>Nat.ble T (kG n)==false||Nat.ble (cG n*sk n T) 20000)=true:=by decide +kernel
theorem F8{K:Nat}(a:Rows n S0)(E:n<=8)(C:K<=kG n)(o:S0.length<=cG n)(u:∀p∈S0,p.sum+K<=if n<=3 then 32 else if n<=4 then 21 else 18):KG n K S0:=by
 have A:kG n<=14:=by unfold kG;cases Nat.ble n 4<;>decide
 refine⟨a,by lia,λ{T} t {x} g=>?_,λ{T k} t {l} h e=>?_,λ{T} t {l} h e=>?_⟩
 ·obtain⟨p,f,i⟩:=fr.mp g;obtain⟨d,m⟩:=sP i;have b:=d.pos (a p f).2;have j:=d.len.trans (a p f).1;have s:=u p f;have z:x.sum<=32:=by split at s<;>(try split at s)<;>lia
  refine⟨j,λy q=>⟨b y q,by have:=nO b y q;lia⟩,?_⟩;by_cases c:n<=3
  ·rw[if_pos c] at s;exact v9 (by lia) b (by lia)
  ·rw[if_neg c] at s;by_cases c4:n<=4
   ·rw[if_pos c4] at s;exact GC (by lia) b (by lia)
   ·rw[if_neg c4] at s;exact v3 (by lia) b (by lia)
 ·have G:(af (k:Int) l).length<=l.length*jq n k:=Sa λr v=>by
   obtain⟨p,f,i⟩:=fr.mp (e r v);obtain⟨d,m⟩:=sP i;have:=Og (k:=k) (d.pos (a p f).2)
   rwa [d.len,(a p f).1] at this
  have d:l.length<=(UU S0 T).length:=pY h λx g=>e x g
  rw[qM a] at d;have m:l.length*jq n k<=S0.length*(jq n T*jq n k):=by
   rw[←tX];exact lI _ d
  have:=cZ.mp (cZ.mp (cZ.mp Nm n (bB.mpr (by lia))) T (bB.mpr (by lia))) k (bB.mpr (by lia));have c:Nat.ble (T+k) (kG n)=true:=ri.mpr (by lia);rw[c] at this;have:=ri.mp (by simpa using this);rw[uA (by lia),uA (by lia)] at this;have w:=lI (jq n T*jq n k) o;lia
 ·have d:l.length<=(UU S0 T).length:=pY h λx g=>e x g
  rw[qM a] at d;have:=cZ.mp (cZ.mp K7 n (bB.mpr (by lia))) T (bB.mpr (by lia));rw[show Nat.ble T (kG n)=true from ri.mpr (by lia)] at this;have:=ri.mp (by simpa using this);rw[uA (by lia)] at this;have w:=lI (jq n T) o;lia
theorem VS{K:Nat}(h:KG n K S0){T:Nat}(e:1<=k)(d:T+k<=K){l:List Row}(c:l.Nodup)(b:∀x∈l,x∈UU S0 T)(q:∀g,Q (aK (aO (af (k:Int) l))) (au++g)):WP (vz [aK l,.int (k:Int)] au) Q:=
 VT (by lia) (λr a=>(h.item (by lia) (b r a)).2.1) (λr a=>by rw[(h.item (by lia) (b r a)).1];have:=h.n10;lia) (λr a=>(h.item (by lia) (b r a)).2.2) (by have:=h.total d c b;lia) q
theorem NP{T:SS}(U:T=bP (aH (ky (aA 3) (kr fA (eC (.int 1))))) (gN 5) Fw){n K f:Nat}{v d:List Row}(h:KG n K v)(P:∀y∈d,y∈UU v f){u w x E:Option D}{a:Row}{s0:aa}{Q:Fl->aa->Prop}(r:∀p∈a,1<=p)(ps:a.sum+f<=K)(rl:a.length<=100)(I:d.Nodup)
  (o:∀l i g,l.Nodup->(∀y∈l,y∈UU v K)->(∀y,l.count y%2=(R a d).count y%2)->Q (.nx [u,w,x,some (aL a),some (aK l),i]) (s0++g)):
  WP (T [u,w,x,some (aL a),some (aK d),E] s0) Q:=by
 subst U;have Y:ky (aA 3) (kr fA (eC (.int 1))) [u,w,x,some (aL a),some (aK d),E] s0=.ok (.tup (a.map D.int).reverse) s0:=rfl;refine yf (WP.of Y ⟨_,rfl,?_⟩);refine gX (λj C s=>∃i l g,C=[u,w,x,some (aL a),some (aK l),i]/\s=s0++g/\l.Nodup/\(∀y∈l,y∈UU v (f+(a.drop (a.length-j)).sum.toNat))/\∀y,l.count y%2=(R (a.drop (a.length-j)) d).count y%2) ⟨_,d,[],rfl,by simp,I,λy b=>?_,λy=>?_⟩ ?_ ?_
 ·rw[CL,OT];exact Bw (fe _ _) (P y b)
 ·rw[CL,OT]
  rfl
 ·rintro j y C s b ⟨i,l,g,rfl,rfl,z,k,q⟩;have J:j<a.length:=by have:=(cU.mp b).1;simpa using this
  have e0:a.length-j=a.length-(j+1)+1:=by lia
  have c:a.length-(j+1)<a.length:=by lia
  have H:y=.int a[a.length-(j+1)]:=by
   rw[List.getElem?_reverse (by simpa using J),bh,fK,show a.length-1-j=a.length-(j+1) by lia,bS c] at b
   simpa using b.symm
  subst H;refine⟨_,rfl,?_⟩;unfold Fw;have t:a.drop (a.length-(j+1))=a[a.length-(j+1)]::a.drop (a.length-j):=by
   rw[kY c,e0]
  generalize hk:a[a.length-(j+1)]=kk at t;have k1:1<=kk:=r kk (by rw[←hk];exact fZ c);obtain⟨G,rfl⟩:=kX (show 0<=kk by lia);have A:0<=(a.drop (a.length-j)).sum:=lS λp m=>by have:=r p (pR m);lia
  have S:(a.drop (a.length-(j+1))).sum<=a.sum:=by
   have e:=kc (a.length-(j+1)) a;have e2:a.sum=(a.take (a.length-(j+1))).sum+(a.drop (a.length-(j+1))).sum:=by rw[←iw,e]
   have:0<=(a.take (a.length-(j+1))).sum:=lS λp m=>by have:=r p (me m);lia
   lia
  rw[t,fq] at S;simp only[W,V];refine VS h (T:=f+(a.drop (a.length-j)).sum.toNat) (by lia) (by lia) z k λX=>?_
  simp only[L];refine⟨_,_,g++X,rfl,by simp,nH _,λy b=>?_,λy=>?_⟩
  ·have:=tm h.rows k (qu b);rw[t,fq,show f+((G:Int)+(a.drop (a.length-j)).sum).toNat=f+(a.drop (a.length-j)).sum.toNat+G by lia];exact this
  ·rw[pu,t];exact Sb _ q y
 ·rintro C s ⟨i,l,g,rfl,rfl,z,k,q⟩;rw[Dk,bh,rm,OI] at k q;have A:0<=a.sum:=lS λp m=>by have:=r p m;lia
  exact o l i g z (λy b=>Bw (by lia) (k y b)) q
section
variable {au:aa}{Q:D->aa->Prop}
theorem Ts{n K:Nat}{c:List Row}(h:KG n K c){a:List Row}(J:a.length<=40)(x:∀r∈a,r.length<=100)(u:fc K 0 a)(z:c.Nodup)(k:∀g,Q (aK (aO (ak a c))) (au++g)):WP (vj [aK a,aK c] au) Q:=by
 have A:∀y∈c,y∈UU c 0:=λy m=>wX m
 refine gM rfl ?_;simp only[W,V];refine⟨small _ (by simp),_,rfl,?_⟩;refine gX (λi p s=>∃j f d F g,p=[some (aK a),some (aK c),some (.ref au.length),j,f,d]/\s=au++.lst (aJ F)::g/\F.length<=20000*i/\∀y,F.count y%2=(ak (a.take i) c).count y%2) ⟨_,_,_,[],[],rfl,rfl,by simp,λy=>rfl⟩ ?_ ?_
 ·rintro i y p s m ⟨j,f,d,F,g,rfl,rfl,t,e⟩;obtain⟨b,o,rfl⟩:=jk m;have q:=dY o;have I:=(cU.mp o).1;refine⟨[some (aK a),some (aK c),some (.ref au.length),some (aL b),f,d],rfl,?_⟩;unfold Tw;rw[n7];refine WP.of (show aF 4 (aA 1) [some (aK a),some (aK c),some (.ref au.length),some (aL b),f,d] (au++O.lst (aJ F)::g)=.ok (.nx [some (aK a),some (aK c),some (.ref au.length),some (aL b),some (aK c),d]) (au++.lst (aJ F)::g) from rfl) ?_;show WP (aD _ _ _ _) _;rw[n7];refine NP rfl h A (u.pos b q) (by have:=u.sum b q;lia) (x b q) z λl H v C E w=>?_
  show WP (bR _ _ _) _;simp only[W,V,Fa];have P:=h.top (bj _) C E;refine⟨_,_,rfl,by simp;rfl,_,_,_,rfl,by simp;rfl,rfl,by rw[zc,zc];exact kf (by lia),?_⟩;simp only[L];refine⟨_,_,_,F++l,g++v,rfl,by simp[aJ],by rw[cJ];lia,λy=>?_⟩;rw[ze o];unfold ak at e ⊢;rw[Di,List.flatMap_singleton,j8,j8];have S:=e y;have G:=w y;lia
 ·rintro p s ⟨j,f,d,F,g,rfl,rfl,t,e⟩;rw[zc] at t;rw[zc,cX] at e;simp only[W,V,M];refine⟨_,_,rfl,nB _ _,?_⟩;refine Ee (l:=F) rfl (by lia) λv=>?_
  rw[sX,vp e,eE];exact k _
end
structure lp (m:Int) (lg c:Nat) (l:List Row):Prop where
 row:∀r∈l,bt r m lg
 nd:l.Nodup
 len:l.length<=c
theorem Sc{n:Nat}{A m L:Int}{lg c:Nat}(i:L=lg)(q:A=c)(b:lg<=100)(s:c<=60)(d:cT au n)(h:0<=m)(o:m<=900)(k:∀l a,lp m lg c l->bV au a n->Q (aK l) a):WP (nG [.ref n,.int A,.int m,.int L] au) Q:=by
 obtain⟨l,a,e,g,j,r,p,f⟩:=U2 (A:=A) (m:=m) i b (by lia) (by lia) d h o;exact WP.of e (k l a ⟨g,j,by lia⟩ f)
theorem ya:(aY.all λr=>Nat.ble r.length 6&&r.all λx=>decide (1<=x))=true/\Nat.ble ((List.range 84).filter λi=>decide ((aY.getD i []).sum<=9)).length 40=true:=by decide +kernel
theorem wP(h:i<84):(aY.getD i []).length<=6/\∀x∈aY.getD i [],1<=x:=by
 have c:i<aY.length:=by rw[pp];exact h
 have e:aY.getD i []=aY[i]:=by rw[cK,bS c];rfl
 have:=cZ.mp ya.1 aY[i] (fZ c);obtain⟨a,b⟩:=Pi.mp this;rw[e];exact⟨Dr a,λx d=>gP (cZ.mp b x d)⟩
structure qd (c:Int) (l:List Row):Prop where
 len:l.length<=40
 short:∀r∈l,r.length<=6
 pos:∀r∈l,∀x∈r,1<=x
 nd:l.Nodup
 sum:∀r∈l,r.sum<=c
theorem oM(v:c<=9)(h:hU c ks):qd c (i3 (cn ks)):=by
 have m:∀(l:List Row) (i:Nat),(cn l).testBit i=true->∃r∈l,(nu r).testBit i=true:=λl i=>by
  induction l with
  |nil=>intro z;rw[show cn []=0 from rfl,yA] at z;cases z
  |cons r l ih=>
   intro z;rw[show cn (r::l)=nu r^^^cn l from rfl,tY] at z;cases q:(nu r).testBit i with
   |true=>exact⟨r,dk,q⟩
   |false=>
    rw[q,Bool.false_xor] at z;obtain⟨u,d,k⟩:=ih z;exact⟨u,bT _ d,k⟩
 have g:∀i,i<84->(cn ks).testBit i=true->(aY.getD i []).sum<=c:=λi n j=>by
  obtain⟨r,f,j⟩:=m ks i j;have:=h.sum r f;rw[(n0 r (h.pos r f) (by lia)).1 i n j];exact this
 refine⟨?_,λr f=>?_,λr f=>?_,?_,λr f=>?_⟩
 ·unfold i3;rw[(zp _).length_eq,bh];refine ax (pY (Do _ pK) λi n=>?_) (Dr ya.2);obtain⟨d,k⟩:=dL.mp n;exact dL.mpr ⟨d,cC (by have:=g i (bB.mp d) k;lia)⟩
 ·obtain⟨i,d,_,rfl⟩:=BK f;exact(wP d).1
 ·obtain⟨i,d,_,rfl⟩:=BK f;exact(wP d).2
 ·unfold i3;rw[(zp _).nodup_iff,rO];refine C6.mpr (List.Pairwise.imp_of_mem (λ{a b} o j t e=>?_) (rO.mp (Do _ pK)));have p:a<aY.length:=by rw[pp];exact bB.mp (dL.mp o).1
  have s:b<aY.length:=by rw[pp];exact bB.mp (dL.mp j).1
  rw[cK,cK,bS p,bS s] at e;exact t ((C3 Ed).mp e)
 ·obtain⟨i,d,k,rfl⟩:=BK f;exact g i d k
def o8(m:Nat):Row:=List.replicate m 1++List.replicate (8-m) 0
theorem lX(m:Nat):Nn (o8 m):=λx hx=>by
 rcases dB.mp hx with hx|hx<;>rw[(List.mem_replicate.mp hx).2]<;>decide
def t8:List (Row×Nat):=[([1,1,1,1,1,1,1,1],1),([2,1,1,1,1,1,1,1],2),([2,2,1,1,1,1,1,1],4),([2,2,2,1,1,1,1,1],16),([2,2,2,2,1,1,1,1],64),([2,2,2,2,2,1,1,1],256),([2,2,2,2,2,2,1,1],2048),([2,2,2,2,2,2,2,1],32768),([2,2,2,2,2,2,2,2],524288),([4,1,1,1,1,1,1,1],24),([4,2,1,1,1,1,1,1],32),([4,2,2,1,1,1,1,1],384),([4,2,2,2,1,1,1,1],1024),([4,2,2,2,2,1,1,1],49152),([4,2,2,2,2,2,1,1],262144),([4,4,1,1,1,1,1,1],3584),([4,4,2,1,1,1,1,1],40960),([4,4,2,2,1,1,1,1],393216),([8,1,1,1,1,1,1,1],61440),([8,2,1,1,1,1,1,1],327680)]
theorem xU(a b:Nat):(a%2)^^^(b%2)=(a+b)%2:=by
 rcases mh a with e|e<;>rcases mh b with f|f<;>rw[e,f]
 ·show 0=_;lia
 ·show 1=_;lia
 ·show 1=_;lia
 ·show 0=_;lia
theorem Rx(M:List Row):∀L:List Row,(xr M λy=>L.count y%2)=(di L λq=>M.count q)%2
 |[]=>by
  rw[show(λy:Row=>([]:List Row).count y%2)=λ_=>0 from funext λy=>rfl,lA]
  rfl
 |q::L=>by
  have e:(λy:Row=>(q::L).count y%2)=λy=>(if y=q then 1 else 0)^^^(L.count y%2):=funext λy=>by
   rw[om,CM,←xU]
   congr 1
   by_cases c:q=y
   ·rw[if_pos (by simpa using c),if_pos c.symm]
   ·rw[if_neg (by simpa using c),if_neg (fO c)]
  rw[e,lz,n8,Rx M L,xU,iR]
theorem FJ{L:List Row}(f:n≠0)(g:Rows n L)(b:0<=a) (d:Nn x):T a (λy=>L.count y%2) x=(k8 a L).count x%2:=by
 rw[←vT b d,Rx];unfold k8;rw[qA]
 congr 1
 refine Sk λq h=>?_
 have e:=g q h;have k:q≠[]:=λz=>by rw[z] at e;exact f e.1.symm
 by_cases c:q.length=x.length
 ·exact(NT k c e.2 d b).symm
 ·have j:(bH a x).count q=0:=ka.mpr λz=>by
   rw[tO d b] at z;exact c ((Vl d q (dL.mp z).1).2)
  have i:(mF a q).count x=0:=ka.mpr λz=>by
   have:=(g.low f b x (fr.mpr ⟨q,h,z⟩)).1;exact c (e.1.trans this.symm)
  rw[j,i]
def AC(b:Row) (L:List Row):List Row:=b.foldl (λL a=>k8 a L) L
theorem w9(d:n≠0):∀(b:Row) {L:List Row},(∀x∈b,0<=x)->Rows n L->∀{m:Row},Nn m->Act b (λy=>L.count y%2) m=(AC b L).count m%2
 |[],_,_,_,_,_=>rfl
 |a::b,L,hr,hL,m,c=>by
  have e:=hr a dk;rw[uY,Nd (χ:=λy=>(k8 a L).count y%2) (λm c=>FJ d hL e c) c,w9 d b (λx f=>hr x (bT _ f)) (hL.low d e) c]
  rfl
def z8(j:Nat):List Row:=(t8.filter λq=>q.2.testBit j).map (·.1)
theorem Gs:(t8.all λq=>decide (q.1.length=8)&&q.1.all λx=>decide (0<=x))=true:=by decide +kernel
theorem FH:((List.range 20).all λi=>(List.range 20).all λj=>Nat.beq (xr (z8 j) λz=>(AC (aY.getD i []) [z]).count (o8 8)%2) (if i=j then 1 else 0))=true:=by decide +kernel
theorem P6:((List.range 84).all λi=>Nat.ble i 19||decide (8<(aY.getD i []).sum))=true:=by decide +kernel
theorem Qs(f:i<20)(c:j<20):(xr (z8 j) λz=>Act (aY.getD i []) (λy=>[z].count y%2) (o8 8))=if i=j then 1 else 0:=by
 have e:=pS (cZ.mp (cZ.mp FH i (bB.mpr f)) j (bB.mpr c));rw[←e];refine zj λz k=>w9 (n:=8) (by lia) _ Rb (λr d=>?_) (lX 8)
 rw[em.mp d];obtain⟨q,h,rfl⟩:=bQ.mp k;have:=cZ.mp Gs q (dL.mp h).1;obtain⟨a,b⟩:=Pi.mp this;exact⟨gP a,λx g=>gP (cZ.mp b x g)⟩
theorem Mf(h:hU 8 ks):∀i,i<84->(cn ks).testBit i=true->i<20:=λi c a=>by
 have d:∀l:List Row,(cn l).testBit i=true->∃r∈l,(nu r).testBit i=true:=λl=>by
  induction l with
  |nil=>intro z;rw[show cn []=0 from rfl,yA] at z;cases z
  |cons r l ih=>
   intro z;rw[show cn (r::l)=nu r^^^cn l from rfl,tY] at z;cases q:(nu r).testBit i with
   |true=>exact⟨r,dk,q⟩
   |false=>
    rw[q,Bool.false_xor] at z;obtain⟨g,f,e⟩:=ih z;exact⟨g,bT _ f,e⟩
 obtain⟨r,b,a⟩:=d ks a;have s:=(n0 r (h.pos r b) (by have:=h.sum r b;lia)).1 i c a;have:=cZ.mp P6 i (bB.mpr c);rcases Bool.or_eq_true_iff.mp this with z|z
 ·have:=Dr z;lia
 ·have:=gP z;have:=h.sum r b;lia
theorem yV(h:hU 8 ks)(e:aO (ak ks [o8 8])=[]):i3 (cn ks)=[]:=by
 have t:hU 9 ks:=⟨h.pos,λr n=>by have:=h.sum r n;lia⟩
 have C:∀p∈[o8 8],Nn p:=λp w=>by rw[em.mp w];exact lX 8
 have x:∀a:Row->Nat,xr ks (λr=>Act r a (o8 8))=0:=λa=>by
  have:xr (aO (ak ks [o8 8])) a=0:=by rw[e];rfl
  rw[vS,uU h.nn C] at this;rw[←this];exact zj λr _=>(jx _).symm
 have y:∀a:Row->Nat,jG (λr=>Act r a (o8 8)) (cn ks)=0:=λa=>by rw[←x9,Sf t a (lX 8),x]
 have d:=Mf h;generalize cn ks=v at y d;have l:∀a:Row->Nat,(xr (List.range 20) λi=>if v.testBit i=true then Act (aY.getD i []) a (o8 8) else 0)=0:=λa=>by
  refine Eq.trans ?_ (y a);unfold jG;have o:List.range 84=List.range 20++(List.range 64).map (20+·):=by decide
  rw[o,Ce,qm]
  rw[show(xr (List.range 64) λx=>if v.testBit (20+x)=true then Act (aY.getD (20+x) []) a (o8 8) else 0)=0 from by
   rw[zj (g:=λ_=>0) λx u=>if_neg λz=>?_,lA];have:=d (20+x) (by have:=bB.mp u;lia) z
   lia,jx]
 have none:∀j,j<20->v.testBit j=false:=λj m=>by
  have s:(xr (z8 j) λz=>xr (List.range 20) λi=>if v.testBit i=true then Act (aY.getD i []) (λy=>[z].count y%2) (o8 8) else 0)=0:=by
   rw[zj (g:=λ_=>0) λz _=>l _,lA]
  rw[l0,zj (g:=λi=>if i=j then(if v.testBit i=true then 1 else 0) else 0) λi f=>?_,uW (k:=j) m λc A=>if_neg A,if_pos rfl] at s
  ·cases q:v.testBit j with
   |false=>rfl
   |true=>rw[q] at s;cases s
  ·by_cases b:v.testBit i=true
   ·simp only[b,gt];exact Qs (bB.mp f) m
   ·rw[show v.testBit i=false from by simpa using b];simp only[jo,gj,lA];split<;>rfl
 unfold i3;rw[Du.mpr λi f=>?_]
 ·rfl
 ·cases q:v.testBit i with
  |false=>exact oB
  |true=>
   have:=none i (d i (bB.mp f) q);rw[q] at this;cases this
end Dd
namespace Dd
open L2
def TR:SS:=(aD (aF 3 (aG (aH (aA 1)) 1 [] (gN 0) (eB (aS lO (aE cu (aB (aE pz (aB (aA 0) aC)) aC)) (eC (.int 0)))) (aA 0)))
 (eH (eB (aS lO (aE cu (aB (aA 3) aC)) (eC (.int 0)))) (aD (aF 4 (aS cF (aA 3) (aE zl (aB (aA 0) (aB (aE cu (aB (aA 3) aC)) aC)))))
 (aF 1 (aE Cz (aB (aA 1) (aB (aA 4) (aB (aS cF (aE pz (aB (aA 4) aC)) (aE zl (aB (aA 0) (aB (aE cu (aB (aE pz (aB (aA 4) aC)) aC)) aC)))) aC)))))) eV))
def zr:cS:=cB 5 2 (aD (bP (h7 (aB (aE zl (aB (aA 0) (aB (eC (.int 4)) aC))) aC)) (gN 2) TR)
 (aW (aA 1)))
def B3:cS:=cB 6 2 (aD (aF 2 (aS cF (dU (aB (eC (.int 3)) (aB (eC (.int 3)) (aB (eC (.int 3)) (aB (eC (.int 6)) aC))))) (aE zl (aB (aA 0) (aB (eC (.int 4)) aC)))))
 (aD (eH (eB (aS jL (aA 2) (eC (.int 6)))) (aF 1 (aE ge (aB (aA 1) (aB (eC (.int 5)) aC)))) eV)
 (aD (aF 3 (aE nG (aB (aA 0) (aB (aA 2) (aB (aA 1) (aB (eC (.int 5)) aC))))))
 (aD (aF 4 (aE zl (aB (aA 0) (aB (eC (.int 3)) aC))))
 (aD (eH (eB (aS jL (aA 4) (eC (.int 0)))) (aW (aR (aB (aA 3) (aB (aE nG (aB (aA 0) (aB (aA 2) (aB (aA 1) (aB (eC (.int 5)) aC))))) aC)))) eV)
 (aD (aF 5 (aE zr (aB (aA 0) (aB (aA 3) aC))))
 (aD (eH (eB (aS jL (aA 4) (eC (.int 1)))) (aF 5 (aE zw (aB (aS aM (aE eJ (aB (aA 5) aC)) (dU (aB (aE nE (aB (aA 0) (aB (aA 1) (aB (eC (.int 5)) aC)))) aC))) aC))) eV)
 (aD (eH (eB (aS lO (aE cu (aB (aA 5) aC)) (eC (.int 6)))) (aF 5 (aA 3)) eV)
 (aW (aR (aB (aA 3) (aB (aA 5) aC))))))))))))
def pr:cS:=cB 1 1 (aW (aR (aB (aS aM (aS kj (aR (aB (eC (.int 1)) aC)) (aA 0)) (aS kj (aR (aB (eC (.int 0)) aC)) (aS cf (eC (.int 8)) (aA 0)))) aC)))
def TF:SS:=(eH (eB (aS DL (aE vj (aB (aA 0) (aB (aE pr (aB (aA 2) aC)) aC))) (aE vj (aB (aA 1) (aB (aE pr (aB (aA 2) aC)) aC))))) (aW (aA 2)) eV)
def Cf:cS:=cB 3 2 (aD (bP (h7 (aB (eC (.int 9)) aC)) (gN 2) TF)
 (aW (eC .non)))
def tS:cS:=cB 1 1 (aW (iH (aS zV (aE cu (aB (aA 0) aC)) (eC (.int 6))) (aE (iI true) (aB (aG (aH (aA 0)) 1 [] (gN 0) aI (aS zV (aE gp (aB (aA 0) aC)) (eC (.int 8)))) aC))))
def Cw:cS:=cB 2 2 (aD (eH (qb (fG (cM (aE tS (aB (aA 0) aC)))) (fG (cM (aE tS (aB (aA 1) aC))))) fR eV)
 (aW (aE B4 (aB (aE ny (aB (aA 0) (aB (aA 1) aC))) aC))))
def Ss:SS:=(jI 3 (oI (λ_ _=>True) λi j=>.int (i+j)) (eC (.int 1)))
def uH:cS:=cB 4 2 (aD (aF 2 (aE Cw (aB (aA 0) (aB (aA 1) aC))))
 (aD (eH (fG (cM (aA 2))) (aW (eC .non)) eV)
 (aD (aF 3 (eC (.int 0)))
 (aD (dE (fG (cM (aE (fE qf 8) (aB (aA 2) (aB (aE pr (aB (aA 3) aC)) aC))))) Ss)
 (aW (aA 3))))))
def yg:SS:=(eH (qb (eB (aS DL (aA 7) (aA 6))) (jQ (eB (aS (oS true) (aA 6) (eC .non))) (fG (cM (aE j5 (aB (aA 7) aC)))))) (aW (eC (.bl false))) eV)
def yh:SS:=(aD (aF 2 (aE vg (aB (aA 0) (aB (aA 1) aC))))
 (aD (aF 3 (aS cF (dU (aB (eC (.int 6)) (aB (eC (.int 6)) (aB (eC (.int 6)) (aB (eC (.int 8)) aC))))) (aE zl (aB (aA 2) (aB (eC (.int 4)) aC)))))
 (aD (i5 (gT 2 (bf (gN 4) (bf (gN 5) dA))) (aE B3 (aB (aA 2) (aB (aA 3) aC))))
 (aD (aF 6 (aE Cf (aB (aA 4) (aB (aA 5) aC))))
 (bP (aH (dU (aB (aE uH (aB (aA 4) (aB (aA 5) aC))) (aB (aE uH (aB (aA 5) (aB (aA 4) aC))) aC)))) (gN 7) yg)))))
def qB:cS:=cB 8 1 (aD (bP (h7 (aB (aS aM (aE AT (aB (eC (.int 1)) (aB (aE ge (aB (aE cu (aB (aA 0) aC)) (aB (eC (.int 3)) aC))) aC))) (eC (.int 1))) aC)) (gN 1) yh)
 (aW (eC (.bl true))))
end Dd
namespace Dd
open L2 K07 K23 K13
theorem rY{l:List (List Int)}(t:l.length<=1000)(g:∀r∈l,r.length<=1000)(a:DS)(j:Nat)(h:a[j]?=some (some (aK l))):
  aG (aH (aA j)) 1 [] (gN 0) (eB (aS lO (aE cu (aB (aE pz (aB (aA 0) aC)) aC)) (eC (.int 0)))) (aA 0) a au=.ok (.lst (aJ (l.filter λr=>decide (0<(ay r).length)))) au:=by
 have V:=nA (bd:=gN 0) (c:=eB (aS lO (aE cu (aB (aE pz (aB (aA 0) aC)) aC)) (eC (.int 0)))) (f:=aA 0) (xs:=aJ l) (σ:=[none]) (au:=au)
  (λi acc b s=>s=au/\(∃v,b=[v])/\acc=aJ ((l.take i).filter λr=>decide (0<(ay r).length))) ⟨rfl,⟨none,rfl⟩,rfl⟩ (by
   rintro i y acc b s m ⟨rfl,⟨v,rfl⟩,rfl⟩;obtain⟨r,d,rfl⟩:=jk m;have k:=FA (au:=s) (g r (dY d));have n:cu [.lst (ki (ay r))] s=.ok (.int ((ay r).length:Nat)) s:=by show bv.ok (D.int ((ki (ay r)).length:Nat)) s=_;rw[bh]
   refine⟨[some (aL r)],decide (0<(ay r).length),s,rfl,?_,?_⟩
   ·simp only[aL,ki] at *
    simp[k,n,-K3]
   ·rw[ze d,kT];by_cases c:0<(ay r).length
    ·exact .inr ⟨cC c,aL r,s,rfl,rfl,⟨_,rfl⟩,by simp[aJ,c]⟩
    ·exact .inl ⟨cI c,rfl,⟨_,rfl⟩,by simp[aJ,c]⟩)
 obtain⟨q,o,st',e,rfl,_,rfl⟩:=V;rw[zc,cX] at e;have p:aH (aA j) a st'=.ok (aJ l) st':=by simp[h]
 rw[mU,p,zo,if_pos (by rw[zc];exact small _ (by lia))];show((bo _ _ _ _ [none] _).bind _)=_;rw[e]
 rfl
theorem UM(m8:m<=8)(hb:cT au n)(h:lp m 5 6 l)(k:∀a s,lp m 5 30 a->bV au s n->Q (aK a) s):WP (zr [.ref n,aK l] au) Q:=by
 refine gM rfl ?_;simp only[W,V];refine sY hb (by lia) (by lia) λc s1 c1 c2 d1=>?_
 refine⟨c,rfl,iz (by lia) (by lia),?_⟩;refine gX (λi E s=>∃(a:List Row) (H o j:Option D),E=[some (.ref n),some (aK a),H,o,j]/\lp m 5 (6+6*i) a/\bV au s n) ⟨l,_,_,_,rfl,h,d1⟩ ?_ ?_
 ·rintro i x E s hx ⟨a,H,o,j,rfl,G,q⟩;obtain⟨hi,rfl⟩:=uQ hx;refine⟨[some (.ref n),some (aK a),some (.int (0+i)),o,j],rfl,?_⟩;have a2:i<4:=by lia
  have gl:=G.len;unfold TR;refine hV (R:=λP U=>P=.nx [some (.ref n),some (aK a),some (.int (0+i)),some (.lst (aJ (a.filter λr=>decide (0<(ay r).length)))),j]/\U=s) ?_ ?_
  ·have e:=rY (au:=s) (l:=a) (by lia) (λr f=>by have:=(G.row r f).len;lia) [some (.ref n),some (aK a),some (.int (0+i)),o,j] 1 rfl;show WP (aF 3 _ _ _) _;rw[q7,e];exact⟨rfl,rfl⟩
  rintro P U ⟨rfl,rfl⟩;show WP _ _;generalize hS:(a.filter λr=>decide (0<(ay r).length))=J;have w:∀r∈J,r∈a/\0<(ay r).length:=λr f=>by
   rw[←hS,dL] at f;exact⟨f.1,gP f.2⟩
  have a3:J.length<=1000:=by
   have:=pU (λr=>decide (0<(ay r).length)) a;rw[hS] at this;lia
  simp only[W,V,M,L];refine⟨trivial,?_⟩;split
  ·rename_i y;rw[zc] at y;rw[zc];refine sY q.bag (by lia) (by lia) λt I t0 t1 d2=>?_
   have Y:=q.trans d2;refine xW t0 (by rw[zc];exact t1) λd C=>?_
   obtain⟨r,f,rfl⟩:=bQ.mp C;obtain⟨A,a0⟩:=w r f;have b:=G.row r A;have rl:=b.len;refine WP.of (FA (by lia)) (WP.of (FA (by lia)) ?_);refine WP.of (show cu [.lst (ki (ay r))] I=.ok (.int ((ay r).length:Nat)) I from by show bv.ok (D.int ((ki (ay r)).length:Nat)) I=_;rw[bh]) ?_;have a1:(ay r).length<=6:=by
    unfold ay;have:=pU (λp=>decide (aV r p)) (List.range (r.length-1));rw[pN] at this;lia
   refine sY Y.bag (by lia) (by lia) λu s3 u0 u1 d3=>?_
   have X:=Y.trans d3;refine xW u0 (by rw[bh];exact u1) λd C=>?_
   obtain⟨p,hp,rfl⟩:=bQ.mp C;have v:=Cn.mp hp;have S:=Em b v;obtain⟨g,e⟩:=V8 (au:=s3) (ks:=a) (r:=r) (p:=p) (by lia) (by lia) v S.1.1 (by lia) S.2.1 (by lia);refine WP.of e ⟨_,_,_,_,rfl,⟨λz hz=>?_,nH _,?_⟩,X.trans (.more X.bag g)⟩
   ·rcases dB.mp (qu hz) with hz|hz
    ·exact G.row z hz
    ·rcases bZ.mp hz with rfl|hz
     ·exact b
     ·exact B9 b v z hz
   ·have h2:=Fn (a++(r::aw r p));have h3:=Ct r p;rw[cJ,dh] at h2;lia
  ·exact⟨a,_,_,_,rfl,⟨G.row,G.nd,by lia⟩,q⟩
 ·rintro E s ⟨a,H,o,j,rfl,G,q⟩;rw[kP] at G;simp only[W,V];exact k a s ⟨G.row,G.nd,by have:=G.len;lia⟩ q
theorem MS(f:cT au n)(g:0<=m)(d:m<=900)(k:∀r s,bt r m 5->bV au s n->Q (aL r) s):WP (nE [.ref n,.int m,.int 5] au) Q:=by
 obtain⟨r,c,e,a,b⟩:=SJ (m:=m) (L:=5) (lg:=5) rfl (by lia) f g d;exact WP.of e (k r c a b)
theorem mG{N:Int}(b:0<=N)(a:N<4)(q:∀z,z=x\/z=y->Q (.int z) au):WP (cF (.lst [.int x,.int x,.int x,.int y]) (.int N) au) Q:=by
 have:N=0\/N=1\/N=2\/N=3:=by lia
 rcases this with rfl|rfl|rfl|rfl
 ·exact lW (d:=.int x) rfl rfl (q _ (.inl rfl))
 ·exact lW (d:=.int x) rfl rfl (q _ (.inl rfl))
 ·exact lW (d:=.int x) rfl rfl (q _ (.inl rfl))
 ·exact lW (d:=.int y) rfl rfl (q _ (.inr rfl))
theorem M6{T:SS}(C:T=(aD (aF 3 (aE nG (aB (aA 0) (aB (aA 2) (aB (aA 1) (aB (eC (.int 5)) aC))))))
  (aD (aF 4 (aE zl (aB (aA 0) (aB (eC (.int 3)) aC))))
  (aD (eH (eB (aS jL (aA 4) (eC (.int 0)))) (aW (aR (aB (aA 3) (aB (aE nG (aB (aA 0) (aB (aA 2) (aB (aA 1) (aB (eC (.int 5)) aC))))) aC)))) eV)
  (aD (aF 5 (aE zr (aB (aA 0) (aB (aA 3) aC))))
  (aD (eH (eB (aS jL (aA 4) (eC (.int 1)))) (aF 5 (aE zw (aB (aS aM (aE eJ (aB (aA 5) aC)) (dU (aB (aE nE (aB (aA 0) (aB (aA 1) (aB (eC (.int 5)) aC)))) aC))) aC))) eV)
  (aD (eH (eB (aS lO (aE cu (aB (aA 5) aC)) (eC (.int 6)))) (aF 5 (aA 3)) eV)
  (aW (aR (aB (aA 3) (aB (aA 5) aC)))))))))))
     (t:cT f n)(w:0<=m)(E:m<=8)(A:c=3\/c=6)(k:∀ b a s,lp m 5 6 b->lp m 5 6 a->bV f s n->Q (.tup [aK b,aK a]) s):WP (T [some (.ref n),some (.int m),some (.int c),none,none,none] f) (mw Q):=by
  subst C;have q:∀{f:aa}{Q:D->aa->Prop},cT f n->(∀ l s,lp m 5 6 l->bV f s n->Q (aK l) s)->WP (nG [.ref n,.int c,.int m,.int 5] f) Q:=λ{f Q} t k=>by
    rcases A with rfl|rfl
    · exact Sc (lg:=5) (c:=3) rfl rfl (by lia) (by lia) t w (by lia) λl s h i=>k l s ⟨h.row,h.nd,by have:=h.len; lia⟩ i
    · exact Sc (lg:=5) (c:=6) rfl rfl (by lia) (by lia) t w (by lia) k
  refine hV (R:=λe s=>∃ b,e=.nx [some (.ref n),some (.int m),some (.int c),some (aK b),none,none]/\lp m 5 6 b/\bV f s n) ?_ ?_
  · simp only[W,V]
    exact q t λl s h i=>⟨l,rfl,h,i⟩
  rintro e s ⟨b,rfl,u,x⟩;show WP _ _;refine hV (R:=λe s=>∃ j:Int,e=.nx [some (.ref n),some (.int m),some (.int c),some (aK b),some (.int j),none]/\bV f s n) ?_ ?_
  · simp only[W,V]
    exact sY x.bag (by lia) (by lia) λj s _ _ d=>⟨j,rfl,x.trans d⟩
  rintro e s ⟨j,rfl,v⟩;show WP _ _;by_cases j0:j=0
  · subst j0
    simp only[W,V];exact q v.bag λl s h i=>⟨small _ (by simp),k b l s u h (v.trans i)⟩
  refine hV (R:=λe y=>e=.nx [some (.ref n),some (.int m),some (.int c),some (aK b),some (.int j),none]/\y=s) ?_ ?_
  · simp only[W,V]
    rw[if_neg (by simpa using j0)];exact⟨trivial,trivial⟩
  rintro e y ⟨rfl,rfl⟩;show WP _ _;refine hV (R:=λe s=>∃ a,e=.nx [some (.ref n),some (.int m),some (.int c),some (aK b),some (.int j),some (aK a)]/\lp m 5 30 a/\bV f s n) ?_ ?_
  · simp only[W,V]
    exact UM E v.bag u λl s h i=>⟨l,rfl,h,v.trans i⟩
  rintro e s ⟨a,rfl,o,p⟩;show WP _ _;refine hV (R:=λe s=>∃ a,e=.nx [some (.ref n),some (.int m),some (.int c),some (aK b),some (.int j),some (aK a)]/\lp m 5 31 a/\bV f s n) ?_ ?_
  · simp only[W,V]
    by_cases j1:j=1
    · rw[if_pos (by simpa using j1)]
      refine MS p.bag w (by lia) λr s h i=>⟨small _ (by simp),?_⟩
      have G:=o.len;refine WP.of (show aM (D.lst (aJ a)) (D.lst [aL r]) s=.ok (.lst (aJ (a++[r]))) s from ?_) ?_
      · show(if(aJ a).length + [aL r].length<=sizeLine then bv.ok (D.lst (aJ a++[aL r])) s else .stuck)=_
        rw[if_pos (small _ (by rw[zc]; simp; lia))];simp[aJ]
      refine Ee (l:=a++[r]) rfl (by simp; lia) λg=>⟨_,rfl,⟨λz hz=>?_,nH _,?_⟩,(p.trans i).trans (.more i.bag g)⟩
      · rcases dB.mp (qu hz) with hz|hz
        · exact o.row z hz
        · rw[em.mp hz]
          exact h
      · have:=Fn (a++[r])
        rw[cJ,rL] at this;lia
    · rw[if_neg (by simpa using j1)]
      exact⟨a,rfl,⟨o.row,o.nd,by have:=o.len; lia⟩,p⟩
  rintro e s ⟨a,rfl,o,p⟩;show WP _ _;refine hV (R:=λe s=>∃ a,e=.nx [some (.ref n),some (.int m),some (.int c),some (aK b),some (.int j),some (aK a)]/\lp m 5 6 a/\bV f s n) ?_ ?_
  · simp only[W,V,M]
    refine⟨trivial,?_⟩;rw[zc];split
    · exact⟨b,rfl,u,p⟩
    · exact⟨a,rfl,⟨o.row,o.nd,by lia⟩,p⟩
  rintro e s ⟨a,rfl,o,p⟩;simp only[W,V];exact⟨small _ (by simp),k b a s u o p⟩
theorem HB(h:m<9):(o8 m).length=8:=by
 unfold o8;rw[cJ,rM,rM];lia
theorem zX(h:m<9):m=0\/m=1\/m=2\/m=3\/m=4\/m=5\/m=6\/m=7\/m=8:=by lia
theorem wD(h:m<9):(o8 m).sum<=8:=by
 rcases zX h with rfl|rfl|rfl|rfl|rfl|rfl|rfl|rfl|rfl<;>decide
theorem Eg{m:Nat}(h:m<9):pr [.int (m:Int)] au=.ok (aK [o8 m]) au:=by
 rcases zX h with rfl|rfl|rfl|rfl|rfl|rfl|rfl|rfl|rfl<;>rfl
theorem xQ(h:m<9):Rows 8 [o8 m]:=λr a=>by
 rw[em.mp a];exact⟨HB h,lX m⟩
theorem WV(h:m<9):KX 8 8 [o8 m]:=⟨xQ h,.inr ⟨by lia,by lia,by simp,λp a=>by
 rw[em.mp a];have:=wD h
 lia⟩⟩
theorem T7(h:m<9):KG 8 8 [o8 m]:=F8 (xQ h) (by lia) (by decide) (show 1<=cG 8 by decide) λp a=>by
 rw[em.mp a];have:=wD h;simp;lia
theorem IH:aO (A++B)=[]↔aO A=aO B:=by
 refine⟨λe=>vp λy=>?_,λe=>PF.mpr λy b=>?_⟩
 ·have:=pu (A++B) y;rw[e,j8] at this;simp at this;lia
 ·have:=Rf.mp b;have a:=pu A y;have c:=pu B y;rw[e] at a;rw[j8] at this;lia
theorem Mj(h:∀r∈l,∀x∈r,0<=x)(a:∀p∈b,Nn p):aO (ak (aO l) b)=aO (ak l b):=R4 λd=>by
 rw[uU (λr c=>h r (qu c)) a,uU h a,vS]
structure hQ (l:List Row):Prop where
 row:∀r∈l,bt r 8 5
 nd:l.Nodup
 len:l.length<=6
theorem lp.hld(h:lp m 5 6 l)(b:m<=8):hQ l:=⟨λr a=>⟨(h.row r a).pos,by have:=(h.row r a).sum;lia,(h.row r a).len⟩,h.nd,h.len⟩
theorem hQ.few(h:hQ l):hU 8 l:=⟨λr a=>(h.row r a).pos,λr a=>(h.row r a).sum⟩
theorem BP(c:hQ b)(d:hQ a):hU 8 (aO (b++a))/\cv (aO (b++a)):=by
 have:∀r∈aO (b++a),bt r 8 5:=λr hr=>by
  rcases dB.mp (qu hr) with hr|hr
  ·exact c.row r hr
  ·exact d.row r hr
 exact⟨⟨λr hr=>(this r hr).pos,λr hr=>(this r hr).sum⟩,nH _,λr hr=>⟨(this r hr).pos,by have:=(this r hr).sum;lia,by have:=(this r hr).len;lia⟩⟩
def oT(b a:List Row):List Row:=i3 (cn (aO (b++a)))
theorem Q3(b:hQ one)(c:hQ other)(a:∀p∈S0,Nn p):aO (ak (oT one other) S0)=[]↔aO (ak one S0)=aO (ak other S0):=by
 have f:=(BP b c).1;unfold oT;rw[Ti ⟨f.pos,λr hr=>by have:=f.sum r hr;lia⟩ a,Mj (λr hr=>?_) a]
 ·unfold ak;rw[Di];exact IH
 ·rcases dB.mp hr with hr|hr
  ·exact b.few.nn r hr
  ·exact c.few.nn r hr
def li(b a:List Row):Option Nat:=(List.range 9).find? λm=>!decide (aO (ak b [o8 m])=aO (ak a [o8 m]))
noncomputable def AO:Option Nat->D
 |none=>.non
 |some m=>.int (m:Int)
theorem qH(m:Nat):∀p∈[o8 m],Nn p:=λp a=>by rw[em.mp a];exact lX m
theorem LB(a:hQ one)(b:hQ other)(e:oT one other=[]):li one other=none:=by
 unfold li;rw[yM];intro m _;have:=(Q3 a b (qH m)).mp (by rw[e];rfl);simp[this]
theorem QP(c:m<9)(h:aO (ak one [o8 m])≠aO (ak other [o8 m]))(a:∀i,i<m->aO (ak one [o8 i])=aO (ak other [o8 i])):li one other=some m:=by
 unfold li;rw[List.find?_range_eq_some];refine⟨by simpa using h,bB.mpr c,λj b=>?_⟩;simp[a j b]
theorem wd(h:hQ l):tS [aK l] au=.ok (.bl true) au:=by
 have a:WP (tS [aK l] au) (λv s=>v=.bl true/\s=au):=by
  refine gM rfl ?_;simp only[W,V,M];have d:=h.len;refine⟨trivial,?_⟩;rw[if_pos (by rw[zc];lia)];refine⟨_,rfl,by rw[zc];exact small _ (by lia),?_⟩;refine sQ (λb=>∃v,b=[v]) (λ_=>true) (λr:Row=>.bl (decide (r.sum<=8))) aL ⟨_,rfl⟩ (λr c b ⟨v,e⟩=>?_) ?_
  ·subst e;refine⟨_,rfl,⟨_,rfl⟩,?_,λ_=>?_⟩
   ·simp only[W,V];exact⟨trivial,trivial⟩
   ·simp only[W,V,M];refine⟨_,qz r,?_⟩;simp
  ·refine⟨_,(by exact S1 _ _),?_⟩;simp;exact λr c=>(h.row r c).sum
 obtain⟨v,s,e,rfl,rfl⟩:=a.get;exact e
theorem Jz(a:hQ one)(b:hQ other)(k:∀g,Q (aK (oT one other)) (au++g)):WP (Cw [aK one,aK other] au) Q:=by
 refine gM rfl ?_;simp only[W,V];refine WP.of (wd a) ⟨true,rfl,?_⟩;rw[if_neg (by decide)];refine WP.of (wd b) ⟨true,rfl,?_⟩;rw[if_neg (by decide)];refine KQ (by have:=a.len;have:=b.len;lia) λg=>?_
 refine UP (BP a b).2 λc=>?_
 rw[eE];exact k _
theorem Q1(o:hQ one)(d:hQ other)(k:∀g,Q (AO (li one other)) (au++g)):WP (uH [aK one,aK other] au) Q:=by
 refine gM rfl ?_;refine hV (R:=λn s=>∃g,n=.nx [some (aK one),some (aK other),some (aK (oT one other)),none]/\s=au++g) ?_ ?_
 ·simp only[W,V];exact Jz o d λg=>⟨g,rfl,rfl⟩
 rintro n s ⟨g,rfl,rfl⟩;show WP _ _;have ld:=λm=>Q3 (S0:=[o8 m]) o d (qH m)
 have b:qd 8 (oT one other):=oM (by lia) (BP o d).1;have t8:aO (ak (oT one other) [o8 8])=[]->oT one other=[]:=λe=>by
  have f:=(BP o d).1;refine yV f ?_;rw[←Ti ⟨f.pos,λr h=>by have:=f.sum r h;lia⟩ (qH 8)];exact e
 have w:=λe=>LB o d e
 generalize oT one other=l at ld b t8 w;by_cases c:l=[]
 ·subst c;rw[w rfl] at k;simp only[W,V];exact⟨_,rfl,k g⟩
 have q:(!l.isEmpty)=true:=by cases l with
  |nil=>exact absurd rfl c
  |cons a t=>rfl
 refine hV (R:=λn s=>n=.nx [some (aK one),some (aK other),some (aK l),none]/\s=au++g) ?_ ?_
 ·simp only[W,V];refine⟨_,BL _ _,?_⟩;rw[q];exact⟨trivial,trivial⟩
 rintro n s ⟨rfl,rfl⟩;show WP _ _;simp only[W,V];refine EU (λj y s=>∃(m:Nat) (g:aa),j=8-m/\m<9/\y=[some (aK one),some (aK other),some (aK l),some (.int (m:Int))]/\s=au++g/\∀i,i<m->aO (ak l [o8 i])=[]) (k:=8) ⟨0,g,rfl,by lia,rfl,rfl,λi p=>by lia⟩ (by lia) ?_;rintro j y s ⟨m,g,rfl,u,rfl,rfl,v⟩;simp only[W,V];refine WP.of (Eg u) ?_;refine Lm (WV u) (by lia) (.inl rfl) b.nd (by have:=b.len;lia) (λr h=>by have:=b.short r h;lia) ⟨b.pos,λr h=>by have:=b.sum r h;lia⟩ ?_ λC=>?_
 ·exact .cons (λx A=>by cases A) .nil
 refine⟨_,BL _ _,?_⟩;by_cases e:aO (ak l [o8 m])=[]
 ·rw[e];have:m≠8:=λz=>c (t8 (by rw[←z];exact e))
  unfold Ss;rw[if_pos (show(!([]:List Row).isEmpty)=false from rfl)];simp only[W,V,M,Dd.N,L];refine⟨_,rfl,8-(m+1),by lia,m+1,g++C,rfl,by lia,rfl,by simp,λi p=>?_⟩;by_cases z:i=m
  ·rw[z];exact e
  ·exact v i (by lia)
 ·have q:(!(aO (ak l [o8 m])).isEmpty)=true:=by
   cases z:aO (ak l [o8 m]) with
   |nil=>exact absurd z e
   |cons a t=>rfl
  rw[q,if_neg (by decide)];rw[QP u (λz=>e ((ld m).mpr z)) λi p=>(ld i).mp (v i p)] at k;rw[eE];exact k _
theorem M5(l:cT au n)(o:0<=m)(t:m<=8)(k:∀b a s,hQ b->hQ a->bV au s n->Q (.tup [aK b,aK a]) s):WP (B3 [.ref n,.int m] au) Q:=by
 refine gM rfl ?_;refine hV (R:=λe s=>∃c:Int,e=.nx [some (.ref n),some (.int m),some (.int c),none,none,none]/\(c=3\/c=6)/\bV au s n) ?_ ?_
 ·simp only[W,V];refine⟨small _ (by simp),sY l (by lia) (by lia) λj s q w d=>mG q w λz u=>⟨z,rfl,u,d⟩⟩
 rintro e s ⟨c,rfl,r,h⟩;show WP _ _;refine hV (R:=λe i=>∃f:Int,e=.nx [some (.ref n),some (.int f),some (.int c),none,none,none]/\(0<=f/\f<=8)/\i=s) ?_ ?_
 ·simp only[W,V];split
  ·exact⟨_,rfl,by split<;>lia,trivial⟩
  ·exact⟨_,rfl,⟨o,t⟩,trivial⟩
 rintro e i ⟨f,rfl,g,rfl⟩;exact M6 rfl h.bag g.1 g.2 r λb a s v p d=>k b a s (v.hld g.2) (p.hld g.2) (h.trans d)
theorem LC(p:hQ one)(i:hQ other)(k:∀g,Q (AO (li one other)) (au++g)):WP (Cf [aK one,aK other] au) Q:=by
 refine gM rfl ?_;simp only[W,V];refine⟨_,rfl,iz (by lia) (by lia),?_⟩;refine gX (λm o s=>(∃q,o=[some (aK one),some (aK other),q])/\(∃g,s=au++g)/\∀j,j<m->aO (ak one [o8 j])=aO (ak other [o8 j])) ⟨⟨_,rfl⟩,⟨[],by simp⟩,λj u=>absurd u (OO _)⟩ ?_ ?_
 ·rintro m y o s w ⟨⟨q,rfl⟩,⟨g,rfl⟩,f⟩;obtain⟨a,rfl⟩:=uQ w;have a:m<9:=by simpa using a
  refine⟨_,rfl,?_⟩;unfold TF;rw[l8];have v:∀{ks:List Row},hQ ks->fc 8 0 ks:=λh=>⟨h.few.pos,λr b=>by have:=h.few.sum r b;lia⟩
  have t:[o8 m].Nodup:=by simp
  simp only[W,V];refine WP.of (Eg a) ?_;refine Ts (T7 a) (by have:=p.len;lia) (λr b=>by have:=(p.row r b).len;lia) (v p) t λl=>?_
  refine WP.of (Eg a) ?_;refine Ts (T7 a) (by have:=i.len;lia) (λr b=>by have:=(i.row r b).len;lia) (v i) t λn=>?_
  have e:∀sx:aa,DL (aK (aO (ak one [o8 m]))) (aK (aO (ak other [o8 m]))) sx=.ok (.bl (!decide (aO (ak one [o8 m])=aO (ak other [o8 m])))) sx:=λsx=>JX (au:=sx) (neg:=true) _ _
  by_cases c:aO (ak one [o8 m])=aO (ak other [o8 m])
  ·have d:=e (au++g++l++n);rw[cC c] at d;refine WP.of d ⟨⟨_,rfl⟩,⟨g++(l++n),by simp⟩,λj u=>?_⟩;by_cases z:j=m
   ·rw[z];exact c
   ·exact f j (by lia)
  ·have d:=e (au++g++l++n);rw[cI c] at d;refine WP.of d (show Q (.int (m:Int)) _ from ?_);rw[QP a c f] at k;rw[eE,eE];exact k _
 ·rintro o s ⟨⟨q,rfl⟩,⟨g,rfl⟩,f⟩;simp only[W,V];have:li one other=none:=by
   unfold li;rw[yM];intro m a;have:=f m (by rw[kP];exact bB.mp a);simp[this]
  rw[this] at k;exact k g
theorem LA(a other:List Row):li other a=li a other:=by
 unfold li
 congr 1
 funext m
 by_cases c:aO (ak a [o8 m])=aO (ak other [o8 m])
 ·rw[cC c,cC c.symm]
 ·rw[cI c,cI (fO c)]
theorem NJ(f:List Int)(S:f.length<=63):∃st',qB [.scr (f.map .int)] []=.ok (.bl true) st':=by
 have A:WP (qB [.scr (f.map .int)] []) (λv _=>v=.bl true):=by
  refine gM rfl ?_;simp only[W,V];have I:((f.map D.int).length:Int)<=63:=by rw[bh];lia
  have E:(0:Int)<=((f.map D.int).length:Int):=by lia
  generalize ((f.map D.int).length:Int)=len at I E;refine⟨_,rfl,iz (by split<;>split<;>lia) (by split<;>split<;>lia),?_⟩;refine gX (λi l s=>∃H G w t r p h:Option D,l=[some (.scr (f.map .int)),H,G,w,t,r,p,h]) ⟨_,_,_,_,_,_,_,rfl⟩ ?_ ?_
  ·rintro i x l C Q ⟨H,G,w,t,r,p,h,rfl⟩;obtain⟨J,rfl⟩:=uQ Q;have X:i<=100:=by split at J<;>(try split at J)<;>lia
   refine⟨_,rfl,?_⟩;unfold yh;refine hV (R:=λk s=>k=.nx [some (.scr (f.map .int)),some (.int i),some (.ref C.length),w,t,r,p,h]/\cT s C.length) ?_ ?_
   ·simp only[W,V];rw[l8];exact GB S (by lia) λg o=>⟨rfl,o⟩
   rintro k s ⟨rfl,o⟩;show WP _ _;generalize C.length=n at o ⊢;refine hV (R:=λk s=>∃m:Int,(0<=m/\m<=8)/\k=.nx [some (.scr (f.map .int)),some (.int i),some (.ref n),some (.int m),t,r,p,h]/\cT s n) ?_ ?_
   ·simp only[W,V];exact⟨small _ (by simp),sY o (by lia) (by lia) λj s Y U d=>mG Y U λz hz=>⟨z,by lia,rfl,d.bag⟩⟩
   rintro k s ⟨m,P,rfl,o⟩;show WP _ _;refine hV (R:=λk s=>∃c b:List Row,(hQ c/\hQ b)/\k=.nx [some (.scr (f.map .int)),some (.int i),some (.ref n),some (.int m),some (aK c),some (aK b),p,h]) ?_ ?_
   ·simp only[W,V];refine M5 o P.1 P.2 λc b s u q d=>?_
    exact⟨c,b,⟨u,q⟩,rfl⟩
   rintro k s ⟨c,b,⟨u,q⟩,rfl⟩;show WP _ _;refine hV (R:=λk s=>k=.nx [some (.scr (f.map .int)),some (.int i),some (.ref n),some (.int m),some (aK c),some (aK b),some (AO (li c b)),h]) ?_ ?_
   ·simp only[W,V];exact LC u q λg=>rfl
   rintro k s rfl;show WP _ _;simp only[W,V];refine Q1 u q λg1=>?_
   refine Q1 q u λg2=>?_
   rw[LA c b];generalize li c b=du;refine⟨small _ (by simp),_,rfl,?_⟩;refine gX (λ_ l _=>∃h,l=[some (.scr (f.map .int)),some (.int i),some (.ref n),some (.int m),some (aK c),some (aK b),some (AO du),h]) ⟨_,rfl⟩ ?_ ?_
   ·rintro j y l s hy ⟨h,rfl⟩;have:y=AO du:=by
     have:=dY hy
     simpa using this
    subst this;refine⟨_,rfl,?_⟩;unfold yg;cases du with
    |none=>exact⟨_,rfl⟩
    |some m=>
     show WP (eH _ _ _ [_,_,_,_,_,_,some (.int (m:Int)),some (.int (m:Int))] _) _;simp only[W,V];rw[if_neg (by simp)];refine WP.of (show oS true (D.int (m:Int)) D.non s=.ok (.bl true) s from rfl) ?_;simp only[W,V,gt];rw[Fj];exact⟨true,rfl,_,rfl⟩
   ·rintro l s ⟨h,rfl⟩;exact⟨_,_,_,_,_,_,_,rfl⟩
  ·rintro l s ⟨H,G,w,t,r,p,h,rfl⟩;simp only[W,V]
 obtain⟨a,st',e,rfl⟩:=A.get;exact⟨st',e⟩
end Dd
namespace K34
theorem holds:∀a:List Int,a.length<=63->∃st',Dd.qB [.scr (a.map .int)] []=.ok (.bl true) st':=λa b=>Dd.NJ a b
end K34
namespace K34
open L2 Dd
noncomputable def top(i:Nat):Stmt:=PySem.Challenge.pw_raisedsums_k34_least_letters.main.body.getD i (.Pass ⟨0,0,0,0⟩)
theorem U7{Y:En}(T:ai Y.K "_law_bag" (top 45))(d:Y.mg "len"=none)(a:Y.mg "abs"=none)(h:Y.mg "min"=none)(i:Y.mg "range"=none):Cl Y "_law_bag" 1 ["_law_script","_law_at"] vg:=dG ["_law_script","_law_at","_law_cell","_law_mix","_law_k"] T λb f g A c s H E e=>(zb (cD b zf)
 (zb (gi (fN (qh e.units0) qg sv (zg zu ls rfl d lu (bm sv)) (az _)) (zd (cD b (zg K5 Gy rfl a GF (bm (gf sv sv (λ_ _=>rfl)))))) gs)
 (zb (cD b (ez (eK lw (cR λ_ _ _ _=>.int _) zf sv) zf))
 (zb (fQ (lC rfl i (bm (zg (tz rfl) js rfl h sL (bG (zg zu ls rfl d lu (bm sv)) zf)))) (eQ b)
 (zd (cD b (eK qi (cR λ_ _ _ _=>.int _) (ez (ez (eK lw (cR λ_ _ _ _=>.int _) sv zf) (eK qi (cR λ_ _ _ _=>.int _) (gf sv sv (λ_ _=>rfl)) zf)) sv) zf))))
 (zb (gi (fN (qh e.units0) qg sv (eK HL (cR λ_ _ _ _=>.int _) zf zf) (az _)) (zd (cD b zf)) gs)
 (zd (zk (mS (bG sv sv)))))))))
theorem U9{Y:En}(T:ai Y.K "_law_odd" (top 47))(g:Y.mg "sorted"=none)(e:Y.mg "tuple"=none):Cl Y "_law_odd" 1 ["_law_things"] zw:=dG ["_law_things","_law_odd_here","_law_thing"] T λc f d A b s H E a=>(zb (cD c uK)
 (zb (fQ (fo sv) (eQ c)
 (zd (EA (iY a) sv sv (qP (Ld (iY a) sv sv kJ ⟨rfl,rfl,rfl,rfl⟩)) rfl)))
 (zd (zk (mW qK qr rfl e pk (bm (zg (qI rfl a.units) qx rfl g pq (bm (mR rfl (Lj sv) (λ_ _ _ _ _=>(iX (i:=0) (show(["_law_thing","_law_odd_here"]:List Str).Nodup from by decide +kernel) rfl (Or.inl rfl))) (λ_ _ _ _ _=>(nC (jj (IU (iY a) sv sv (λ_ _=>rfl))))) (λ_ _ _ _ _=>sv) (N:=["_law_thing","_law_odd_here"]) (k:=1) (is:=[1]) (kD (by rfl)))))))))))
theorem Vy{Y:En}(T:ai Y.K "_law_take" (top 46)): Cl Y "_law_take" 1 ["_law_bag_here","_law_many"] zl:=dG ["_law_bag_here","_law_many","_law_digit","_law_number","_law_room"] T λa f c A b s H E d=>(zb (gi (fN jv (iW λ_ _ _ _=>.bl _) (gf sv zf (λ_ _=>rfl)) zf (az _)) (zb (cD a (eK qi (cR λ_ _ _ _=>.int _) (gf sv zf (λ_ _=>rfl)) sv))
 (zb (RO (eK va (cR λ_ _ _ _=>.int _) (gf sv zf (λ_ _=>rfl)) sv) sv zf)
 (zd (zk sv)))) gs)
 (zb (cD a zf)
 (zb (cD a zf)
 (zb (B8 tZ (fN (qh d.units0) qg sv sv (az _)) (zb (RO (eK qi (cR λ_ _ _ _=>.int _) (ez (eK lw (cR λ_ _ _ _=>.int _) (gf sv zf (λ_ _=>rfl)) zf) zf) zf) sv zf)
 (zb (cD a (ez (eK lw (cR λ_ _ _ _=>.int _) sv zf) (eK qi (cR λ_ _ _ _=>.int _) (eK lw (cR λ_ _ _ _=>.int _) (eK va (cR λ_ _ _ _=>.int _) (gf sv zf (λ_ _=>rfl)) zf) zf) zf)))
 (zd (cD a (eK lw (cR λ_ _ _ _=>.int _) sv zf))))))
 (zd (zk (eK qi (cR λ_ _ _ _=>.int _) sv sv)))))))
theorem Va{Y:En}(T:ai Y.K "_law_row" (top 48))(i:Y.mg "range"=none)(e:Y.mg "min"=none)(h:Y.mg "tuple"=none)(b:Cl Y "_law_take" 1 ["_law_bag_here","_law_many"] zl):Cl Y "_law_row" 2 ["_law_bag_here","_law_most","_law_long"] nE:=dG ["_law_bag_here","_law_most","_law_long","_law_row_here","_law_left","_law_k"] T λa f g A c s H E d=>(zb (cD a (mS iP))
 (zb (cD a sv)
 (zb (fQ (lC rfl i (bm (bO b d (bG sv (ez sv zf))))) (eQ a)
 (zd (gi (fN jv (iW λ_ _ _ _=>.bl _) sv zf (az _)) (zb (iQ (tE sv (bm (ez zf (bO b d (bG sv (gf (nr (zq sv (bG (zg (tz rfl) js rfl e sL (bG sv zf)) (zg (tz rfl) js rfl e sL (bG sv zf))))) (bO b d (bG sv zf)) (λ_ _=>rfl))))))))
 (zd (cD a (iy sv (gf sv (uC zf) (λ_ _=>rfl)))))) gs)))
 (zd (zk (mW qK qr rfl h pk (bm sv)))))))
theorem Vx{Y:En}(T:ai Y.K "_law_rows" (top 49))(g:Y.mg "range"=none)(h:Cl Y "_law_odd" 1 ["_law_things"] zw)(c:Cl Y "_law_take" 1 ["_law_bag_here","_law_many"] zl)(e:Cl Y "_law_row" 2 ["_law_bag_here","_law_most","_law_long"] nE):Cl Y "_law_rows" 3 ["_law_bag_here","_law_many","_law_most","_law_long"] nG:=dG ["_law_bag_here","_law_many","_law_most","_law_long"] T λi f d A a s H E b=>(zd (zk (bO h b (bm (DJ ["_law_k","_law_bag_here","_law_most","_law_long"] (lC rfl g (bm (bO c b (bG sv (ez sv zf))))) (λ_ _ _ _ _=>(bO e b (zq sv (bG sv sv)))))))))
theorem Vz{Y:En}(T:ai Y.K "_law_ways" (top 50))(d:Y.mg "range"=none):Cl Y "_law_ways" 1 ["_law_m","_law_k"] tJ:=dG ["_law_m","_law_k","_law_found","_law_i"] T λa f c A b s H E e=>(zb (cD a zf)
 (zb (fQ (lC rfl d (bm sv)) (eQ a)
 (zd (cD a (eK va (cR λ_ _ _ _=>.int _) (eK lw (cR λ_ _ _ _=>.int _) sv (iy sv sv)) (ez sv zf)))))
 (zd (zk sv))))
theorem Vw{Y:En}(T:ai Y.K "_law_pair" (top 51))(g:Y.mg "range"=none)(d:Y.mg "tuple"=none)(h:Y.mg "sorted"=none)(j:Cl Y "_law_ways" 1 ["_law_m","_law_k"] tJ):Cl Y "_law_pair" 2 ["_law_a","_law_b"] vk:=dG ["_law_a","_law_b","_law_found","_law_c"] T λc f e A a s H E b=>(zb (cD c (mS iP))
 (zb (fQ (lC rfl g (bm (ez (eK va (cR λ_ _ _ _=>.int _) sv zf) zf))) (eQ c)
 (zd (gi (fN (nv b.units) lR (eK qi (cR λ_ _ _ _=>.int _) (bO j b (bG (iy (iy sv sv) zf) (iy sv (eK lw (cR λ_ _ _ _=>.int _) zf sv)))) zf) zf (az _)) (zd (iQ (tE sv (bm (mW qK qr rfl d pk (bm (mR rfl (fo (nr (bG (iy (ez sv sv) sv) sv))) (λ_ _ _ _ _=>(iX (i:=0) (show(["_law_part"]:List Str).Nodup from by decide +kernel) rfl (Or.inl rfl))) (λ_ _ _ _ _=>(nC (fN jv (iW λ_ _ _ _=>.bl _) sv zf (az _)))) (λ_ _ _ _ _=>sv) (N:=["_law_part"]) (k:=1) (is:=[]) (kD (by rfl))))))))) gs)))
 (zd (zk (mW qK qr rfl d pk (bm (zg (qI rfl b.units) qx rfl h pq (bm sv))))))))
theorem V9{Y:En}(T:ai Y.K "_law_exchanged" (top 53))(e:Y.mg "list"=none)(g:Cl Y "_law_pair" 2 ["_law_a","_law_b"] vk)(h:Cl Y "_law_odd" 1 ["_law_things"] zw):Cl Y "_law_exchanged" 3 ["_law_rows_here","_law_row_here","_law_place"] Cz:=dG ["_law_rows_here","_law_row_here","_law_place","_law_more"] T λc f d A a s H E b=>(zb (EB (i:=3) rfl c rfl (Or.inl rfl) (fo (bO g b (bG (gf sv sv (λ_ _=>rfl)) (gf sv (ez sv zf) (λ_ _=>rfl))))) (λ_ _ _ _ _=>(iX (i:=0) (show(["_law_two_here","_law_row_here","_law_place"]:List Str).Nodup from by decide +kernel) rfl (Or.inl rfl))) (λ_ _ _ _ _=>BS) (λ_ _ _ _ _=>(ez (ez (lV sv u4 (u6 sv)) sv) (lV sv (u6 (ez sv zf)) u4))) (N:=["_law_two_here","_law_row_here","_law_place"]) (k:=1) (is:=[1,2]) (kD (by rfl)))
  (zd (zk (bO h b (bm (ez (ez (mW Fu DY rfl e D0 (bm sv)) (nr (bm sv))) sv))))))
theorem VU{Y:En}(T:ai Y.K "_law_places" (top 52))(d:Y.mg "len"=none)(e:Y.mg "range"=none):Cl Y "_law_places" 1 ["_law_row_here"] pz:=dG ["_law_row_here"] T λg f b A a s H E c=>(zd (zk (mR rfl (lC rfl e (bm (iy (zg zu ls rfl d lu (bm sv)) zf))) (λ_ _ _ _ _=>(iX (i:=0) (show(["_law_k","_law_row_here"]:List Str).Nodup from by decide +kernel) rfl (Or.inl rfl))) (λ_ _ _ _ _=>(nC (fN (qh c.units0) qg (gf sv sv (λ_ _=>rfl)) (eK lw (cR λ_ _ _ _=>.int _) zf (gf sv (ez sv zf) (λ_ _=>rfl))) (az _)))) (λ_ _ _ _ _=>sv) (N:=["_law_k","_law_row_here"]) (k:=1) (is:=[0]) (kD (by rfl)))))
theorem Wd{Y:En}(T:ai Y.K "_law_same_by_exchanges" (top 54))(l:Y.mg "range"=none)(c:Y.mg "len"=none)(d:Cl Y "_law_take" 1 ["_law_bag_here","_law_many"] zl)(g:Cl Y "_law_places" 1 ["_law_row_here"] pz)(h:Cl Y "_law_exchanged" 3 ["_law_rows_here","_law_row_here","_law_place"] Cz):Cl Y "_law_same_by_exchanges" 4 ["_law_bag_here","_law_rows_here"] zr:=dG ["_law_bag_here","_law_rows_here","_law_k","_law_some","_law_row_here"] T λb f j A e s H E a=>(zb (fQ (lC rfl l (bm (bO d a (bG sv zf)))) (eQ b)
  (zb (EB (i:=3) rfl b rfl (Or.inl rfl) (fo sv) (λ_ _ _ _ _=>(iX (i:=0) (show(["_law_row_here"]:List Str).Nodup from by decide +kernel) rfl (Or.inl rfl))) (λ_ _ _ _ _=>(nC (fN jv (iW λ_ _ _ _=>.bl _) (zg zu ls rfl c lu (bm (bO g a (bm sv)))) zf (az _)))) (λ_ _ _ _ _=>sv) (N:=["_law_row_here"]) (k:=1) (is:=[]) (kD (by rfl)))
  (zd (gi (fN jv (iW λ_ _ _ _=>.bl _) (zg zu ls rfl c lu (bm sv)) zf (az _)) (zb (cD b (gf sv (bO d a (bG sv (zg zu ls rfl c lu (bm sv)))) (λ_ _=>rfl)))
  (zd (cD b (bO h a (zq sv (bG sv (gf (bO g a (bm sv)) (bO d a (bG sv (zg zu ls rfl c lu (bm (bO g a (bm sv)))))) (λ_ _=>rfl)))))))) gs))))
  (zd (zk sv)))
theorem Vb{Y:En}(T:ai Y.K "_law_two" (top 55))(i:Y.mg "min"=none)(l:Y.mg "list"=none)(j:Y.mg "len"=none)(d:Cl Y "_law_take" 1 ["_law_bag_here","_law_many"] zl)(e:Cl Y "_law_rows" 3 ["_law_bag_here","_law_many","_law_most","_law_long"] nG)(h:Cl Y "_law_same_by_exchanges" 4 ["_law_bag_here","_law_rows_here"] zr)(m:Cl Y "_law_odd" 1 ["_law_things"] zw)(k:Cl Y "_law_row" 2 ["_law_bag_here","_law_most","_law_long"] nE):Cl Y "_law_two" 5 ["_law_bag_here","_law_most"] B3:=dG ["_law_bag_here","_law_most","_law_many","_law_one","_law_pick","_law_other"] T λb f g A c s H E a=>(zb (cD b (gf (nr (zq zf (zq zf (bG zf zf)))) (bO d a (bG sv zf)) (λ_ _=>rfl)))
 (zb (gi (fN (nv a.units) lR sv zf (az _)) (zd (cD b (zg (tz rfl) js rfl i sL (bG sv zf)))) gs)
 (zb (cD b (bO e a (zq sv (zq sv (bG sv zf)))))
 (zb (cD b (bO d a (bG sv zf)))
 (zb (gi (fN (nv a.units) lR sv zf (az _)) (zd (zk (gV (bG sv (bO e a (zq sv (zq sv (bG sv zf)))))))) gs)
 (zb (cD b (bO h a (bG sv sv)))
 (zb (gi (fN (nv a.units) lR sv zf (az _)) (zd (cD b (bO m a (bm (ez (mW Fu DY rfl l D0 (bm sv)) (nr (bm (bO k a (zq sv (bG sv zf)))))))))) gs)
 (zb (gi (fN jv (iW λ_ _ _ _=>.bl _) (zg zu ls rfl j lu (bm sv)) zf (az _)) (zd (cD b sv)) gs)
 (zd (zk (gV (bG sv sv))))))))))))
theorem VV{Y:En}(T:ai Y.K "_law_raised" (top 56))(e:Y.mg "min"=none)(g:Y.mg "range"=none)(h:Cl Y "_law_odd" 1 ["_law_things"] zw):Cl Y "_law_raised" 2 ["_law_some","_law_k"] vz:=dG ["_law_some","_law_k","_law_found","_law_product","_law_ways_here","_law_e","_law_further","_law_built","_law_left"] T λa f d A b s H E c=>(zb (cD a (mS iP))
 (zb (fQ (fo sv) (eQ a)
 (zb (cD a (nr (bm (gV (bG (gV iP) sv)))))
 (zb (fQ (fo sv) (eQ a)
 (zb (cD a (mS iP))
 (zb (fQ (fo sv) (qo rfl (j4 (eQ a) (j4 (eQ a) qt)))
 (zd (iQ (EV sv (bm (mR rfl (lC rfl g (bm (ez (zg (tz rfl) js rfl e sL (bG sv sv)) zf))) (λ_ _ _ _ _=>(iX (i:=0) (show(["_law_j","_law_built","_law_left","_law_e"]:List Str).Nodup from by decide +kernel) rfl (Or.inl rfl))) (λ_ _ _ _ _=>(nC (fN (nv c.units) lR (eK qW (iW λ_ _ _ _=>.int _) sv sv) sv (az _)))) (λ_ _ _ _ _=>(gV (bG (ez sv (gV (bm (ez sv sv)))) (iy sv sv)))) (N:=["_law_j","_law_built","_law_left","_law_e"]) (k:=1) (is:=[7,8,5]) (kD (by rfl))))))))
 (zd (cD a (kK sv))))))
 (zd (iQ (EV sv (bm (mR rfl (fo sv) (λ_ _ _ _ _=>(qo rfl (j4 (iX (i:=0) (show(["_law_built","_law_left"]:List Str).Nodup from by decide +kernel) rfl (Or.inl rfl)) (j4 (iX (i:=1) (show(["_law_built","_law_left"]:List Str).Nodup from by decide +kernel) rfl (Or.inl rfl)) qt)))) (λ_ _ _ _ _=>(nC (fN (nv c.units) lR sv zf (az _)))) (λ_ _ _ _ _=>sv) (N:=["_law_built","_law_left"]) (k:=2) (is:=[]) (kD (by rfl))))))))))
 (zd (zk (bO h c (bm (kK sv)))))))
theorem Vu{Y:En}(T:ai Y.K "_law_done" (top 57))(g:Y.mg "list"=none)(d:Cl Y "_law_raised" 2 ["_law_some","_law_k"] vz)(h:Cl Y "_law_odd" 1 ["_law_things"] zw):Cl Y "_law_done" 3 ["_law_rows_here","_law_some"] vj:=dG ["_law_rows_here","_law_some","_law_found","_law_row_here","_law_built","_law_part"] T λa f e A b s H E c=>(zb (cD a (mS iP))
 (zb (fQ (fo sv) (eQ a)
 (zb (cD a sv)
 (zb (fQ (fo (IR sv (uC zf))) (eQ a)
 (zd (cD a (bO d c (bG sv sv)))))
 (zd (iQ (EV sv (bm (mW Fu DY rfl g D0 (bm sv)))))))))
 (zd (zk (bO h c (bm (kK sv)))))))
theorem Vv{Y:En}(T:ai Y.K "_law_ones" (top 58)): Cl Y "_law_ones" 1 ["_law_m"] pr:=dG ["_law_m"] T λc f b A a s H E d=>(zd (zk (gV (bm (ez (eK BH BF (gV (bm zf)) sv) (eK BH BF (gV (bm zf)) (iy zf sv)))))))
theorem U8{Y:En}(T:ai Y.K "_law_due" (top 60))(h:Y.mg "range"=none)(d:Cl Y "_law_done" 3 ["_law_rows_here","_law_some"] vj)(c:Cl Y "_law_ones" 1 ["_law_m"] pr):Cl Y "_law_due" 4 ["_law_one","_law_other"] Cf:=dG ["_law_one","_law_other","_law_m"] T λe f g A b s H E a=>(zb (fQ (lC rfl h (bm zf)) (eQ e)
 (zd (gi (fN (wF a.units) lR (bO d a (bG sv (bO c a (bm sv)))) (bO d a (bG sv (bO c a (bm sv)))) (az _)) (zd (zk sv)) gs)))
 (zd (zk qO)))
theorem VA{Y:En}(T:ai Y.K "rows_kept" (top 31)): Cl Y "rows_kept" 1 ["rows"] Cp:=dG ["rows","kept","row"] T λb f c A a s H E d=>(zb (cD b uK)
 (zb (fQ (fo sv) (eQ b)
 (zd (EA (iY d) sv sv kJ rfl)))
 (zd (zk sv))))
theorem J1{Y:En}(T:ai Y.K "flip" (top 8)): Cl Y "flip" 1 ["kept","thing"] jY:=dG ["kept","thing"] T λd f c A a s H E b=>(zd (gi (G5 (wI (iY b) sv sv)) (zd (iQ (IV (iY b) sv sv ⟨rfl,rfl,rfl,rfl⟩))) (zd (EA (iY b) sv sv kJ rfl))))
theorem Vf{Y:En}(T:ai Y.K "odd_ways" (top 11)): Cl Y "odd_ways" 1 ["e","k"] Cg:=dG ["e","k"] T λd f b A a s H E c=>(zd (zk (nX (nv c.units) lR (eK qW (iW λ_ _ _ _=>.int _) sv sv) sv (az _))))
theorem V2{Y:En}(T:ai Y.K "rows_for_two" (top 26))(g:Y.mg "range"=none)(h:Y.mg "sorted"=none)(e:Cl Y "odd_ways" 1 ["e","k"] Cg):Cl Y "rows_for_two" 2 ["a","b"] vC:=dG ["a","b","told","c"] T λb f d A a s H E c=>(zb (cD b (mS iP))
 (zb (fQ (lC rfl g (bm (ez (eK va (cR λ_ _ _ _=>.int _) sv zf) zf))) (eQ b)
 (zd (gi (jj (bO e c (bG (iy (iy sv sv) zf) (iy sv (eK lw (cR λ_ _ _ _=>.int _) zf sv))))) (zd (iQ (tE sv (bm (vH (fN jv (iW λ_ _ _ _=>.bl _) sv zf (az _)) (gV (bG (iy (ez sv sv) sv) sv)) (gV (bm (ez sv sv)))))))) gs)))
 (zd (zk (zg (qI rfl c.units) qx rfl h pq (bm sv))))))
theorem V1{Y:En}(T:ai Y.K "rows_for_row" (top 27))(e:Cl Y "rows_for_two" 2 ["a","b"] vC):Cl Y "rows_for_row" 3 ["row","place"] ra:=dG ["row","place","ahead","rest"] T λb f c A a s H E d=>(zb (cD b (lV sv u4 (u6 sv)))
 (zb (cD b (lV sv (u6 (ez sv zf)) u4))
 (zd (zk (DJ ["two","rest","ahead"] (fo (bO e d (bG (gf sv sv (λ_ _=>rfl)) (gf sv (ez sv zf) (λ_ _=>rfl))))) (λ_ _ _ _ _=>(ez (ez sv sv) sv)))))))
theorem Vd{Y:En}(T:ai Y.K "is_whole" (top 7))(d:Y.mg "bool"=none)(b:Y.mg "isinstance"=none)(e:Y.mg "int"=none):Cl Y "is_whole" 1 ["thing"] j5:=dG ["thing"] T λg f c A a s H E h=>(zd (zk (uB (zg vt vh rfl b vB (bG sv (pd (uO (v:=.ty "int") rfl e wb rfl) (λ_ _=>.ty _)))) (nY (qP (zg vt vh rfl b vB (bG sv (pd (uO (v:=.ty "bool") rfl d xc rfl) (λ_ _=>.ty _)))))))))
theorem VB{Y:En}(T:ai Y.K "stands_in" (top 28))(d:Y.mg "all"=none)(e:Y.mg "tuple"=none)(g:Y.mg "isinstance"=none)(h:Cl Y "is_whole" 1 ["thing"] j5):Cl Y "stands_in" 2 ["kept","row"] vr:=dG ["kept","row"] T λi f c A a s H E b=>(zd (zk (uB (zg vt vh rfl g vB (bG sv (pd (uO (v:=.ty "tuple") rfl e pk rfl) (λ_ _=>.ty _)))) (uB (zg (QI rfl) vY rfl d wa (bm (DJ ["part"] (fo sv) (λ_ _ _ _ _=>(bO h b (bm sv)))))) (nY (FN (wI (iY b) sv sv)))))))
theorem VZ{Y:En}(T:ai Y.K "falls_slowly" (top 25)): Cl Y "falls_slowly" 1 ["a","b"] Cv:=dG ["a","b"] T λd f b A a s H E c=>(zd (zk (nX (qh c.units0) qg sv (eK lw (cR λ_ _ _ _=>.int _) zf sv) (az _))))
theorem Vc{Y:En}(T:ai Y.K "is_place" (top 29))(e:Y.mg "len"=none)(g:Cl Y "is_whole" 1 ["thing"] j5)(d:Cl Y "falls_slowly" 1 ["a","b"] Cv):Cl Y "is_place" 2 ["row","place"] nF:=dG ["row","place"] T λh f c A a s H E b=>(zb (gi (JW.pt (nZ (mT (jj (bO g b (bm sv)))) (sR (mT (NA lY (qh b.units0) (iW λ_ _ _ _=>.bl _) qg zf sv (iy (zg zu ls rfl e lu (bm sv)) zf))) (by first|exact Or.inl rfl|exact Or.inr rfl)))) (zd (zk kJ)) gs)
 (zd (zk (bO d b (bG (gf sv sv (λ_ _=>rfl)) (gf sv (ez sv zf) (λ_ _=>rfl)))))))
theorem VX{Y:En}(T:ai Y.K "exchange_in" (top 30))(i:Cl Y "stands_in" 2 ["kept","row"] vr)(h:Cl Y "is_place" 2 ["row","place"] nF)(c:Cl Y "flip" 1 ["kept","thing"] jY)(g:Cl Y "rows_for_row" 3 ["row","place"] ra):Cl Y "exchange_in" 4 ["kept","row","place"] Cu:=dG ["kept","row","place","made"] T λd f e A b s H E a=>(zb (gi (mT (jj (bO i a (bG sv sv)))) (zd B7) gs)
 (zb (gi (mT (jj (bO h a (bG sv sv)))) (zd B7) gs)
 (zb (iQ (bO c a (bG sv sv)))
 (zd (fQ (fo (bO g a (bG sv sv))) (eQ d)
 (zd (iQ (bO c a (bG sv sv)))))))))
theorem N8{Y:En}(T:ai Y.K "walked" (top 37))(i:Y.mg "sorted"=none)(h:Y.mg "tuple"=none)(d:Cl Y "rows_kept" 1 ["rows"] Cp)(g:Cl Y "exchange_in" 4 ["kept","row","place"] Cu):Cl Y "walked" 5 ["rows","steps"] B5:=dG ["rows","steps","kept","row","place"] T λa f e A b s H E c=>(zb (cD a (bO d c (bm sv)))
 (zb (fQ (fo sv) (qo rfl (j4 (eQ a) (j4 (eQ a) qt)))
 (zd (iQ (bO g c (zq sv (bG sv sv))))))
 (zd (zk (mW qK qr rfl h pk (bm (zg (qI rfl c.units) qx rfl i pq (bm sv))))))))
theorem N4{Y:En}(T:ai Y.K "moment" (top 34))(d:Y.mg "enumerate"=none)(b:Y.mg "sum"=none):Cl Y "moment" 1 ["row"] sZ:=dG ["row"] T λe f c A a s H E g=>(zd (zk (zg (B6 rfl) nU rfl b nV (bm (mR rfl (Nv rfl d sv) (λ_ _ _ _ _=>(qo rfl (j4 (iX (i:=0) (show(["number","part"]:List Str).Nodup from by decide +kernel) rfl (Or.inl rfl)) (j4 (iX (i:=1) (show(["number","part"]:List Str).Nodup from by decide +kernel) rfl (Or.inl rfl)) qt)))) (λ_ _ _ _ _=>BS) (λ_ _ _ _ _=>(eK lw (cR λ_ _ _ _=>.int _) sv sv)) (N:=["number","part"]) (k:=2) (is:=[]) (kD (by rfl)))))))
theorem VL{Y:En}(T:ai Y.K "flip_level" (top 35))(e:Cl Y "flip" 1 ["kept","thing"] jY)(d:Cl Y "moment" 1 ["row"] sZ):Cl Y "flip_level" 2 ["levels","row"] vy:=dG ["levels","row"] T λg f c A a s H E b=>(zd (iQ (bO e b (bG (Lg sv (bG (bO d b (bm sv)) uK)) sv))))
theorem N5{Y:En}(T:ai Y.K "places" (top 33))(d:Y.mg "len"=none)(g:Y.mg "range"=none)(e:Cl Y "is_place" 2 ["row","place"] nF):Cl Y "places" 3 ["row"] BM:=dG ["row"] T λh f b A a s H E c=>(zd (zk (mR rfl (lC rfl g (bm (iy (zg zu ls rfl d lu (bm sv)) zf))) (λ_ _ _ _ _=>(iX (i:=0) (show(["place","row"]:List Str).Nodup from by decide +kernel) rfl (Or.inl rfl))) (λ_ _ _ _ _=>(nC (jj (bO e c (bG sv sv))))) (λ_ _ _ _ _=>sv) (N:=["place","row"]) (k:=1) (is:=[0]) (kD (by rfl)))))
theorem HG{Y:En}(T:ai Y.K "way" (top 36))(e:Y.mg "max"=none)(i:Y.mg "sorted"=none)(d:Cl Y "flip_level" 2 ["levels","row"] vy)(j:Cl Y "places" 3 ["row"] BM)(h:Cl Y "rows_for_row" 3 ["row","place"] ra):Cl Y "way" 4 ["rows"] nI:=dG ["rows","levels","row","steps","level","slow","made"] T λa f g A c s H E b=>(zb (cD a Le)
 (zb (fQ (fo sv) (eQ a)
 (zd (iQ (bO d b (bG sv sv)))))
 (zb (cD a (mS iP))
 (zb (B8 tZ (Lz sv) (zb (cD a (IW sv (bm (zg (Ut rfl) II rfl e wc (bm sv)))))
 (zd (fQ (fo (zg (qI rfl b.units) qx rfl i pq (bm sv))) (eQ a)
 (zb (cD a (bO j b (bm sv)))
 (zd (gi (jj sv) (zb (iQ (tE sv (bm (gV (bG sv (gf sv zf (λ_ _=>rfl)))))))
 (zd (fQ (fo (bO h b (bG sv (gf sv zf (λ_ _=>rfl))))) (eQ a)
 (zd (iQ (bO d b (bG sv sv))))))) gs)))))))
 (zd (zk (kK sv)))))))
theorem UE{Y:En}(T:ai Y.K "settled" (top 38))(e:Cl Y "walked" 5 ["rows","steps"] B5)(a:Cl Y "way" 4 ["rows"] nI):Cl Y "settled" 6 ["rows"] B4:=dG ["rows"] T λg f d A b s H E c=>(zd (zk (bO e c (bG sv (bO a c (bm sv))))))
theorem Ve{Y:En}(T:ai Y.K "odd_ones" (top 9))(g:Y.mg "sorted"=none)(e:Y.mg "tuple"=none)(h:Cl Y "flip" 1 ["kept","thing"] jY):Cl Y "odd_ones" 2 ["things"] tK:=dG ["things","kept","thing"] T λb f d A a s H E c=>(zb (cD b uK)
 (zb (fQ (fo sv) (eQ b)
 (zd (iQ (bO h c (bG sv sv)))))
 (zd (zk (mW qK qr rfl e pk (bm (zg (qI rfl c.units) qx rfl g pq (bm sv))))))))
theorem VM{Y:En}(T:ai Y.K "rows_added" (top 22))(d:Cl Y "odd_ones" 2 ["things"] tK):Cl Y "rows_added" 3 ["one","other"] ny:=dG ["one","other"] T λe f b A a s H E c=>(zd (zk (bO d c (bm (ez sv sv)))))
theorem VW{Y:En}(T:ai Y.K "can_be_held" (top 21))(d:Y.mg "sum"=none)(h:Y.mg "all"=none)(g:Y.mg "len"=none) (a:Y.mg "MOST_RAISED_HELD"=some (.int 8 k_MOST_RAISED_HELD)) (b:Y.mg "MOST_ROWS_HELD"=some (.int 6 k_MOST_ROWS_HELD)):Cl Y "can_be_held" 1 ["rows"] tS:=dG ["rows"] T λi f e A c s H E j=>(zd (zk (uB (nX lY (iW λ_ _ _ _=>.bl _) (zg zu ls rfl g lu (bm sv)) (pd (Ei (v:=.int 6) rfl b ⟨_,rfl⟩) (λ_ _=>.int _)) (az _)) (nY (zg (QI rfl) vY rfl h wa (bm (DJ ["row"] (fo sv) (λ_ _ _ _ _=>(nX lY (iW λ_ _ _ _=>.bl _) (zg (B6 rfl) nU rfl d nV (bm sv)) (pd (Ei (v:=.int 8) rfl a ⟨_,rfl⟩) (λ_ _=>.int _)) (az _))))))))))
theorem V0{Y:En}(T:ai Y.K "left_of_both" (top 42))(c:Cl Y "can_be_held" 1 ["rows"] tS)(g:Cl Y "settled" 6 ["rows"] B4)(e:Cl Y "rows_added" 3 ["one","other"] ny):Cl Y "left_of_both" 7 ["one","other"] Cw:=dG ["one","other"] T λh f d A b s H E a=>(zb (gi (JW.pt (nZ (mT (jj (bO c a (bm sv)))) (sR (mT (jj (bO c a (bm sv)))) (by first|exact Or.inl rfl|exact Or.inr rfl)))) (zd B7) gs)
 (zd (zk (bO g a (bm (bO e a (bG sv sv)))))))
theorem N7{Y:En}(T:ai Y.K "shares" (top 12)): Cl Y "shares" 1 ["e","least","most"] BN:=dG ["e","least","most","told","j"] T λb f c A a s H E d=>(zb (cD b (mS iP))
 (zb (cD b zf)
 (zb (B8 tZ (fN lY (iW λ_ _ _ _=>.bl _) sv sv (az _)) (zb (gi (fN Gd (iW λ_ _ _ _=>.bl _) sv sv (az _)) (zd (iQ (tE sv (bm sv)))) gs)
 (zb (gi (fN (nv d.units) lR sv sv (az _)) (zd Nz) gs)
 (zd (cD b (eK qW (iW λ_ _ _ _=>.int _) (iy sv sv) sv))))))
 (zd (zk (kK sv))))))
theorem V6{Y:En}(T:ai Y.K "letter_raised" (top 13))(e:Cl Y "shares" 1 ["e","least","most"] BN):Cl Y "letter_raised" 2 ["partly","e","rest"] CA:=dG ["partly","e","rest","told","made","left","j"] T λa f c A b s H E d=>(zb (cD a (mS iP))
 (zb (fQ (fo sv) (qo rfl (j4 (eQ a) (j4 (eQ a) qt)))
 (zd (fQ (fo (bO e d (zq sv (bG (iy sv sv) sv)))) (eQ a)
 (zd (iQ (tE sv (bm (gV (bG (ez sv (gV (bm (ez sv sv)))) (iy sv sv))))))))))
 (zd (zk (kK sv)))))
theorem Wa{Y:En}(T:ai Y.K "product_raised" (top 14))(c:Y.mg "sum"=none)(g:Cl Y "letter_raised" 2 ["partly","e","rest"] CA):Cl Y "product_raised" 3 ["product","k"] CB:=dG ["product","k","partly","rest","e"] T λa f d A b s H E e=>(zb (cD a (nr (bm (gV (bG (gV iP) sv)))))
 (zb (cD a (zg (B6 rfl) nU rfl c nV (bm sv)))
 (zb (fQ (fo sv) (eQ a)
 (zb (xk (i:=3) a rfl (Or.inl rfl) sv Hh AI)
 (zd (cD a (bO g e (zq sv (bG sv sv)))))))
 (zd (zk (mR rfl (fo sv) (λ_ _ _ _ _=>(qo rfl (j4 (iX (i:=0) (show(["made","left"]:List Str).Nodup from by decide +kernel) rfl (Or.inl rfl)) (j4 (iX (i:=1) (show(["made","left"]:List Str).Nodup from by decide +kernel) rfl (Or.inl rfl)) qt)))) (λ_ _ _ _ _=>BS) (λ_ _ _ _ _=>sv) (N:=["made","left"]) (k:=2) (is:=[]) (kD (by rfl))))))))
theorem N6{Y:En}(T:ai Y.K "raised" (top 15))(d:Y.mg "sum"=none)(h:Y.mg "sorted"=none)(g:Y.mg "tuple"=none)(i:Cl Y "is_whole" 1 ["thing"] j5)(k:Cl Y "product_raised" 3 ["product","k"] CB)(j:Cl Y "flip" 1 ["kept","thing"] jY):Cl Y "raised" 4 ["some","k"] tf:=dG ["some","k","kept","product","made"] T λb f e A c s H E a=>(zb (gi (JW.pt (nZ (mT (jj (bO i a (bm sv)))) (sR (fN (qh a.units0) qg sv zf (az _)) (by first|exact Or.inl rfl|exact Or.inr rfl)))) (zd B7) gs)
 (zb (cD b uK)
 (zb (fQ (fo sv) (eQ b)
 (zd (gi (fN lY (iW λ_ _ _ _=>.bl _) sv (zg (B6 rfl) nU rfl d nV (bm sv)) (az _)) (zd (fQ (fo (bO k a (bG sv sv))) (eQ b)
 (zd (iQ (bO j a (bG sv sv)))))) gs)))
 (zd (zk (mW qK qr rfl g pk (bm (zg (qI rfl a.units) qx rfl h pq (bm sv)))))))))
theorem Ml{Y:En}(T:ai Y.K "added" (top 17))(d:Cl Y "odd_ones" 2 ["things"] tK):Cl Y "added" 3 ["one","other"] ny:=dG ["one","other"] T λe f b A a s H E c=>(zd (zk (bO d c (bm (ez sv sv)))))
theorem El:cb ["rows","some","told","last","made","ahead"] ["rows","some"] (ag (top 23)):=⟨rfl,rfl,rfl,by decide +kernel,rfl,by decide +kernel,by decide +kernel⟩
theorem N3{Y:En}(w:5<=j)(a:∀ l t v g,fF l t=.ok v g->l.length=2)(T:ai Y.K "done" (top 23))(u:Y.mg "sorted"=none)(b:Y.mg "set"=none)(m:Cl Y "raised" 4 ["some","k"] tf)(p:Cl Y "added" 3 ["one","other"] ny)(q:Cl Y "done" j ["rows","some"] fF):Cl Y "done" (j + 1) ["rows","some"] (qf fF):=
  have c:=El.nd
  QH (k:=j) T Y.X Y.G El (λ_ _ _ _ _ _ n r=>oV n r λ_ _=>rfl) λf o A e s H E d=>(zb (Bz (i:=2) c rfl (Or.inl rfl) (vH (fN (HJ d.units) Ga (gV iP) (iM (pv 0)) rfl) (iM (pv 1)) (gV iP)))
  (zb (xm tZ rfl (fo (FV rfl Ui rfl u pq rfl b GG (zq (mR rfl (fo (iM (pv 0))) (λ_ _ _ _ _=>(iX (i:=0) (show(["row"]:List Str).Nodup from by decide +kernel) rfl (Or.inl rfl))) (λ_ _ _ _ _=>(nC (jj (iM (pv 0))))) (λ_ _ _ _ _=>(gf (iM (pv 0)) (uC zf) (λ_ _=>rfl))) (N:=["row"]) (k:=1) (is:=[]) (kD (by rfl))) iP))) (iX (i:=3) c rfl (Or.inr rfl))
  (zb (Bz (i:=4) c rfl (Or.inl rfl) (By m (λ_ _ _ _ h=>BB h) (d.mono (by lia)) rfl (zq (iM (pv 1)) (zq (iM (pv 3)) iP))))
  (zd (gi (jj (iM (pv 4))) (zb (EB (i:=5) rfl c rfl (Or.inl rfl) (fo (iM (pv 0))) (λ_ _ _ _ _=>(iX (i:=0) (show(["row","last"]:List Str).Nodup from by decide +kernel) rfl (Or.inl rfl))) (λ_ _ _ _ _=>(nC (JW.pt (xn (jj (iM (pv 0))) (sR (fN (nv d.units) lR (gf (iM (pv 0)) (uC zf) (λ_ _=>rfl)) (iM (pv 1)) (az _)) (by first|exact Or.inl rfl|exact Or.inr rfl)))))) (λ_ _ _ _ _=>(lV (iM (pv 0)) u4 (u6 (uC zf)))) (N:=["row","last"]) (k:=1) (is:=[3]) (kD (by rfl)))
  (zd (Bz (i:=2) c rfl (Or.inl rfl) (By p (λ_ _ _ _ h=>BB h) (d.mono (by lia)) rfl (zq (iM (pv 2)) (zq (By q a d rfl (zq (iM (pv 5)) (zq (iM (pv 4)) iP))) iP)))))) gs))))
  (zd (zk (iM (pv 2))))))
theorem J0{Y:En}(T:ai Y.K "done" (top 23))(k:Y.mg "sorted"=none)(a:Y.mg "set"=none)(d:Cl Y "raised" 4 ["some","k"] tf)(g:Cl Y "added" 3 ["one","other"] ny):Cl Y "done" 13 ["rows","some"] (fE qf 8):=fI.iter (L:=5) (Ur T Y.X Y.G El (λ_ _ _ _ _ _ e i=>oV e i λ_ _=>rfl)) (λ_ _ _ _ _ h=>BB h) (λF j b f c=>N3 b f T k a d g c) 8
theorem J2{Y:En}(T:ai Y.K "ones" (top 41)) (a:Y.mg "LETTERS"=some (.int 8 k_LETTERS)):Cl Y "ones" 1 ["m"] pr:=dG ["m"] T λd f c A b s H E e=>(zd (zk (gV (bm (ez (eK BH BF (gV (bm zf)) sv) (eK BH BF (gV (bm zf)) (iy (pd (Ei (v:=.int 8) rfl a ⟨_,rfl⟩) (λ_ _=>.int _)) sv)))))))
theorem Mm{Y:En}(T:ai Y.K "least" (top 43))(h:Cl Y "left_of_both" 7 ["one","other"] Cw)(g:Cl Y "done" 13 ["rows","some"] (fE qf 8))(a:Cl Y "ones" 1 ["m"] pr):Cl Y "least" 14 ["one","other"] uH:=dG ["one","other","left","m"] T λb f e A c s H E d=>(zb (cD b (bO h d (bG sv sv)))
 (zb (gi (mT (jj sv)) (zd (zk qO)) gs)
 (zb (cD b zf)
 (zb (B8 tZ (mT (jj (bO g d (bG sv (bO a d (bm sv)))))) (zd (xk (i:=3) b rfl (Or.inl rfl) zf Hg AI)))
 (zd (zk sv))))))
theorem V5{Y:En}(T:ai Y.K "_law_is_whole" (top 59))(d:Y.mg "bool"=none)(b:Y.mg "isinstance"=none)(e:Y.mg "int"=none):Cl Y "_law_is_whole" 1 ["_law_thing"] j5:=dG ["_law_thing"] T λg f c A a s H E h=>(zd (zk (uB (zg vt vh rfl b vB (bG sv (pd (uO (v:=.ty "int") rfl e wb rfl) (λ_ _=>.ty _)))) (nY (qP (zg vt vh rfl b vB (bG sv (pd (uO (v:=.ty "bool") rfl d xc rfl) (λ_ _=>.ty _)))))))))
theorem HF{Y:En}(F:o9 Y.K "law" "law" (top 61) f fd)(m:Y.mg "len"=none)(l:Y.mg "min"=none)(g:Y.mg "max"=none)(p:Y.mg "range"=none)(i:Cl Y "_law_bag" 1 ["_law_script","_law_at"] vg)(h:Cl Y "_law_take" 1 ["_law_bag_here","_law_many"] zl)(o:Cl Y "_law_two" 5 ["_law_bag_here","_law_most"] B3)(q:Cl Y "_law_due" 4 ["_law_one","_law_other"] Cf)(d:Cl Y "least" 14 ["one","other"] uH)(n:Cl Y "_law_is_whole" 1 ["_law_thing"] j5):gL Y.P Y.w Y.K Y.mg Y.base jX 15 f fd ["_law_script"] (i4 Y.K):=
 have e:cb ["_law_script","_law_k","_law_bag_here","_law_most","_law_one","_law_other","_law_due_here","_law_found"] ["_law_script"] (ag (top 61)):=⟨rfl,rfl,rfl,by decide +kernel,rfl,by decide +kernel,by decide +kernel⟩
 have b:=e.nd
 Jx (k:=14) F e rfl (λj A c s H E a=>(zb (fQ (lC rfl p (bm (ez (zg (Nk rfl) js rfl g wc (bG zf (zg (tz rfl) js rfl l sL (bG (zg zu ls rfl m lu (bm sv)) zf)))) zf))) (eQ b)
 (zb (cD b (bO i a (bG sv sv)))
 (zb (cD b (gf (nr (zq zf (zq zf (bG zf zf)))) (bO h a (bG sv zf)) (λ_ _=>rfl)))
 (zb (Lq (bO o a (bG sv sv)) (qo rfl (j4 (eQ b) (j4 (eQ b) qt))))
 (zb (cD b (bO q a (bG sv sv)))
 (zd (fQ (fo (nr (bG (bO d a (bG sv sv)) (bO d a (bG sv sv))))) (eQ b)
 (zd (gi (JW.pt (nZ (fN (wF a.units) lR sv sv (az _)) (sR (JW.pt (xn (fN J7 JY sv qO (az _)) (sR (mT (jj (bO n a (bm sv)))) (by first|exact Or.inl rfl|exact Or.inr rfl)))) (by first|exact Or.inl rfl|exact Or.inr rfl)))) (zd (zk kJ)) gs)))))))))
 (zd (zk kJ)))) K34.holds
theorem all_mk{l:W.OpenLaw}{K:Fg}(X:K.In h)(G:h.Ns mainGlobals mg)(hfa:mg "law"=some (.ref fa))
  (t1:ai K "_law_bag" (top 45))(t2:ai K "_law_odd" (top 47))(t3:ai K "_law_take" (top 46))(t4:ai K "_law_row" (top 48))(t5:ai K "_law_rows" (top 49))(t6:ai K "_law_ways" (top 50))(t7:ai K "_law_pair" (top 51))(t8:ai K "_law_exchanged" (top 53))(t9:ai K "_law_places" (top 52))(t10:ai K "_law_same_by_exchanges" (top 54))(t11:ai K "_law_two" (top 55))(t12:ai K "_law_raised" (top 56))(t13:ai K "_law_done" (top 57))(t14:ai K "_law_ones" (top 58))(t15:ai K "_law_due" (top 60))(t16:ai K "rows_kept" (top 31))(t17:ai K "flip" (top 8))(t18:ai K "odd_ways" (top 11))(t19:ai K "rows_for_two" (top 26))(t20:ai K "rows_for_row" (top 27))(t21:ai K "is_whole" (top 7))(t22:ai K "stands_in" (top 28))(t23:ai K "falls_slowly" (top 25))(t24:ai K "is_place" (top 29))(t25:ai K "exchange_in" (top 30))(t26:ai K "walked" (top 37))(t27:ai K "moment" (top 34))(t28:ai K "flip_level" (top 35))(t29:ai K "places" (top 33))(t30:ai K "way" (top 36))(t31:ai K "settled" (top 38))(t32:ai K "odd_ones" (top 9))(t33:ai K "rows_added" (top 22))(t34:ai K "can_be_held" (top 21))(t35:ai K "left_of_both" (top 42))(t36:ai K "shares" (top 12))(t37:ai K "letter_raised" (top 13))(t38:ai K "product_raised" (top 14))(t39:ai K "raised" (top 15))(t40:ai K "added" (top 17))(t41:ai K "done" (top 23))(t42:ai K "ones" (top 41))(t43:ai K "least" (top 43))(t44:ai K "_law_is_whole" (top 59))(t45:ai K "law" (top 61)) (z0:W.nsIn K mainGlobals "len"=some none)(z1:W.nsIn K mainGlobals "abs"=some none)(z2:W.nsIn K mainGlobals "min"=some none)(z3:W.nsIn K mainGlobals "range"=some none)(z4:W.nsIn K mainGlobals "sorted"=some none)(z5:W.nsIn K mainGlobals "tuple"=some none)(z6:W.nsIn K mainGlobals "list"=some none)(z7:W.nsIn K mainGlobals "bool"=some none)(z8:W.nsIn K mainGlobals "isinstance"=some none)(z9:W.nsIn K mainGlobals "int"=some none)(z10:W.nsIn K mainGlobals "all"=some none)(z11:W.nsIn K mainGlobals "enumerate"=some none)(z12:W.nsIn K mainGlobals "sum"=some none)(z13:W.nsIn K mainGlobals "max"=some none)(z14:W.nsIn K mainGlobals "set"=some none)(y0:W.nsIn K mainGlobals "MOST_RAISED_HELD"=some (some (.int 8 u0)))(y1:W.nsIn K mainGlobals "MOST_ROWS_HELD"=some (some (.int 6 u1)))(y2:W.nsIn K mainGlobals "LETTERS"=some (some (.int 8 u2))):
  ∃ fd:FuncData,(∀(s:Shared) (v:Value),BindsTo s fd ⟨[v],[]⟩ [("_law_script",v)])/\∀ base:Heap,K.In base->base.Ns mainGlobals mg->gL l.prog w K mg base jX 15 fa fd ["_law_script"] (i4 K):=by
 have Ab:=jB X G z0;have z_abs:=jB X G z1;have Af:=jB X G z2;have Aa:=jB X G z3;have Ac:=jB X G z4;have Ad:=jB X G z5;have Ak:=jB X G z6;have An:=jB X G z7;have Aj:=jB X G z8;have Ao:=jB X G z9;have Ap:=jB X G z10;have Bg:=jB X G z11;have Ai:=jB X G z12;have As:=jB X G z13;have z_set:=jB X G z14;have m_MOST_RAISED_HELD:=yv X G y0;have m_MOST_ROWS_HELD:=yv X G y1;have m_LETTERS:=yv X G y2;obtain⟨f,fd,a,F⟩:=t45;have e:=hfa.symm.trans (yv X G a);cases e;obtain⟨oc,od,kV,doc,pm,an,cdv,ct,osl,rfl,lk,hcd⟩:=id F.ex;refine⟨W.fnOf "law" "law" (cr (top 61)) (bq (top 61)) (ag (top 61)) .none kV doc pm an cdv ct,λs v=>.of_eq rfl,λbase _ _=>?_⟩
 let Y:En:=⟨l.prog,w,K,mg,base,h,X,G⟩
 have Bq:=U7 (Y:=Y) t1 Ab z_abs Af Aa;have Ag:=U9 (Y:=Y) t2 Ac Ad;have Ae:=Vy (Y:=Y) t3;have Am:=Va (Y:=Y) t4 Aa Af Ad Ae;have Az:=Vx (Y:=Y) t5 Aa Ag Ae Am;have A5:=Vz (Y:=Y) t6 Aa;have A6:=Vw (Y:=Y) t7 Aa Ad Ac A5;have A7:=V9 (Y:=Y) t8 Ak A6 Ag;have Av:=VU (Y:=Y) t9 Ab Aa;have A8:=Wd (Y:=Y) t10 Aa Ab Ae Av A7;have Br:=Vb (Y:=Y) t11 Af Ak Ab Ae Az A8 Ag Am;have A9:=VV (Y:=Y) t12 Af Aa Ag;have A0:=Vu (Y:=Y) t13 Ak A9 Ag;have A1:=Vv (Y:=Y) t14;have Bs:=U8 (Y:=Y) t15 Aa A0 A1;have Be:=VA (Y:=Y) t16;have Ah:=J1 (Y:=Y) t17;have Ba:=Vf (Y:=Y) t18;have Bb:=V2 (Y:=Y) t19 Aa Ac Ba;have Ar:=V1 (Y:=Y) t20 Bb;have Al:=Vd (Y:=Y) t21 An Aj Ao;have Bd:=VB (Y:=Y) t22 Ap Ad Aj Al;have Bc:=VZ (Y:=Y) t23;have Aq:=Vc (Y:=Y) t24 Ab Al Bc;have Bf:=VX (Y:=Y) t25 Bd Aq Ah Ar
 have Bj:=N8 (Y:=Y) t26 Ac Ad Be Bf;have Bh:=N4 (Y:=Y) t27 Bg Ai;have A2:=VL (Y:=Y) t28 Ah Bh;have Bi:=N5 (Y:=Y) t29 Ab Aa Aq;have c_way:=HG (Y:=Y) t30 As Ac A2 Bi Ar;have Bk:=UE (Y:=Y) t31 Bj c_way;have Au:=Ve (Y:=Y) t32 Ac Ad Ah;have Bl:=VM (Y:=Y) t33 Au;have A3:=VW (Y:=Y) t34 Ai Ap Ab m_MOST_RAISED_HELD m_MOST_ROWS_HELD;have Bp:=V0 (Y:=Y) t35 A3 Bk Bl;have Bm:=N7 (Y:=Y) t36;have Bn:=V6 (Y:=Y) t37 Bm;have Bo:=Wa (Y:=Y) t38 Ai Bn;have Aw:=N6 (Y:=Y) t39 Ai Ac Ad Al Bo Ah;have Ax:=Ml (Y:=Y) t40 Au;have Ay:=J0 (Y:=Y) t41 Ac z_set Aw Ax;have c_ones:=J2 (Y:=Y) t42 m_LETTERS;have A4:=Mm (Y:=Y) t43 Bp Ay c_ones;have Bt:=V5 (Y:=Y) t44 An Aj Ao;exact HF (Y:=Y) F Ab Af As Aa Bq Ae Br Bs A4 Bt
end K34
end
open PySem PySem.W PyProof.Rows
set_option maxRecDepth 100000 in
set_option maxHeartbeats 0 in
theorem PySem.Challenge.cw_raisedsums_k34_least_letters_holds : PySem.Challenge.rw_raisedsums_k34_least_letters.Holds := by
  w_on; o_law; k_head; (case hw => w_witness2)
  k_fill
  refine L2.KM (l := PySem.Challenge.rw_raisedsums_k34_least_letters) (n := 63) (k := 15) (x := "_law_script") (CX := fun _ => L2.jX) (sp := fun w => Dd.i4 _) rfl (by decide) rfl ⟨rfl, by decide, by decide⟩ (fun w h Y => PySem.W.kIn_of Y) ?F (fun _ _ a ns hl _ hS => ⟨a, ns, rfl, hS, hl, fun _ => rfl⟩) (fun _ _ _ _ _ z => z)
  case F =>
    intro w mg fa h KX G hmg
    refine' K34.all_mk KX G hmg ?t1 ?t2 ?t3 ?t4 ?t5 ?t6 ?t7 ?t8 ?t9 ?t10 ?t11 ?t12 ?t13 ?t14 ?t15 ?t16 ?t17 ?t18 ?t19 ?t20 ?t21 ?t22 ?t23 ?t24 ?t25 ?t26 ?t27 ?t28 ?t29 ?t30 ?t31 ?t32 ?t33 ?t34 ?t35 ?t36 ?t37 ?t38 ?t39 ?t40 ?t41 ?t42 ?t43 ?t44 ?t45 ?z0 ?z1 ?z2 ?z3 ?z4 ?z5 ?z6 ?z7 ?z8 ?z9 ?z10 ?z11 ?z12 ?z13 ?z14 ?y0 ?y1 ?y2
    all_goals first|k_is|kernel_rfl|(refine' L2.WI ?a ?l ?c ?k;(case a=>k_is);(case l=>k_is);(case c=>k_is);(case k=>k_is))|skip
#print axioms PySem.Challenge.cw_raisedsums_k34_least_letters_holds
