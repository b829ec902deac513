import PyProof.Rows.All
import Wide.All
import OpenK.AllK
import Wide.FinOn
import PyProof.EqAt
import PyProof.EqKinds
import PyProof.TupleCall
import PySem.Challenge.RW_raisedsums_k42_rows_to_counts_and_back
set_option Elab.async false
set_option linter.all false
set_option maxRecDepth 100000
set_option hygiene false
local macro_rules
|`('!')=>`((by lia))
|`('"')=>`(some (.ref au.length))
|`('#')=>`((model X.prog X.w))
|`('$')=>`(List (List Int))
|`('%')=>`((by simp))
|`('&')=>`(Inv X aW σ H s)
|`('(')=>`((bB λ_ _ _ _=>.int _))
|`(')')=>`((by decide))
|`('*')=>`((model prog w))
|`('+')=>`((eC (.int 1)))
set_option hygiene true
noncomputable section
namespace PySem.W.Fast
theorem tw1554269843034695685:True:=⟨⟩
theorem tw12791696258945671060:True:=⟨⟩
theorem tw7152780863482172119:True:=⟨⟩
theorem tw9663849856931751982:True:=⟨⟩
theorem tw2900818194345786834:True:=⟨⟩
theorem tw10934707717260646905:True:=⟨⟩
theorem tw7988503991968413019:True:=⟨⟩
theorem tw3648830661368648261:True:=⟨⟩
theorem tw7743395827396773203:True:=⟨⟩
theorem tw13105231651387155542:True:=⟨⟩
theorem tw15995787233760606246:True:=⟨⟩
theorem tw2021599481931710447:True:=⟨⟩
theorem tw4080141481128057646:True:=⟨⟩
theorem tw1253223266843520505:True:=⟨⟩
theorem tw16670845471737384588:True:=⟨⟩
theorem tw10350250564865476794:True:=⟨⟩
theorem tw10881974185136699439:True:=⟨⟩
theorem tw8602879655459039493:True:=⟨⟩
theorem tw4154554986406577839:True:=⟨⟩
theorem tw5335203315716102868:True:=⟨⟩
theorem tw16813850998538055811:True:=⟨⟩
theorem tw435262765177518991:True:=⟨⟩
theorem tw11524608608004430002:True:=⟨⟩
theorem tw16030195764728070120:True:=⟨⟩
theorem tw13936433357786722344:True:=⟨⟩
theorem tw10496418536473612707:True:=⟨⟩
theorem tw9428798297024215145:True:=⟨⟩
theorem tw12575414896466921025:True:=⟨⟩
theorem tw6537627801313213140:True:=⟨⟩
theorem tw7234220734834456467:True:=⟨⟩
theorem tw585586540722533025:True:=⟨⟩
theorem tw9359235811526035432:True:=⟨⟩
theorem tw12947797091916814468:True:=⟨⟩
theorem tw5771133750332596965:True:=⟨⟩
theorem tw2600950620954687612:True:=⟨⟩
theorem tw12398125817551670993:True:=⟨⟩
theorem tw11351059333549008768:True:=⟨⟩
theorem tw14305014536273757296:True:=⟨⟩
theorem tw8024645844649296757:True:=⟨⟩
theorem tw4672996866989712601:True:=⟨⟩
theorem tw2636274233976733452:True:=⟨⟩
theorem tw8435966017484248463:True:=⟨⟩
theorem tw7876862975901178437:True:=⟨⟩
theorem tw352982041835474420:True:=⟨⟩
theorem tw11736821914055919058:True:=⟨⟩
theorem tw8823516410600616634:True:=⟨⟩
theorem tw15009910213841080250:True:=⟨⟩
theorem tw17319792743341637648:True:=⟨⟩
theorem tw3554441041481473483:True:=⟨⟩
theorem tw683171559081947313:True:=⟨⟩
theorem tw384616869985577575:True:=⟨⟩
theorem tw17293236833745125866:True:=⟨⟩
theorem tw14209469234596413518:True:=⟨⟩
theorem tw7623505918650901364:True:=⟨⟩
theorem tw14477803009722822156:True:=⟨⟩
theorem tw2444819342327345496:True:=⟨⟩
theorem tw8004952335457217755:True:=⟨⟩
theorem tw14826259516707477877:True:=⟨⟩
theorem tw3934067192103291963:True:=⟨⟩
theorem tw10618798067518806974:True:=⟨⟩
theorem tw14003688569480800826:True:=⟨⟩
theorem tw7068056129587666251:True:=⟨⟩
theorem tw11762059765620251630:True:=⟨⟩
theorem tw3113663476086845184:True:=⟨⟩
theorem tw8816140270517320190:True:=⟨⟩
theorem tw16418420625777168131:True:=⟨⟩
theorem tw3110764597599375199:True:=⟨⟩
theorem tw17777329335896287917:True:=⟨⟩
theorem tw791786269198885680:True:=⟨⟩
theorem tw9435242855184530888:True:=⟨⟩
theorem tw7315909673684026058:True:=⟨⟩
theorem tw12226127137165294440:True:=⟨⟩
theorem tw18184616871884172628:True:=⟨⟩
theorem tw5866050813507860719:True:=⟨⟩
theorem tw17607369904789701709:True:=⟨⟩
theorem tw1721150661417764625:True:=⟨⟩
theorem tw2761553977539399746:True:=⟨⟩
theorem tw9905946872157188584:True:=⟨⟩
theorem tw9862612963862162286:True:=⟨⟩
theorem tw12831122378089349779:True:=⟨⟩
theorem tw8247097277186280482:True:=⟨⟩
theorem tw11764811498225897854:True:=⟨⟩
theorem tw13479717346714610031:True:=⟨⟩
theorem tw9433388424286312293:True:=⟨⟩
theorem tw11897648576957732358:True:=⟨⟩
theorem tw1984159694607906270:True:=⟨⟩
theorem tw9627327446162049716:True:=⟨⟩
theorem tw2376431421591132048:True:=⟨⟩
theorem tw17449183633916380307:True:=⟨⟩
theorem tw15878614399973236490:True:=⟨⟩
theorem tw13372998907700939280:True:=⟨⟩
theorem tw13960964571661483424:True:=⟨⟩
theorem tw8599397399592878941:True:=⟨⟩
theorem tw11136278357144484129:True:=⟨⟩
theorem tw4305523015249560313:True:=⟨⟩
theorem tw2381552708138698908:True:=⟨⟩
theorem tw17222085306479980720:True:=⟨⟩
theorem tw13284240422886324771:True:=⟨⟩
theorem tw8320653149548413683:True:=⟨⟩
theorem tw9719522751723642085:True:=⟨⟩
theorem tw12930826479382788097:True:=⟨⟩
theorem tw17599714997090885557:True:=⟨⟩
theorem tw15330858711234253210:True:=⟨⟩
theorem tw16017908254309848782:True:=⟨⟩
theorem tw15003390517361621925:True:=⟨⟩
end PySem.W.Fast
open PySem
set_option genSizeOfSpec false
set_option genInjectivity false
abbrev Fg:=PySem.W.Frag
abbrev ab:=@PySem.wpAny_bind
abbrev av:=@List.length_map
abbrev bX:=@PySem.Heap.get?_push_of_some
abbrev ax:=@Nat.le_trans
abbrev cK:=@List.getElem?_eq_some_iff
abbrev am:=@PySem.wpAny_pure
abbrev cV:=@List.getElem?_eq_getElem
abbrev aY:=@Nat.le_refl
abbrev cH:=@List.mem_cons_of_mem
abbrev dM:=@List.getD_eq_getElem?_getD
abbrev bO:=@List.mem_range
abbrev bP:=@List.map_cons
abbrev dF:=@List.mem_of_getElem?
abbrev bT:=@List.mem_cons
abbrev df:=@Nat.lt_of_lt_of_le
abbrev dq:=@List.length_append
abbrev bf:=@PyProof.Rows.wpS_bind
abbrev dE:=@List.append_assoc
abbrev dm:=@List.length_cons
abbrev dk:=@List.all_eq_true
abbrev bm:=@PyProof.Rows.wpS_pure
abbrev dH:=@List.size_toArray
abbrev ed:=@PySem.Heap.get?_push_size
abbrev dj:=@decide_eq_false
abbrev eF:=@List.mem_cons_self
abbrev cJ:=@PySem.Heap.lt_size
abbrev fj:=@List.getElem?_set_ne
abbrev cU:=@List.mem_map
abbrev eY:=@List.mem_singleton
abbrev eU:=@List.getElem?_map
abbrev h8:=@List.getElem?_append_left
abbrev d5:=@decide_eq_true
abbrev gw:=@Nat.eq_of_beq_eq_true
abbrev dL:=@Nat.le_of_lt
abbrev fi:=@List.take_length
abbrev gQ:=@Option.map_eq_some_iff
abbrev gE:=@List.mem_append_right
abbrev gm:=@Array.length_toList
abbrev dY:=@Nat.ne_of_lt
abbrev fh:=@List.mem_append
abbrev fK:=@Nat.le_add_right
abbrev fZ:=@Nat.le_of_not_lt
abbrev ij:=@Nat.le_of_ble_eq_true
abbrev fY:=@Option.some.inj
abbrev iH:=@Array.getElem?_toList
abbrev fX:=@List.map_append
abbrev jU:=@List.drop_eq_getElem_cons
abbrev ii:=@Nat.add_le_add_left
abbrev gC:=@List.length_take
abbrev iG:=@Nat.add_sub_cancel'
abbrev cO:=@Ne.symm
abbrev gA:=@List.mem_filter
abbrev fJ:=@List.map_map
abbrev iZ:=@of_decide_eq_true
abbrev iF:=@Bool.and_eq_true
abbrev mw:=@List.getElem?_append_right
abbrev jv:=@Nat.lt_of_le_of_lt
abbrev ju:=@PySem.W.mg_none_of
abbrev iE:=@List.nodup_cons
abbrev kG:=@List.take_append_drop
abbrev jt:=@PySem.wpAny_newObj_type
abbrev h7:=@Nat.xor_assoc
abbrev iY:=@List.length_set
abbrev mr:=@Nat.add_sub_cancel_left
abbrev jT:=@Nat.le_of_lt_succ
abbrev kb:=@Nat.lt_of_le_of_ne
abbrev lF:=@Nat.le_sub_one_of_lt
abbrev ka:=@Nat.le_of_succ_le
abbrev js:=@List.sum_append
abbrev mU:=@List.filter_cons_of_neg
abbrev mT:=@List.filter_cons_of_pos
abbrev ig:=@Nat.le_of_eq
abbrev kF:=@Bool.false_eq_true
abbrev mq:=@Nat.le_of_add_left_le
abbrev jj:=@PySem.wpAny_holding
abbrev mS:=@PySem.Heap.get?_update_self
abbrev ie:=@Nat.zero_le
abbrev mo:=@List.map_congr_left
abbrev mm:=@Array.toList_append
abbrev ml:=@List.replicate_succ
abbrev iW:=@PyProof.Rows.wpS_forRange
abbrev j9:=@Nat.min_eq_left
abbrev pu:=@Nat.sub_lt_left_of_lt_add
abbrev kE:=@List.cons_append
abbrev kD:=@PySem.wpAny_call_entry
abbrev mR:=@List.mem_of_mem_take
abbrev iC:=@PySem.sizeLine_eq
abbrev qy:=@PyProof.Rows.callWith_type1
abbrev kC:=@Nat.le_antisymm
abbrev oj:=@Nat.add_lt_of_lt_sub'
abbrev iV:=@PySem.wpAny_field
abbrev lE:=@List.getElem_mem
abbrev pr:=@Int.eq_ofNat_of_zero_le
abbrev pq:=@List.getElem?_set_self
abbrev lD:=@List.append_nil
abbrev mj:=@Nat.min_le_right
abbrev jS:=@Nat.zero_add
abbrev mi:=@List.map_flatMap
abbrev oi:=@List.getElem_of_mem
abbrev oh:=@Nat.add_lt_add_left
abbrev iU:=@PySem.wpAny_mono
abbrev pj:=@Nat.ble_eq_true_of_le
abbrev mQ:=@PySem.wpAny_truthy_bool
abbrev u6:=@PyProof.Rows.slot_tuple_getitem
abbrev kB:=@List.sum_cons
abbrev og:=@Bool.false_ne_true
abbrev mh:=@List.find?_cons
abbrev j8:=@Nat.lt_or_ge
abbrev mf:=@Bool.eq_iff_iff
abbrev pi:=@Nat.sub_lt_sub_right
abbrev mP:=@Nat.succ_le_succ
abbrev mO:=@Nat.not_lt_of_le
abbrev mN:=@List.mem_flatMap
abbrev n0:=@Int.toNat_natCast
abbrev nZ:=@List.length_range
abbrev nY:=@List.reverse_cons
abbrev qx:=@Nat.le_sub_of_add_le'
abbrev qw:=@List.getElem?_eq_none
abbrev mM:=@PySem.W.kia_one
abbrev qv:=@List.mem_of_mem_drop
abbrev iB:=@if_false
abbrev sU:=@PySem.Heap.get?_update_other
abbrev sT:=@List.take_of_length_le
abbrev hZ:=@if_true
abbrev ph:=@Nat.lt_of_succ_lt
abbrev qu:=@PySem.Heap.SameBut.update
abbrev qt:=@List.length_reverse
abbrev qr:=@List.flatMap_append
abbrev sS:=@PySem.builtinLookup_eq_fast
abbrev qq:=@PySem.Calls.spliced_cons
abbrev pf:=@List.lookup_cons
abbrev qp:=@List.getElem?_drop
abbrev pd:=@List.not_mem_nil
abbrev qo:=@PySem.wpAny_Call_Name_kw
abbrev ji:=@PyProof.Rows.wpS_mono
abbrev zG:=@PySem.F.slot_dict_keyiterator_next
abbrev sR:=@Nat.sub_le_sub_right
abbrev sQ:=@List.reverse_reverse
abbrev u4:=@List.getElem?_cons_succ
abbrev uZ:=@Option.bind_eq_some_iff
abbrev qm:=@Nat.sub_pos_of_lt
abbrev qk:=@Nat.le_succ_of_le
abbrev qj:=@Array.toList_push
abbrev qi:=@List.foldl_append
abbrev qh:=@decide_eq_true_eq
abbrev pc:=@List.length_nil
abbrev o9:=@List.nil_append
abbrev o8:=@PySem.wpAny_ite_false
abbrev o7:=@PySem.wpAny_ite_split
abbrev mL:=@Nat.ne_of_gt
abbrev mK:=@Nat.xor_zero
abbrev uY:=@PySem.F.plain_max_loop
abbrev zF:=@Array.perm_iff_toList_perm
abbrev qg:=@List.length_drop
abbrev qf:=@Nat.lt_of_not_le
abbrev uX:=@List.length_singleton
abbrev uW:=@List.length_filter_le
abbrev o6:=@List.nodup_nil
abbrev sP:=@Nat.lt_of_lt_of_eq
abbrev uV:=@List.getElem?_toArray
abbrev o5:=@PySem.Heap.size_push
abbrev sO:=@List.filter_append
abbrev zE:=@Array.getElem?_eq_getElem
abbrev uU:=@List.mem_append_left
abbrev uT:=@List.pairwise_append
abbrev uS:=@Bool.or_eq_false_iff
abbrev qe:=@PySem.PassesOwn.never
abbrev uR:=@PySem.Around.under_plainId
abbrev me:=@beq_iff_eq
abbrev sN:=@PySem.Calls.spliced_nil
abbrev sM:=@List.flatten_cons
abbrev sL:=@List.nodup_append
abbrev o0:=@Nat.lt_irrefl
abbrev DZ:=@PySem.wpAny_typeNameOfWhole_keyiter
abbrev uQ:=@PySem.mem_of_lookup
abbrev uP:=@beq_eq_false_iff_ne
abbrev mJ:=@Nat.sub_le
abbrev mI:=@PyProof.Rows.wpS_modify
abbrev mH:=@PySem.wpAny_rule
abbrev uO:=@PySem.Obj.data_mapFields
abbrev uN:=@Nat.sub_add_cancel
abbrev uM:=@List.count_eq_zero
abbrev oZ:=@Nat.zero_xor
abbrev uL:=@PySem.wpAny_pyIter_tuple
abbrev zD:=@List.length_replicate
abbrev sK:=@List.range_succ
abbrev zC:=@List.Perm.append_left
abbrev zB:=@List.perm_append_comm
abbrev sJ:=@List.foldl_cons
abbrev sI:=@PySem.wpAny_passesOwn
abbrev sH:=@PySem.wpAny_specialOf
abbrev sG:=@PySem.codeAny_builtin
abbrev sF:=@PySem.typeLookup_type
abbrev qd:=@PySem.wpAny_attempt
abbrev uK:=@List.count_append
abbrev uJ:=@PySem.wpAny_dictEntries
abbrev nX:=@PySem.call_meets
abbrev oY:=@PySem.wpAny_of_eq
abbrev sE:=@PySem.wpAny_setField
abbrev sD:=@PySem.wpAny_seqItems
abbrev OI:=@List.take_succ_eq_append_getElem
abbrev uI:=@Option.getD_some
abbrev qc:=@Nat.xor_self
abbrev DY:=@List.Pairwise.imp_of_mem
abbrev uH:=@beq_self_eq_true
abbrev zA:=@Nat.sub_le_sub_left
abbrev y9:=@Nat.testBit_two_pow
abbrev DX:=@List.eraseIdx_cons_succ
abbrev DV:=@PySem.F.plainAttrs_dict
abbrev DU:=@List.countP_cons_of_pos
abbrev DR:=@Nat.lt_add_of_pos_right
abbrev DQ:=@List.length_eq_zero_iff
abbrev DP:=@PySem.F.plainAttrs_list
abbrev sC:=@PySem.Paired.length
abbrev sB:=@List.any_cons
abbrev lC:=@PyProof.Rows.wpS_get
abbrev sA:=@PySem.plainId_quiet
abbrev y8:=@List.zip_cons_cons
abbrev oX:=@Nat.sub_lt
abbrev uG:=@Nat.min_le_left
abbrev y6:=@List.pairwise_cons
abbrev yZ:=@List.count_pos_iff
abbrev DN:=@PySem.wpAny_loadPart'
abbrev yY:=@PySem.tupleKind_room_in1
abbrev yX:=@PySem.wpAny_setField_rec
abbrev DM:=@PySem.Calls.callWith_builtin
abbrev DL:=@List.Perm.append_right
abbrev DK:=@List.drop_eq_nil_of_le
abbrev DJ:=@List.flatMap_singleton
abbrev qb:=@decide_true
abbrev qa:=@PySem.wpAny_letGo
abbrev sw:=@Nat.lt_trans
abbrev DH:=@PySem.F.slot_dict_pop
abbrev DF:=@PySem.Obj.isFreed_of_fields
abbrev OH:=@Array.extract_eq_empty_of_le
abbrev su:=@Int.zero_add
abbrev sr:=@Nat.xor_comm
abbrev sk:=@decide_false
abbrev yW:=@Nat.min_eq_right
abbrev DD:=@Array.toList_reverse
abbrev yV:=@Nat.lt_succ_self
abbrev yU:=@PySem.F.slot_tuple_mul
abbrev yT:=@List.Nodup.count
abbrev DC:=@Nat.pow_le_pow_right
abbrev yS:=@List.map_reverse
abbrev nW:=@and_self
abbrev OG:=@Array.getElem?_eq_some_iff
abbrev OF:=@Nat.mod_two_eq_zero_or_one
abbrev sj:=@Nat.le_succ
abbrev DB:=@List.filterMap_cons
abbrev Dz:=@List.reverse_append
abbrev Dy:=@List.filter_sublist
abbrev OE:=@List.pairwise_iff_getElem
abbrev yR:=@Int.emod_nonneg
abbrev yQ:=@List.count_cons
abbrev yP:=@Nat.testBit_xor
abbrev OD:=@Nat.shiftRight_eq_div_pow
abbrev yO:=@PySem.wpAny_updateSeq
abbrev OC:=@PySem.F.args_tuple_add_2
abbrev uF:=@Nat.sub_self
abbrev uE:=@Nat.add_zero
abbrev OB:=@PySem.AutoSeq1.wpAny_loadPart'
abbrev Dx:=@Nat.eq_zero_or_pos
abbrev Dw:=@Int.lt_of_le_of_lt
abbrev uD:=@PySem.codeAny_mono
abbrev uC:=@PySem.wpAny_typeOf
abbrev Dv:=@PyProof.Rows.slot_tuple_getitem
abbrev uB:=@PySem.call_meetsIn
abbrev oW:=@or_false
abbrev yN:=@PySem.isSubtype_type
abbrev OA:=@PySem.F.entry_tuple_add
abbrev Oz:=@List.countP_cons_of_neg
abbrev Oy:=@List.pairwise_singleton
abbrev Ox:=@List.getElem?_cons_zero
abbrev Du:=@List.take_sublist
abbrev Dt:=@Nat.zero_lt_of_lt
abbrev Ds:=@List.ext_getElem?
abbrev Dr:=@Nat.lt_succ_of_lt
abbrev Dq:=@List.flatMap_cons
abbrev Dp:=@List.Pairwise.map
abbrev Ow:=@PySem.F.slot_tuple_add
abbrev Ov:=@Array.getElem?_eq_none
abbrev Do:=@List.getElem_inj
abbrev Dm:=@List.filter_cons
abbrev Dl:=@List.mem_reverse
abbrev Dk:=@List.nodup_range
abbrev Dj:=@PySem.wpAny_isInstance
abbrev p9:=@PyProof.Rows.wpS_lift
abbrev Ou:=@PySem.F.slot_tuple_lt
abbrev Ot:=@PySem.F.slot_dict_get
abbrev Os:=@PySem.F.slot_dict_len
abbrev SJ:=@List.eraseIdxIfInBounds_toArray
abbrev yM:=@Int.ediv_one
abbrev Oq:=@PySem.Calls.evalArgs_plain
abbrev yL:=@Nat.pow_succ
abbrev Di:=@List.foldr_cons
abbrev SI:=@Int.mul_le_mul_of_nonneg_right
abbrev Op:=@PySem.F.called_tuple
abbrev Dh:=@Nat.two_pow_pos
abbrev Dg:=@PySem.wpAny_execs_nil
abbrev Oo:=@PySem.codeAny_call_builtin
abbrev On:=@List.mem_map_of_mem
abbrev Om:=@List.filter_eq_self
abbrev SH:=@PySem.F.slot_dict_setdefault
abbrev Df:=@Int.mul_nonneg
abbrev De:=@PySem.wpAny_tryCatch
abbrev yK:=@Int.add_mul
abbrev Ol:=@List.filterMap_map
abbrev Oj:=@PySem.Heap.IsSliceOf.new
abbrev Oi:=@Array.append_empty
abbrev Oh:=@Nat.pos_of_ne_zero
abbrev Og:=@Nat.add_sub_cancel
abbrev Of:=@PySem.F.args_tuple_mul_2
abbrev SF:=@Int.fdiv_eq_ediv_of_nonneg
abbrev Dc:=@PySem.W.mg_of
abbrev SD:=@PyProof.Rows.boot_reversed
abbrev Db:=@PySem.wpAny_standAt
abbrev Da:=@PySem.evalPart_none
abbrev Oe:=@PySem.Obj.cls_mapFields
abbrev Od:=@List.mapM_toArray
abbrev Oc:=@PySem.F.entry_tuple_mul
abbrev Ob:=@PySem.wpAny_pyIter_list
abbrev Oa:=@PySem.wpAny_sequenceKey
abbrev N9:=@PySem.slot_list_getitem
abbrev N8:=@PySem.wpAny_pyIter_slot
abbrev SC:=@List.mem_of_find?_eq_some
abbrev C9:=@List.map_nil
abbrev N7:=@List.any_eq_true
abbrev N6:=@List.ext_getElem
abbrev N5:=@List.getElem_map
abbrev N4:=@Nat.max_eq_right
abbrev C8:=@Int.le_trans
abbrev N3:=@List.drop_length
abbrev N2:=@map_eq_pure_bind
abbrev N1:=@List.of_mem_zip
abbrev NZ:=@List.forIn_cons
abbrev NY:=@Nat.le_add_left
abbrev NX:=@Bool.or_eq_true
abbrev NW:=@List.filter_map
abbrev NV:=@Int.natCast_add
abbrev NU:=@List.length_zip
abbrev C7:=@Nat.two_pos
abbrev C6:=@Int.neg_neg
abbrev NT:=@List.drop_drop
set_option maxHeartbeats 0
namespace L2
open Spec PyProof.Rows
noncomputable abbrev cG:=Sum Int Str
def hD:cG->Value->Bool
 |.inl k,v=>Value.isInt k v
 |.inr x,v=>Value.isStrOf x v
def Pc(w:World):cG->Int
 |.inl k=>hashInt k
 |.inr x=>hashStr w x
theorem nV:∀{k:cG}{v:Value},hD k v=true->(∃i t,k=Sum.inl i/\v=Value.int i t)\/(∃x t,k=Sum.inr x/\v=Value.str x t)
 |.inl i,v,h=>by
  obtain⟨t,e⟩:=Value.isInt_shape (k:=i) (v:=v) h;exact .inl ⟨i,t,rfl,e⟩
 |.inr x,v,h=>by
  obtain⟨t,e⟩:=Value.isStrOf_shape (x:=x) (v:=v) h;exact .inr ⟨x,t,rfl,e⟩
theorem Nz(i:Int)(t:Tok):hD (.inl i) (.int i t)=true:=by simp[hD,Value.isInt]
theorem NA(x:Str)(t:Tok):hD (.inr x) (.str x t)=true:=by simp[hD,Value.isStrOf]
theorem Ht(a b:Int):decide ((Sum.inl a:cG)=Sum.inl b)=(a==b):=by
 by_cases e:a=b
 ·subst e;simp
 ·have h:¬ (Sum.inl a:cG)=Sum.inl b:=λq=>e (Sum.inl.inj q)
  rw[dj h];exact(uP.mpr e).symm
theorem Hw(a b:Str):decide ((Sum.inr a:cG)=Sum.inr b)=decide (a=b):=by
 by_cases e:a=b
 ·subst e;simp
 ·have h:¬ (Sum.inr a:cG)=Sum.inr b:=λq=>e (Sum.inr.inj q)
  rw[dj h,dj e]
theorem Hu(a:Int)(b:Str):decide ((Sum.inl a:cG)=Sum.inr b)=false:=dj (λq=>nomatch q)
theorem Hv(a:Str)(b:Int):decide ((Sum.inr a:cG)=Sum.inl b)=false:=dj (λq=>nomatch q)
def ay(c:Program) (w:World):PySem.KeyKind c w cG where
 is:=hD
 hash:=Pc w
 inj:=λv a b m g=>by
  rcases nV m with⟨i,t,rfl,rfl⟩|⟨x,t,rfl,rfl⟩
  ·rcases nV g with⟨j,u,rfl,e⟩|⟨y,u,rfl,e⟩
   ·injection e with d _;rw[d]
   ·exact nomatch e
  ·rcases nV g with⟨j,u,rfl,e⟩|⟨y,u,rfl,e⟩
   ·exact nomatch e
   ·injection e with d _;rw[d]
 byValue:=λk v h=>by
  rcases nV h with⟨i,t,rfl,rfl⟩|⟨x,t,rfl,rfl⟩<;>rfl
 pyHash:=λf h=>by
  rcases nV f with⟨i,t,rfl,rfl⟩|⟨x,t,rfl,rfl⟩
  ·exact wpAny_pyHash_int h
  ·exact wpAny_pyHash_str h
 eqBool:=λl f h=>by
  rcases nV l with⟨i,t,rfl,rfl⟩|⟨x,t,rfl,rfl⟩
  ·rcases nV f with⟨j,u,rfl,rfl⟩|⟨y,u,rfl,rfl⟩
   ·rw[Ht] at h;exact wpAny_eqBool_int h
   ·rw[Hu] at h;exact SeqAt.EqAt.int_str i t y u _ _ _ _ h
  ·rcases nV f with⟨j,u,rfl,rfl⟩|⟨y,u,rfl,rfl⟩
   ·rw[Hv] at h;exact SeqAt.EqAt.str_int x t j u _ _ _ _ h
   ·rw[Hw] at h;exact wpAny_eqBool_str h
 «strs»:=λk x t v h=>by
  rcases nV h with⟨i,u,rfl,e⟩|⟨y,u,rfl,e⟩
  ·exact nomatch e
  ·injection e with d _
   subst d;cases v<;>rfl
theorem UB(a:Program)(w:World)(i:Int)(t:Tok):(ay a w).is (.inl i) (.int i t)=true:=Nz i t
theorem UC(a:Program)(w:World)(x:Str)(t:Tok):(ay a w).is (.inr x) (.str x t)=true:=NA x t
set_option genInjectivity true in
inductive V where
 |non|bl (b:Bool)|int (i:Int)|str (x:Str)|byt (b:Array UInt8)|flt (b:UInt64)|ref (a:Addr)|ty (n:String)
 deriving DecidableEq
noncomputable def RelV:V->Value->Prop
 |.non,u=>u=Value.none
 |.bl b,u=>u=Value.bool b
 |.int i,u=>∃t,u=Value.int i t
 |.str x,u=>∃t,u=Value.str x t
 |.byt b,u=>∃t,u=Value.bytes b t
 |.flt b,u=>∃t,u=Value.float b t
 |.ref a,u=>u=Value.ref a
 |.ty n,u=>u=Value.type n
abbrev ah:List V->List Value->Prop:=Paired RelV
theorem ah.length(r:ah xs us):xs.length=us.length:=sC r
theorem ah.get:∀{a:List V}{b:List Value}{i:Nat}{x:V},ah a b->a[i]?=some x->∃u,b[i]?=some u/\RelV x u
 |_,_,_,_,.nil,e=>by simp at e
 |_,_,0,_,.cons r _,e=>by simp at e;subst e;exact⟨_,rfl,r⟩
 |_,_,i+1,x,.cons _ t,e=>by
  obtain⟨u,d,c⟩:=ah.get (i:=i) (x:=x) t (by simpa using e);exact⟨u,by simpa using d,c⟩
theorem ah.set(r:RelV x u):∀{a:List V}{b:List Value}(i:Nat),ah a b->ah (a.set i x) (b.set i u)
 |_,_,_,.nil=>.nil
 |_,_,0,.cons _ t=>.cons r t
 |_,_,i+1,.cons q t=>.cons q (ah.set r i t)
theorem ah.append:∀{a b:List V}{c d:List Value},ah a c->ah b d->ah (a++b) (c++d)
 |_,_,_,_,.nil,s=>s
 |_,_,_,_,.cons r t,s=>.cons r (ah.append t s)
theorem ah.take:∀{a:List V}{b:List Value}(n:Nat),ah a b->ah (a.take n) (b.take n)
 |_,_,0,_=>.nil
 |_,_,_+1,.nil=>.nil
 |_,_,n+1,.cons r t=>.cons r (ah.take n t)
theorem ah.drop:∀{a:List V}{b:List Value}(n:Nat),ah a b->ah (a.drop n) (b.drop n)
 |_,_,0,r=>r
 |_,_,_+1,.nil=>.nil
 |_,_,n+1,.cons _ t=>ah.drop n t
def fE:Option V->Option Value->Prop
 |some v,some u=>RelV v u
 |none,none=>True
 |_,_=>False
def KV{a:Type}:List (a×V)->List (a×Value)->Prop:=Paired λ(p:a×V) (q:a×Value)=>p.1=q.1/\RelV p.2 q.2
def kV:cG->V
 |.inl i=>.int i
 |.inr x=>.str x
set_option genInjectivity true in
inductive HO where
 |lst (xs:List V)
 |tup (xs:List V)
 |dK (kvs:List (cG×V))|dT (kvs:List (List cG×V))
 |set (S:Int->Bool) (n:Nat)
 |ins (C dx:Addr) (fs:List (Str×V))
 |own (x:Addr)
 |xd (fs:List (Str×V))
 |met (f x:Addr)
 |rng (lo hi:Int)
 |frz (o:Obj) (u:HO)
 |tbl (ps:Array Value)
 |ext (φ:Heap->Prop)
noncomputable abbrev Hp:=Addr->Option HO
def aq(H:Hp) (a:Addr) (o:HO):Hp:=λb=>if b=a then some o else H b
theorem zu:aq H a o a=some o:=by unfold aq;rw[if_pos rfl]
theorem zq(h:b≠a):aq H a o b=H b:=by unfold aq;rw[if_neg h]
theorem wo{H:Hp}{a b:Addr}{o u:HO}(h:H a=some o)(c:H b=some u)(d:o≠u):a≠b:=by
 intro e;subst e;rw[h] at c;exact d (fY c)
theorem zr{H:Hp}{a b:Addr}{o:HO}(h:H a=some o)(c:H b=none):a≠b:=by
 intro e;subst e;rw[h] at c;cases c
section
variable (P:Program)(w:World)
def ar(H:Hp) (h:Heap) (a:Addr):HO->Prop
 |.lst c=>c.length<=sizeLine/\∃(b:List Value) (n:Nat),ah c b/\h.get? a=some { cls:=.type "list",data:=.seq b.toArray n }
 |.tup c=>c.length<=sizeLine/\∃b:List Value,ah c b/\IsTup h a b.toArray
 |.dK kvs=>kvs.length<=sizeLine/\(a==sysModules)=false/\∃e,KV kvs e/\h.DictOf (ay P w) a e
 |.dT kvs=>kvs.length<=sizeLine/\(a==sysModules)=false/\∃c:List (List cG×Addr×Value),
  Paired (λ(p:List cG×V) (q:List cG×Addr×Value)=>p.1=q.1/\H q.2.1=some (.tup (p.1.map kV))/\RelV p.2 q.2.2) kvs c /\
  ∃o g k,h.get? a=some o/\o.ExactDict/\o.data=.dict g k/\g.toList=c.map (entryOfKey (tupleKind (ay P w)))/\(c.map (·.1)).Nodup
 |.set S n=>h.SetOf (intKind P w) a S n
 |.ins C dx fs=>H dx=some (.own a)/\fs.length<=1000/\dx≠a/\h.get? a=some (W.instObj C dx) /\
  ∃d,h.Ns1 dx d/\(∀f,fE (fs.lookup f) (d f))/\PySem.Within d (fs.map (·.1))
 |.own _=>∃o,h.get? a=some o
 |.xd fs=>∃d,h.Ns1 a d/\∀f,fE (fs.lookup f) (d f)
 |.rng lo hi=>∃ t u v,h.get? a=some { cls:=.type "range",data:=.fields #[.int lo t,.int hi u,.int 1 v] }
 |.frz o u=>h.get? a=some o/\ar H h a u
 |.tbl ps=>h.get? a=some {cls:=.none,data:=.fields ps}
 |.met f x=>h.get? a=some (W.methodObj (.ref f) (.ref x))
 |.ext φ=>φ h/\(∃o,h.get? a=some o)/\∀j i:Heap,φ j->(∀o,j.get? a=some o->i.get? a=some o)->φ i
def fL(H:Hp) (h:Heap):Prop:=∀a o,H a=some o->ar P w H h a o
end
theorem ar.lt(x:ar P w H h a o):a<h.objs.size:=by
 cases o with
 |lst xs=>obtain⟨_,_,_,_,e⟩:=x;exact cJ e
 |tup xs=>obtain⟨_,_,_,p⟩:=x;exact p.lt
 |dK kvs=>obtain⟨_,_,_,_,o,_,_,e,_⟩:=x;exact cJ e
 |dT kvs=>obtain⟨_,_,_,_,o,_,_,e,_⟩:=x;exact cJ e
 |set S n=>obtain⟨o,_,_,_,e,_⟩:=x;exact cJ e
 |ins C dx fs=>obtain⟨_,_,_,e,_⟩:=x;exact cJ e
 |own y=>obtain⟨_,e⟩:=x;exact cJ e
 |xd fs=>obtain⟨_,⟨_,_,_,e,_⟩,_⟩:=x;exact cJ e
 |rng lo hi=>obtain⟨_,_,_,e⟩:=x;exact cJ e
 |frz ob u=>obtain⟨e,_⟩:=x;exact cJ e
 |tbl ps=>exact cJ (show h.get? a=some _ from x)
 |met f y=>exact cJ (show h.get? a=some _ from x)
 |ext φ=>obtain⟨_,⟨_,e⟩,_⟩:=x;exact cJ e
section
variable {a:Addr}
theorem Paired.mapP{g e:Type}{F G:g->e->Prop}:∀{c:List g}{d:List e},Paired F c d->(∀a b,F a b->G a b)->Paired G c d
 |_,_,.nil,_=>.nil
 |_,_,.cons r t,f=>.cons (f _ _ r) (Paired.mapP t f)
end
theorem ar.stay{h:Heap}{s:Heap}(x:ar P w H h a o)(k:∀b u,(b=a\/H b=some (.own a))->h.get? b=some u->s.get? b=some u)
  (T:∀b,H b=some (.own a)->H' b=some (.own a))(I:∀b m,H b=some (.tup m)->H' b=some (.tup m)):ar P w H' s a o:=by
 induction o with
 |lst m=>obtain⟨z,l,n,r,e⟩:=x;exact⟨z,l,n,r,k _ _ (.inl rfl) e⟩
 |tup m=>obtain⟨z,l,r,g,e,c⟩:=x;exact⟨z,l,r,g,k _ _ (.inl rfl) e,c⟩
 |dK kvs=>obtain⟨z,y,J,r,g,j,i,e,c⟩:=x;exact⟨z,y,J,r,g,j,i,k _ _ (.inl rfl) e,c⟩
 |dT kvs=>
  obtain⟨z,y,m,r,g,j,i,e,c⟩:=x;exact⟨z,y,m,Paired.mapP r λp q z=>⟨z.1,I _ _ z.2.1,z.2.2⟩,g,j,i,k _ _ (.inl rfl) e,c⟩
 |set S n=>obtain⟨g,j,i,t,e,c⟩:=x;exact⟨g,j,i,t,k _ _ (.inl rfl) e,c⟩
 |ins C dx fs=>
  obtain⟨d,z,Q,e,E,⟨A,j,i,R,c⟩,r⟩:=x;exact⟨T _ d,z,Q,k _ _ (.inl rfl) e,E,⟨A,j,i,k _ _ (.inr d) R,c⟩,r⟩
 |own y=>obtain⟨g,e⟩:=x;exact⟨g,k _ _ (.inl rfl) e⟩
 |xd fs=>obtain⟨E,⟨A,j,i,e,c⟩,r⟩:=x;exact⟨E,⟨A,j,i,k _ _ (.inl rfl) e,c⟩,r⟩
 |rng lo hi=>obtain⟨t,u,v,e⟩:=x;exact⟨t,u,v,k _ _ (.inl rfl) e⟩
 |frz g u ih=>obtain⟨e,q⟩:=x;exact⟨k _ _ (.inl rfl) e,ih q⟩
 |tbl ps=>
  have e:h.get? a=some {cls:=.none,data:=.fields ps}:=x;show s.get? a=some {cls:=.none,data:=.fields ps};exact k a _ (.inl rfl) e
 |met f y=>
  have e:h.get? a=some (W.methodObj (.ref f) (.ref y)):=x;show s.get? a=some (W.methodObj (.ref f) (.ref y));exact k a _ (.inl rfl) e
 |ext φ=>obtain⟨p,⟨o,e⟩,G⟩:=x;exact⟨G _ _ p λo q=>k _ _ (.inl rfl) q,⟨o,k _ _ (.inl rfl) e⟩,G⟩
theorem fL.lt(x:fL P w H h)(e:H a=some o):a<h.objs.size:=(x a o e).lt
theorem fL.fresh(x:fL P w H h)(e:h.objs.size<=a):H a=none:=by
 cases q:H a with
 |none=>rfl
 |some u=>exact absurd (df (x.lt q) e) (o0 _)
theorem fL.kept{h':Heap}(x:fL P w H h)(k:∀b u,h.get? b=some u->h'.get? b=some u):fL P w H h':=λa o e=>
 (x a o e).stay (λb u _ q=>k b u q) (λ_ q=>q) λ_ _ q=>q
section
variable {P:Program}{w:World}{H:Hp}{h:Heap}{h':Heap}{a:Addr}{o:HO}
theorem fL.laid(x:fL P w H h)(k:∀b u,h.get? b=some u->h'.get? b=some u)(g:h.objs.size<=a)(d:ar P w (aq H a o) h' a o):fL P w (aq H a o) h':=λb u e=>by
 have f:=x.fresh g;by_cases hb:b=a
 ·subst hb;rw[zu] at e;cases e;exact d
 ·rw[zq hb] at e;exact(x b u e).stay (λc v _ q=>k c v q) (λc q=>by rw[zq (zr q f)];exact q) λc i q=>by rw[zq (zr q f)];exact q
end
def Rd(H:Hp) (a:Addr) (u:HO):Prop:=H a=some u\/∃o,H a=some (.frz o u)
theorem Rd.ok(r:Rd H a u)(x:fL P w H h):ar P w H h a u:=by
 rcases r with r|⟨o,r⟩
 ·exact x a u r
 ·obtain⟨_,q⟩:=x a _ r;exact q
noncomputable def BJ:Option HO->Prop
 |some (.lst _)=>True
 |some (.dK _)=>True
 |some (.dT _)=>True
 |some (.set _ _)=>True
 |some (.ins _ _ _)=>True
 |some (.ext _)=>True
 |_=>False
theorem fL.write{h':Heap}(n:fL P w H h)(g:BJ (H x))(l:e=x\/H e=some (.own x))(k:∀b u,b≠e->h.get? b=some u->h'.get? b=some u)(j:∃u,h'.get? e=some u)
  (i:ar P w (aq H x o') h' x o'):fL P w (aq H x o') h':=λb u q=>by
 have a:∀c y,H c=some (.own y)->c≠x:=λc y r z=>by subst z;rw[r] at g;exact g
 have d:∀c f,H c=some (.tup f)->c≠x:=λc f r z=>by subst z;rw[r] at g;exact g
 by_cases hb:b=x
 ·subst hb;rw[zu] at q;cases q;exact i
 ·rw[zq hb] at q;by_cases hbe:b=e
  ·have m:H b=some (.own x):=by
    rcases l with z|z
    ·exact absurd (hbe.trans z) hb
    ·rw[hbe];exact z
   rw[q] at m;cases m
   obtain⟨v,o⟩:=j;exact⟨v,by rw[hbe];exact o⟩
  ·refine(n b u q).stay (λc v hc r=>k c v ?_ r) (λc r=>by rw[zq (a c b r)];exact r) λc f r=>by rw[zq (d c f r)];exact r
   rcases hc with rfl|hc
   ·exact hbe
   ·rintro rfl;rcases l with z|z
    ·exact a c b hc z
    ·rw[hc] at z;cases z;exact hb rfl
structure Un (fs ex:List Addr) (H H':Hp) (h h':Heap):Prop where
 keep:∀b o,h.get? b=some o->H b=none->b∉fs->b∉ex->h'.get? b=some o
 slot:∀b o,h.get? b=some o->H b=none->b∈fs->b∉ex->∃sl,h'.get? b=some {o with slots:=sl}
 free:∀b o,h.get? b=some o->H b=none->b∉ex->H' b=none
 there:∀b o,h.get? b=some o->b∉ex->∃o',h'.get? b=some o'
 tups:∀b xs,H b=some (.tup xs)->H' b=some (.tup xs)
 frzs:∀b o u,H b=some (.frz o u)->H' b=some (.frz o u)
 tbls:∀b ps,H b=some (.tbl ps)->∃more,H' b=some (.tbl (ps++more))
theorem Un.any(u:Un fs ex H H1 h h1) (q:h.get? b=some ob)(n:H b=none)(a:b∉ex):∃c,h1.get? b=some {ob with slots:=c}:=by
 by_cases hb:b∈fs
 ·exact u.slot b ob q n hb a
 ·exact⟨ob.slots,u.keep b ob q n hb a⟩
theorem Un.kept{h:Heap}{h':Heap}(k:∀b u,h.get? b=some u->h'.get? b=some u):Un fs ex H H h h':=
 ⟨λb a q _ _ _=>k b a q,λb a q _ _ _=>⟨a.slots,k b a q⟩,λ_ _ _ n _=>n,λb a q _=>⟨a,k b a q⟩,λ_ _ q=>q,λ_ _ _ q=>q,λ_ c q=>⟨#[],by rw[q];simp⟩⟩
theorem Un.refl:Un fs ex H H h h:=Un.kept λ_ _ q=>q
section
variable {fs:List Addr}{ex:List Addr}{H:Hp}{h:Heap}{h':Heap}{a:Addr}{o:HO}
theorem Un.laid(k:∀b u,h.get? b=some u->h'.get? b=some u)(e:h.objs.size<=a)(c:H a=none):Un fs ex H (aq H a o) h h' where
 keep:=λb u q _ _ _=>k b u q
 slot:=λb u q _ _ _=>⟨u.slots,k b u q⟩
 free:=λb u q n _=>by rw[zq (dY (df (cJ q) e))];exact n
 there:=λb u q _=>⟨u,k b u q⟩
 tups:=λb d q=>by rw[zq (zr q c)];exact q
 frzs:=λb u d q=>by rw[zq (zr q c)];exact q
 tbls:=λb f q=>⟨#[],by rw[zq (zr q c),q];simp⟩
end
theorem Un.write{h:Heap}{h':Heap}(a:BJ (H x))(i:e=x\/H e=some (.own x))(k:∀b u,b≠e->h.get? b=some u->h'.get? b=some u)(c:∃u,h'.get? e=some u):Un fs ex H (aq H x o) h h':=by
 have g:∀b,H b=none->b≠x:=λb n z=>by subst z;rw[n] at a;exact a
 have f:∀b,H b=none->b≠e:=λb n z=>by
  subst z;rcases i with r|r
  ·exact g b n r
  ·rw[n] at r;cases r
 have d:∀b u,H b=some u->¬ BJ (some u)->b≠x:=λb u q l z=>by subst z;rw[q] at a;exact l a
 refine⟨λb u q n _ _=>k b u (f b n) q,λb u q n _ _=>⟨u.slots,k b u (f b n) q⟩,λb u q n _=>by rw[zq (g b n)];exact n,λb u q _=>?_,
  λb j q=>by rw[zq (d b _ q λz=>z)];exact q,λb u j q=>by rw[zq (d b _ q λz=>z)];exact q,λb m q=>⟨#[],by rw[zq (d b _ q λz=>z),q];simp⟩⟩
 by_cases hbe:b=e
 ·subst hbe;exact c
 ·exact⟨u,k b u hbe q⟩
def D0(h:Heap) (H:Hp):List Addr:=(List.range h.objs.size).filter λa=>(H a).isSome
def i6(h:Heap) (H:Hp):Heap:=W.hideAll h (D0 h H)
theorem Nw(h:Heap)(H:Hp):(i6 h H).objs.size=h.objs.size:=W.hideAll_size _ _
theorem LH{h:Heap}(e:h.get? b=some o)(n:H b=none):(i6 h H).get? b=some o:=
 W.hideAll_get _ e λa=>by
  have q:(H b).isSome=true:=(gA.mp a).2;rw[n] at q;simp at q
theorem J2(e:(i6 h H).get? b=some o):h.get? b=some o/\H b=none:=by
 have a:h.get? b=some o:=W.of_hideAll (D0 h H) e;refine⟨a,?_⟩;cases q:H b with
 |none=>rfl
 |some x=>
  have c:b∈D0 h H:=gA.mpr ⟨bO.mpr (cJ a),by simp[q]⟩;have z:(i6 h H).get? b=none:=W.hideAll_none (D0 h H) c;rw[z] at e;cases e
structure Mod (K:Fg) (mg:Str->Option Value) (base:Heap):Prop where
 kin:K.In base
 glob:base.Ns mainGlobals mg
 blt:∃ mb,base.Ns builtinsNs mb/\∀ x:Str,x≠"__name__"->mb x=bootBuiltins x
 nolimit:base.NoLimit
structure Cx where
 prog:Program
 w:World
 K:Fg
 mg:Str->Option Value
 base:Heap
 A:Around
 N:List Str
 s₀:Shared
 H₀:Hp
 env:Env
 outer:List Env
 stack:List Env
 ex:List Addr
 fn:Str->Bool
 calm:Bool
 pn:List (Addr×Obj)
 xe:Value->Shared->Prop
noncomputable def kQ(l:List Env):List Addr:=l.filterMap (·.frame)
abbrev Cx.fs(X:Cx):List Addr:=kQ X.outer
noncomputable def vc(a:Scope) (x:Str):Prop:=a.names.lookup x=some .local\/a.names.lookup x=some .cell\/a.names.lookup x=some .free
noncomputable def Loc(a:Scope) (x:Str):Prop:=a.names.lookup x=some .local\/a.names.lookup x=some .cell
noncomputable def Look(a:Env) (h:Heap) (m:Str->Option Value) (x:Str) (u:Value):Prop:=
 (a.kindOf x=some .local/\m x=some u)\/((a.kindOf x=some .cell\/a.kindOf x=some .free)/\∃c,a.cells.lookup x=some c/\h.IsCell c (some u))
structure Cx.Ok (X:Cx):Prop where
 mod:Mod X.K X.mg X.base
 kind:X.env.scope.kind=.function
 glob:X.env.globals=mainGlobals
 blt:X.env.builtins=builtinsNs
 above:X.s₀.heap.objs.size<=X.env.locals
 inj:∀x y c,X.env.cells.lookup x=some c->X.env.cells.lookup y=some c->x=y
 has:∀x,(X.env.kindOf x=some .cell\/X.env.kindOf x=some .free)->∃c,X.env.cells.lookup x=some c
 cab:∀x c,X.fn x=true->X.env.cells.lookup x=some c->X.s₀.heap.objs.size<=c
 hd:X.calm=true->X.A.handled=none
 frames:X.A.frames=some X.stack
 stk:X.stack=X.outer\/(X.stack=X.env::X.outer/\X.env.frame=some X.env.locals)
 exf:∀b∈X.ex,b≠X.env.locals/\∀x c,X.env.cells.lookup x=some c->c≠b
 bs:∀b o,X.base.get? b=some o->X.s₀.heap.get? b=some o/\X.H₀ b=none
 bsz:X.base.objs.size<=X.s₀.heap.objs.size
 noex:∀b o,X.base.get? b=some o->b∉X.ex
 exfs:∀b∈X.ex,b∉X.fs
 funs:X.s₀.heap.FunFrames X.base X.outer
 frf:∀b∈X.fs,X.H₀ b=none
def uc(A:Around) (H:Hp):Prop:=∀v,A.handled=some v->∃a o,v=.ref a/\H a=some (.frz o (.ext λ_=>True))/\∃b,o.data=.fields b/\b[2]?=some .none
theorem uc.map(h:uc A H)(f:∀b o u,H b=some (.frz o u)->H' b=some (.frz o u)):uc A H':=λv e=>let ⟨a,o,h1,h2,h3⟩:=h v e;⟨a,o,h1,f _ _ _ h2,h3⟩
theorem uc.none{A:Around}(h:A.handled=.none):uc A H:=λv e=>by rw[h] at e;cases e
structure Inv (X:Cx) (aW:List (Addr×Obj)) (σ:List (Option V)) (H:Hp) (s:Shared):Prop where
 ok:X.Ok
 os:s.os=X.s₀.os
 bare:AllBare s.gens
 base:Un X.fs X.ex X.H₀ H X.s₀.heap s.heap
 loc:∃m,s.heap.Ns X.env.locals m/\∀(i:Nat) (x:Str) (v:V),X.N[i]?=some x->σ[i]?=some (some v)->vc X.env.scope x->∃u,RelV v u/\Look X.env s.heap m x u
 cell:∀x c,X.env.cells.lookup x=some c->∃v,s.heap.IsCell c v
 free:H X.env.locals=none
 freeC:∀x c,X.env.cells.lookup x=some c->H c=none
 pin:∀p∈X.pn++aW,s.heap.get? p.1=some p.2/\H p.1=none/\p.1≠X.env.locals/\p.1∉X.fs/\∀v,p.2.data≠.cell v
 hok:fL X.prog X.w H s.heap
 len:σ.length=X.N.length
 hnd:uc X.A H
theorem Cx.Ok.nofr{X:Cx}(a:X.Ok) (e:X.base.get? b=some o):b∉X.fs:=λc=>by
 have:=(a.funs.mem c).1;rw[e] at this;cases this
theorem Inv.bs(I:'&'):∀b o,X.base.get? b=some o->s.heap.get? b=some o/\H b=none:=λb o e=>
 ⟨I.base.keep b o (I.ok.bs b o e).1 (I.ok.bs b o e).2 (I.ok.nofr e) (I.ok.noex b o e),I.base.free b o (I.ok.bs b o e).1 (I.ok.bs b o e).2 (I.ok.noex b o e)⟩
theorem Inv.bk(I:'&'):∀b o,X.base.get? b=some o->s.heap.get? b=some o:=λb o e=>(I.bs b o e).1
theorem Inv.mod(I:'&'):Mod X.K X.mg X.base:=I.ok.mod
theorem Inv.kIn(I:'&'):X.K.In s.heap:=I.ok.mod.kin.keeps I.bk
theorem Inv.lt(I:'&'):X.env.locals<s.heap.objs.size:=let ⟨_,hn,_⟩:=I.loc;hn.lt
theorem Inv.sz(I:'&'):X.s₀.heap.objs.size<=s.heap.objs.size:=ax I.ok.above (dL I.lt)
theorem Inv.nofs(I:'&') (h:s.heap.objs.size<=a):a∉X.fs:=λc=>by
 obtain⟨_,o,b,_⟩:=I.ok.funs.mem c;exact absurd (df (cJ b) (ax I.sz h)) (o0 _)
theorem Inv.cne(I:'&'):∀x c,X.env.cells.lookup x=some c->c≠X.env.locals:=λx c e z=>by
 obtain⟨v,o,d,f⟩:=I.cell x c e;obtain⟨m,⟨i,h,g,b,a,_⟩,_⟩:=I.loc;rw[z,b] at d;cases d;rw[a] at f;cases f
theorem Inv.funs(I:'&'):s.heap.FunFrames X.base X.outer:=by
 have all:∀(l:List Env),(∀b∈kQ l,b∈X.fs)->X.s₀.heap.FunFrames X.base l->s.heap.FunFrames X.base l:=by
  intro l
  induction l with
  |nil=>intro _ _;trivial
  |cons env r ih=>
   intro f m;obtain⟨h,⟨L,o,c,j,i,k⟩,g⟩:=m;have d:L∈X.fs:=f L (by unfold kQ;rw[DB,c];exact eF);obtain⟨n,e⟩:=I.base.slot L o i (I.ok.frf L d) d λz=>I.ok.exfs L z d
   exact⟨h,⟨L,_,c,j,e,k⟩,ih (λb a=>f b (by unfold kQ;rw[DB,c];exact cH _ a)) g⟩
 exact all X.outer (λ_ a=>a) I.ok.funs
theorem Inv.stack(I:'&'):s.heap.FunFrames X.base X.stack:=by
 rcases I.ok.stk with e|⟨e,a⟩
 ·rw[e];exact I.funs
 ·rw[e];obtain⟨m,b,_⟩:=I.loc;refine .cons (by rw[I.ok.kind];decide) a b ?_ I.funs;exact Heap.get?_none_of_le (ax I.ok.bsz I.ok.above)
theorem Inv.stkSub(I:'&'):∀b∈kQ X.stack,b∈X.env.locals::X.fs:=λb a=>by
 rcases I.ok.stk with e|⟨e,c⟩
 ·rw[e] at a;exact cH _ a
 ·rw[e] at a;unfold kQ at a;rw[DB,c] at a;exact a
theorem Inv.stkFree(I:'&'):∀b∈kQ X.stack,H b=none:=λb hb=>by
 rcases bT.mp (I.stkSub b hb) with e|hb
 ·rw[e];exact I.free
 ·obtain⟨_,o,a,_⟩:=I.ok.funs.mem hb;exact I.base.free b o a (I.ok.frf b hb) λz=>I.ok.exfs b z hb
section
variable {X:Cx}{aW:List (Addr×Obj)}{σ:List (Option V)}{H:Hp}{H':Hp}{s:Shared}{h':Heap}
theorem Inv.step{g':Array GenState}{t':Nat}{d':Drawn}{ch:List Addr}(I:'&')
  (f:∀b∈ch,(b∈X.ex\/X.s₀.heap.objs.size<=b)/\b≠X.env.locals/\(∀x c,X.env.cells.lookup x=some c->c≠b)/\∀p∈X.pn++aW,p.1≠b)
  (g:∀b o,b≠X.env.locals->b∉X.fs->b∉ch->s.heap.get? b=some o->H b=none->h'.get? b=some o)
  (y:∀b o,b≠X.env.locals->b∈X.fs->b∉ch->s.heap.get? b=some o->H b=none->∃sl,h'.get? b=some {o with slots:=sl})(free:∀b o,b∉ch->s.heap.get? b=some o->H b=none->H' b=none)
  (G:∀b o,b∉ch->s.heap.get? b=some o->∃R,h'.get? b=some R)
  (P:∀b C,H b=some (.tup C)->H' b=some (.tup C))(A:∀b o u,H b=some (.frz o u)->H' b=some (.frz o u))(S:∀b Y,H b=some (.tbl Y)->∃Q,H' b=some (.tbl (Y++Q)))
  (ns:∀m,s.heap.Ns X.env.locals m->h'.Ns X.env.locals m)(a2:fL X.prog X.w H' h')(hg:AllBare g'):
  Inv X aW σ H' {s with heap:=h',gens:=g',drawn:=d',toks:=t'}:=by
 have U:∀b o,X.s₀.heap.get? b=some o->b≠X.env.locals:=λb o e=>dY (df (cJ e) I.ok.above)
 have w:∀b o,X.s₀.heap.get? b=some o->b∉X.ex->b∉ch:=λb o e a E=>by
  rcases(f b E).1 with z|z
  ·exact a z
  ·exact absurd (df (cJ e) z) (o0 _)
 have h:∀x c,X.env.cells.lookup x=some c->∀v,s.heap.IsCell c v->h'.IsCell c v:=λx c e v a1=>by
  obtain⟨o,J,hd⟩:=a1;have j:c∉ch:=λz=>(f c z).2.2.1 x c e rfl
  by_cases hc:c∈X.fs
  ·obtain⟨sl,q⟩:=y c o (I.cne x c e) hc j J (I.freeC x c e);exact⟨_,q,hd⟩
  ·exact⟨o,g c o (I.cne x c e) hc j J (I.freeC x c e),hd⟩
 refine⟨I.ok,I.os,hg,⟨λb o e n E a=>?_,λb o e n E a=>?_,λb o e n a=>?_,λb o e a=>?_,λb C e=>P b C (I.base.tups b C e),λb o C e=>A b o C (I.base.frzs b o C e),λb Y e=>?_⟩,?_,λx c e=>?_,?_,λx c e=>?_,λp hp=>?_,a2,I.len,I.hnd.map A⟩
 ·exact g b o (U b o e) E (w b o e a) (I.base.keep b o e n E a) (I.base.free b o e n a)
 ·obtain⟨sl,t⟩:=I.base.slot b o e n E a;obtain⟨a0,T⟩:=y b _ (U b o e) E (w b o e a) t (I.base.free b o e n a);exact⟨a0,T⟩
 ·obtain⟨R,t⟩:=I.base.there b o e a;exact free b R (w b o e a) t (I.base.free b o e n a)
 ·obtain⟨R,t⟩:=I.base.there b o e a;exact G b R (w b o e a) t
 ·obtain⟨m1,t⟩:=I.base.tbls b Y e;obtain⟨m2,T⟩:=S b _ t;exact⟨m1++m2,by rw[T,Array.append_assoc]⟩
 ·obtain⟨m,hn,hl⟩:=I.loc;refine⟨m,ns m hn,λi x v t T e3=>?_⟩;obtain⟨u,r,l⟩:=hl i x v t T e3;refine⟨u,r,?_⟩;rcases l with l|⟨k,c,e,z⟩
  ·exact .inl l
  ·exact .inr ⟨k,c,e,h x c e _ z⟩
 ·obtain⟨v,z⟩:=I.cell x c e;exact⟨v,h x c e v z⟩
 ·obtain⟨m,⟨o,_,_,J,_⟩,_⟩:=I.loc;exact free _ o (λz=>(f _ z).2.1 rfl) J I.free
 ·obtain⟨v,o,J,hd⟩:=I.cell x c e;exact free c o (λz=>(f c z).2.2.1 x c e rfl) J (I.freeC x c e)
 ·obtain⟨e,n,ne,nf,d⟩:=I.pin p hp;have j:p.1∉ch:=λz=>(f p.1 z).2.2.2 p hp rfl
  exact⟨g p.1 p.2 ne nf j e n,free p.1 p.2 j e n,ne,nf,d⟩
theorem Inv.un{t':Nat}(I:'&')(u:Un X.fs [] H H' s.heap h')(f:fL X.prog X.w H' h'):Inv X aW σ H' {s with heap:=h',toks:=t'}:=by
 obtain⟨m,⟨o,t,q,h,r⟩,_⟩:=id I.loc;obtain⟨l,j⟩:=u.any h I.free '%'
 exact I.step (g':=s.gens) (d':=s.drawn) (ch:=[]) (λ_ z=>nomatch z) (λb o _ c _ e n=>u.keep b o e n c '%') (λb o _ c _ e n=>u.slot b o e n c '%') (λb o _ e n=>u.free b o e n '%') (λb o _ e=>u.there b o e '%') u.tups u.frzs u.tbls (λp i=>by
  obtain⟨v,d,g,a,k⟩:=i;rw[h] at a;cases a
  exact⟨_,d,g,j,k⟩) f I.bare
theorem Inv.call{g':Array GenState}{t':Nat}{d':Drawn}{ch:List Addr}(I:'&')(u:Un (kQ X.stack) ch H H' s.heap h')(h:fL X.prog X.w H' h')(t:AllBare g')
  (f:∀b∈ch,(b∈X.ex\/X.s₀.heap.objs.size<=b)/\b≠X.env.locals/\(∀x c,X.env.cells.lookup x=some c->c≠b)/\∀p∈X.pn++aW,p.1≠b):
  Inv X aW σ H' {s with heap:=h',gens:=g',drawn:=d',toks:=t'}:=by
 obtain⟨m,⟨o,C,A,k,r⟩,_⟩:=id I.loc;obtain⟨w,j⟩:=u.any k I.free λz=>(f _ z).2.1 rfl
 exact I.step (ch:=ch) f (λb o j l a e n=>u.keep b o e n (λz=>(bT.mp (I.stkSub b z)).elim j l) a) (λb o _ _ a e n=>u.any e n a) (λb o a e n=>u.free b o e n a) (λb o a e=>u.there b o e a) u.tups u.frzs u.tbls (λy q=>by
  obtain⟨E,g,i,d,v⟩:=q;rw[k] at d;cases d
  exact⟨_,g,i,j,v⟩) h t
end
section
variable {X:Cx}{aW:List (Addr×Obj)}{σ:List (Option V)}{H:Hp}{s:Shared}{h':Heap}
theorem Inv.turned{t':Nat}{it:Addr}(I:'&')(k:∀b o,b≠it->s.heap.get? b=some o->h'.get? b=some o)(t:H it=none)(f:it≠X.env.locals)
  (A:it∈X.ex\/X.s₀.heap.objs.size<=it)(y:∀x c,X.env.cells.lookup x=some c->c≠it)(h:∀p∈X.pn++aW,p.1≠it):Inv X aW σ H {s with heap:=h',toks:=t'}:=by
 have d:∀b u,H b=some u->b≠it:=λb u e z=>by rw[z,t] at e;cases e
 refine I.step (g':=s.gens) (d':=s.drawn) (ch:=[it]) (λb g=>?_) (λb o _ _ a e _=>k b o (λz=>a (by simp[z])) e) (λb o _ _ a e _=>⟨o.slots,k b o (λz=>a (by simp[z])) e⟩) (λ_ _ _ _ n=>n)
  (λb o a e=>⟨o,k b o (λz=>a (by simp[z])) e⟩) (λ_ _ e=>e) (λ_ _ _ e=>e) (λb C e=>⟨#[],by rw[e];simp⟩) (λm i=>?_) (λb u e=>?_) I.bare
 ·have e:b=it:=by simpa using g
  subst e;exact⟨A,f,y,h⟩
 ·obtain⟨o,w,j,l,r⟩:=i;exact⟨o,w,j,k _ o (cO f) l,r⟩
 ·refine(I.hok b u e).stay (λc v a q=>k c v ?_ q) (λ_ q=>q) λ_ _ q=>q
  rcases a with z|z
  ·rw[z];exact d b u e
  ·exact d c _ z
end
theorem Inv.tok(I:'&')(t:Nat):Inv X aW σ H {s with toks:=t}:=I.un (h':=s.heap) (t':=t) Un.refl I.hok
theorem Inv.kept{h':Heap}(I:'&')(k:∀b u,s.heap.get? b=some u->h'.get? b=some u):Inv X aW σ H {s with heap:=h',toks:=t'}:=I.un (Un.kept k) (I.hok.kept k)
theorem Inv.laid{d:Heap}(I:'&')(k:∀b u,s.heap.get? b=some u->d.get? b=some u)(e:s.heap.objs.size<=a)(c:ar X.prog X.w (aq H a o) d a o):
 Inv X aW σ (aq H a o) {s with heap:=d,toks:=t'}:=I.un (Un.laid k e (I.hok.fresh e)) (I.hok.laid k e c)
theorem Inv.write{c:Heap}(I:'&')(g:BJ (H x))(f:e=x\/H e=some (.own x))(k:∀b u,b≠e->s.heap.get? b=some u->c.get? b=some u)(a:∃u,c.get? e=some u)
 (d:ar X.prog X.w (aq H x o) c x o):Inv X aW σ (aq H x o) {s with heap:=c,toks:=t'}:=I.un (Un.write g f k a) (I.hok.write g f k a d)
theorem Inv.pins_of(I:'&')(h:∀p∈a,s.heap.get? p.1=some p.2/\H p.1=none/\p.1≠X.env.locals/\p.1∉X.fs/\∀v,p.2.data≠.cell v):Inv X a σ H s:=
 ⟨I.ok,I.os,I.bare,I.base,I.loc,I.cell,I.free,I.freeC,λp b=>(fh.mp b).elim (λz=>I.pin p (uU _ z)) (h p),I.hok,I.len,I.hnd⟩
theorem Qg{N:List Str}(c:N.Nodup){i j:Nat}{x:Str}(a:N[i]?=some x)(b:N[j]?=some x):i=j:=by
 obtain⟨g,e⟩:=cK.mp a;obtain⟨f,d⟩:=cK.mp b;exact(Do c).mp (e.trans d.symm)
theorem Rc{s:Shared}{M:Model}{i:Nat}{x:Str}(I:'&')(hN:X.N.Nodup)(S:X.N[i]?=some x)(t:Loc X.env.scope x)(r:RelV v u)
  (h:∀s',Inv X aW (σ.set i (some v)) H s'->(∃a,Heap.SameBut a s.heap s'.heap/\(a=X.env.locals\/X.env.cells.lookup x=some a))->Q () s')(hf:X.fn x=true\/X.env.scope.names.lookup x=some .local:=by first|exact .inl rfl|exact .inr rfl|assumption):wpAny M A (storeName X.env x u) Q E s:=by
 obtain⟨m,hn,hl⟩:=id I.loc;have U:(X.env.scope.kind==.class||(X.env.scope.kind==.module&&X.env.locals != X.env.globals))=false:=by rw[I.ok.kind];rfl
 have G:i < σ.length:=by rw[I.len];exact(cK.mp S).1
 have R:=I.cne;have g:∀{a:Addr}{h':Heap},(∃o,s.heap.get? a=some o/\H a=none)->Heap.SameBut a s.heap h'->fL X.prog X.w H h':=λ{a h'} ha f b ob e=>by
  obtain⟨_,_,w⟩:=ha;refine(I.hok b ob e).stay (λc w' hc q=>(f.2 c ?_).trans q) (λ_ q=>q) λ_ _ q=>q
  rintro rfl;rcases hc with rfl|hc
  ·rw[w] at e;cases e
  ·rw[w] at hc;cases hc
 rcases t with hk|hk
 ·refine wpAny_storeName_local hk hn (λh' a1 f=>?_) U;obtain⟨oL,_,_,a2,_⟩:=id hn;refine h _ ⟨I.ok,I.os,I.bare,⟨λb o e n P t=>?_,λb o e n P t=>?_,I.base.free,λb o e t=>?_,I.base.tups,I.base.frzs,I.base.tbls⟩,⟨_,a1,λj y v' l C e3=>?_⟩,λy c e=>?_,I.free,I.freeC,λp hp=>?_,g ⟨oL,a2,I.free⟩ f,by simpa using I.len,I.hnd⟩ ⟨_,f,.inl rfl⟩
  ·exact(f.2 b (dY (df (cJ e) I.ok.above))).trans (I.base.keep b o e n P t)
  ·obtain⟨sl,l⟩:=I.base.slot b o e n P t;exact⟨sl,(f.2 b (dY (df (cJ e) I.ok.above))).trans l⟩
  ·obtain⟨o',l⟩:=I.base.there b o e t;exact⟨o',(f.2 b (dY (df (cJ e) I.ok.above))).trans l⟩
  ·by_cases hj:j=i
   ·subst hj;rw[S] at l;cases l
    rw[pq G] at C;cases C;exact⟨u,r,.inl ⟨hk,by simp⟩⟩
   ·rw[fj (cO hj)] at C;obtain⟨u',r',q⟩:=hl j y v' l C e3;refine⟨u',r',?_⟩;rcases q with⟨k,e⟩|⟨k,c,e,z⟩
    ·refine .inl ⟨k,?_⟩;have:y≠x:=λe=>hj (Qg hN l (e ▸ S))
     simp[this,e]
    ·exact .inr ⟨k,c,e,z.sameBut f (R y c e)⟩
  ·obtain⟨w',z⟩:=I.cell y c e;exact⟨w',z.sameBut f (R y c e)⟩
  ·obtain⟨e,n,ne,nf,d⟩:=I.pin p hp;exact⟨(f.2 p.1 ne).trans e,n,ne,nf,d⟩
 ·have J:X.fn x=true:=by
   rcases hf with z|z
   ·exact z
   ·rw[z] at hk;cases hk
  obtain⟨c,hc⟩:=I.ok.has x (.inl hk);obtain⟨w',z⟩:=I.cell x c hc;refine wpAny_storeName_cell I.ok.kind hk hc z (λh' T f=>?_);obtain⟨oc,a0,Y⟩:=id z;refine h {s with heap:=h'} ⟨I.ok,I.os,I.bare,⟨λb o e n P t=>?_,λb o e n P t=>?_,I.base.free,λb o e t=>?_,I.base.tups,I.base.frzs,I.base.tbls⟩,⟨m,hn.sameBut f (cO (R x c hc)),λj y v' l C e3=>?_⟩,λy c' e=>?_,I.free,I.freeC,λp hp=>?_,g ⟨oc,a0,I.freeC x c hc⟩ f,by simpa using I.len,I.hnd⟩ ⟨c,f,.inr hc⟩
  ·exact(f.2 b (dY (df (cJ e) (I.ok.cab x c J hc)))).trans (I.base.keep b o e n P t)
  ·obtain⟨sl,l⟩:=I.base.slot b o e n P t;exact⟨sl,(f.2 b (dY (df (cJ e) (I.ok.cab x c J hc)))).trans l⟩
  ·obtain⟨o',l⟩:=I.base.there b o e t;exact⟨o',(f.2 b (dY (df (cJ e) (I.ok.cab x c J hc)))).trans l⟩
  ·by_cases hj:j=i
   ·subst hj;rw[S] at l;cases l
    rw[pq G] at C;cases C;exact⟨u,r,.inr ⟨.inl hk,c,hc,T⟩⟩
   ·rw[fj (cO hj)] at C;obtain⟨u',r',q⟩:=hl j y v' l C e3;refine⟨u',r',?_⟩;rcases q with q|⟨k,c',e,z'⟩
    ·exact .inl q
    ·refine .inr ⟨k,c',e,z'.sameBut f ?_⟩;rintro rfl;exact hj (Qg hN l (I.ok.inj _ _ _ e hc ▸ S))
  ·by_cases hcc:c'=c
   ·subst hcc;exact⟨_,T⟩
   ·obtain⟨w2,z2⟩:=I.cell y c' e;exact⟨w2,z2.sameBut f hcc⟩
  ·obtain⟨e,n,ne,nf,d⟩:=I.pin p hp;refine⟨(f.2 p.1 ?_).trans e,n,ne,nf,d⟩;intro q;rw[q,a0] at e;have q':oc=p.2:=fY e;exact d w' (by rw[←q'];exact Y)
theorem E6{M:Model}(I:'&')(b:X.N.Nodup)(c:X.N[i]?=some x)(e:Loc X.env.scope x)(r:RelV v u)
  (h:∀a,Inv X aW (σ.set i (some v)) H a->Q () a)(d:X.fn x=true\/X.env.scope.names.lookup x=some .local:=by first|exact .inl rfl|exact .inr rfl|assumption):wpAny M A (storeName X.env x u) Q E s:=
 Rc I b c e r (λa f _=>h a f) d
theorem Inv.call'{s':Shared}{i:List Addr}(I:Inv X j σ H s)(k:s'.os=s.os)(u:Un (kQ X.stack) i H H' s.heap s'.heap)(a:fL X.prog X.w H' s'.heap)(m:AllBare s'.gens)
  (d:∀b∈i,(b∈X.ex\/X.s₀.heap.objs.size<=b)/\b≠X.env.locals/\(∀x c,X.env.cells.lookup x=some c->c≠b)/\∀p∈X.pn++j,p.1≠b):Inv X j σ H' s':=by
 obtain⟨n,f,h,g,l⟩:=s';have e:l=s.os:=k;subst e;exact I.call (g':=f) (t':=g) (d':=h) u a m d
abbrev XK:=Value->Option Addr->Hp->Prop
noncomputable abbrev St:=List (Option V)
abbrev VK:=V->Hp->Prop
abbrev TE:=St->Hp->VK->Prop
abbrev TT:=St->Hp->(Bool->Hp->Prop)->Prop
abbrev TA:=St->Hp->(List V->Hp->Prop)->Prop
structure l4 where
 nx:St->Hp->Prop
 rt:VK
 bk:St->Hp->Prop:=λ_ _=>False
 ct:St->Hp->Prop:=λ_ _=>False
abbrev TS:=l4->St->Hp->Prop
def EP(X:Cx) (b:List (Addr×Obj)) (c:St) (Q:VK) (u:Value) (d:Shared):Prop:=∃v a,Inv X b c a d/\RelV v u/\Q v a
def TP(X:Cx) (c:List (Addr×Obj)) (d:St) (Q:Bool->Hp->Prop) (b:Bool) (e:Shared):Prop:=∃a,Inv X c d a e/\Q b a
def AP(X:Cx) (e:List (Addr×Obj)) (c:St) (Q:List V->Hp->Prop) (d:List Value) (f:Shared):Prop:=∃a b,Inv X e c b f/\ah a d/\Q a b
def SP(X:Cx) (c:List (Addr×Obj)) (D:l4) (f:Flow) (d:Shared):Prop:=
 match f with
 |.next=>∃a b,Inv X c a b d/\D.nx a b
 |.brk=>∃a b,Inv X c a b d/\D.bk a b
 |.cont=>∃a b,Inv X c a b d/\D.ct a b
 |.ret u=>∃v a b,Inv X c a b d/\RelV v u/\D.rt v b
def PE(X:Cx) (e:Expr) (t:TE):Prop:=
 ∀(b:List (Addr×Obj)) (s:Shared) (a:St) (H:Hp) (Q:VK),Inv X b a H s->t a H Q->wpAny '#' X.A (eval e X.env) (EP X b a Q) X.xe s
def PT(X:Cx) (e:Expr) (t:TT):Prop:=
 ∀(b:List (Addr×Obj)) (s:Shared) (a:St) (H:Hp) (Q:Bool->Hp->Prop),Inv X b a H s->t a H Q->wpAny '#' X.A (isTrue e X.env (eval e X.env)) (TP X b a Q) X.xe s
def PW(X:Cx) (e:Expr) (t:TT):Prop:=
 ∀(a:Sem Value) (c:List (Addr×Obj)) (s:Shared) (b:St) (H:Hp) (Q:Bool->Hp->Prop),Inv X c b H s->t b H Q->wpAny '#' X.A (isTrue e X.env a) (TP X c b Q) X.xe s
theorem PW.pt(h:PW X e t):PT X e t:=h _
def PA(X:Cx) (d:List Expr) (t:TA):Prop:=
 ∀(a:Pos) (c:List (Addr×Obj)) (s:Shared) (b:St) (H:Hp) (Q:List V->Hp->Prop),Inv X c b H s->t b H Q->wpAny '#' X.A (spliced (backTo a (starEach d X.env))) (AP X c b Q) X.xe s
def PS(X:Cx) (c:Stmt) (t:TS):Prop:=
 ∀(b:List (Addr×Obj)) (s:Shared) (a:St) (H:Hp) (D:l4),Inv X b a H s->t D a H->wpAny '#' X.A (exec c X.env) (SP X b D) X.xe s
def jJ(X:Cx) (c:List Stmt) (t:TS):Prop:=
 ∀(b:List (Addr×Obj)) (s:Shared) (a:St) (H:Hp) (D:l4),Inv X b a H s->t D a H->wpAny '#' X.A (execs c X.env) (SP X b D) X.xe s
theorem aZ{b:Type}{t:Sem b}{Q c:b->Shared->Prop}{M:Model}(h:wpAny M A t Q E s)(d:∀a s,Q a s->c a s):wpAny M A t c E s:=iU h d λ_ _ x=>x
def py(i:Nat):TE:=λa H Q=>∃v,a[i]?=some (some v)/\Q v H
def tC(v:V):TE:=λ_ H Q=>Q v H
theorem Ic{X:Cx}(j:X.N[i]?=some x)(t:vc X.env.scope x)(f:(x==("__debug__" : Str))=false:=by decide)(d:(x==("__classdict__" : Str))=false:=by decide):PE X (.Name x pos) (py i):=by
 intro q s k H Q I h;obtain⟨v,e,h⟩:=h;obtain⟨m,o,p⟩:=I.loc;obtain⟨u,r,l⟩:=p i x v j e t;have b:EP X q k Q u s:=⟨v,H,I,r,h⟩
 rcases l with⟨hk,n⟩|⟨hk,c,g,a⟩
 ·exact wpAny_Name (wpAny_loadName_local I.ok.kind hk o n b) f
 ·rcases hk with hk|hk
  ·exact wpAny_Name (wpAny_loadName_cell I.ok.kind hk g a b) f
  ·exact wpAny_Name (wpAny_loadName_free I.ok.kind hk g a b d) f
theorem HX{i j pos}:PE X (.Constant (.int i) j pos) (tC (.int i)):=λ_ _ _ H _ I h=>wpAny_Constant_int ⟨.int i,H,I.tok _,⟨_,rfl⟩,h⟩
theorem Gn{b j pos}:PE X (.Constant (.bool b) j pos) (tC (.bl b)):=λ_ _ _ H _ I h=>Constant_bool ⟨.bl b,H,I,rfl,h⟩
theorem HY{j pos}:PE X (.Constant .none j pos) (tC .non):=λ_ _ _ H _ I h=>Constant_none ⟨.non,H,I,rfl,h⟩
noncomputable def Gl(X:Cx) (x:Str):Prop:=X.env.kindOf x=some .globalImplicit
theorem Ep(I:'&')(b:Gl X x)(a:X.mg x=some u)(h:Q u s)
  (c:(x==("__debug__" : Str))=false:=by decide):wpAny '#' X.A (eval (.Name x pos) X.env) Q E s:=
 Calls.Name_function_global I.ok.kind b (Calls.loadGlobal_global (by rw[I.ok.glob];exact I.mod.glob.keeps I.bk) a h) c
theorem l6(I:'&')(f:Gl X x)(c:X.mg x=none)(g:bootBuiltins x=some u)(h:Q u s)
  (a:x≠"__name__":=by decide)(b:(x==("__debug__" : Str))=false:=by decide):wpAny '#' X.A (eval (.Name x pos) X.env) Q E s:=by
 obtain⟨i,e,d⟩:=I.mod.blt;exact Calls.Name_function_global I.ok.kind f (Calls.loadGlobal_builtin (by rw[I.ok.glob];exact I.mod.glob.keeps I.bk) c (by rw[I.ok.blt];exact e.keeps I.bk) ((d x a).trans g) h) b
theorem EB(b:Gl X x)(a:X.mg x=some u)(r:RelV v u)(c:(x==("__debug__" : Str))=false:=by decide):PE X (.Name x pos) (tC v):=
 λ_ _ _ H _ I h=>Ep I b a ⟨v,H,I,r,h⟩ c
theorem qZ(d:Gl X x)(c:X.mg x=none)(e:bootBuiltins x=some u)(r:RelV v u)(a:x≠"__name__":=by decide)(b:(x==("__debug__" : Str))=false:=by decide):PE X (.Name x pos) (tC v):=
 λ_ _ _ H _ I h=>l6 I d c e ⟨v,H,I,r,h⟩ a b
def PC(X:Cx) (g:CmpOp) (a b:Expr) (t:TE):Prop:=
 ∀(f:List (Addr×Obj)) (s:Shared) (e:St) (H:Hp) (Q:VK),Inv X f e H s->t e H Q ->
  wpAny '#' X.A (eval a X.env) (λv c=>wpAny '#' X.A (eval b X.env) (λu d=>wpAny '#' X.A (compareOp g v u) (EP X f e Q) X.xe d) X.xe c) X.xe s
def tB(t:TE):TT:=λa H Q=>t a H λx H1=>∃c,x=.bl c/\Q c H1
theorem HW(h:PC X op a b t)(f:behindInMarks op b=false:=by first|exact nobehind _ ')' ')'|rfl):PE X (.Compare a [op] [b] pos) t:=λc s d H Q I e=>wpAny_Compare1 (h c s d H Q I e) f
section
variable {X:Cx}{a:Expr}{b:Expr}{pos:Pos}
theorem Iq{f:CmpOp}{t:TE}(h:PC X f a b t)(g:behindInMarks f b=false:=by first|exact nobehind _ ')' ')'|rfl):PT X (.Compare a [f] [b] pos) (tB t):=by
 intro m s i H Q I j;refine wpAny_isTrue_Compare1 (aZ (h m s i H _ I j) λv p g=>aZ g λu r o=>aZ o λc w e=>?_) g;obtain⟨x,H1,k,l,n⟩:=e;obtain⟨d,rfl,q⟩:=n;cases l;exact mQ ⟨H1,k,q⟩
end
def O0(t u:TT):TT:=λa H Q=>t a H λc H1=>if c=true then u a H1 Q else Q false H1
def Wk(t u:TT):TT:=λa H Q=>t a H λc H1=>if c=true then Q true H1 else u a H1 Q
def OQ(t:TT):TT:=λa H Q=>t a H λc H1=>Q (!c) H1
section
variable {X:Cx}{a:Expr}{pos:Pos}{tA:TT}
theorem pE(f:PT X a tA):PW X (.BoolOp .And [a] pos) tA:=by
 intro i d s b H Q I h;refine isTrue_and (aZ (f d s b H Q I h) λc g e=>?_);cases c with
 |true=>exact isTrue_and_nil e
 |false=>exact e
theorem tE(f:PT X a tA):PW X (.BoolOp .Or [a] pos) tA:=by
 intro i d s b H Q I h;refine isTrue_or (aZ (f d s b H Q I h) λc g e=>?_);cases c with
 |false=>exact isTrue_or_nil e
 |true=>exact e
end
section
variable {X:Cx}{a:Expr}{b:Expr}{pos:Pos}{tA:TT}{tB':TT}{rest:List Expr}
theorem tF(m:PT X a tA)(k:PW X (.BoolOp .And (b::rest) pos) tB'):PW X (.BoolOp .And (a::b::rest) pos) (O0 tA tB'):=by
 intro l g s e H Q I h;refine isTrue_and (aZ (m g s e H _ I h) λc j d=>?_);obtain⟨H1,f,i⟩:=d;cases c with
 |true=>exact k l g j e H1 Q f i
 |false=>exact⟨H1,f,i⟩
theorem AF(m:PT X a tA)(k:PW X (.BoolOp .Or (b::rest) pos) tB'):PW X (.BoolOp .Or (a::b::rest) pos) (Wk tA tB'):=by
 intro l g s e H Q I h;refine isTrue_or (aZ (m g s e H _ I h) λc j d=>?_);obtain⟨H1,f,i⟩:=d;cases c with
 |true=>exact⟨H1,f,i⟩
 |false=>exact k l g j e H1 Q f i
end
theorem Ir(e:PT X a tA):PT X (.UnaryOp .Not a pos) (OQ tA):=by
 intro b s d H Q I h;exact isTrue_not (e b s d H (λc H1=>Q (!c) H1) I h)
def zP(d b:TE):TE:=λa H Q=>d a H λx H1=>∃c,x=.bl c/\if c=true then b a H1 Q else Q (.bl false) H1
def OP(d b:TE):TE:=λa H Q=>d a H λx H1=>∃c,x=.bl c/\if c=true then Q (.bl true) H1 else b a H1 Q
def zJ(b:TE):TE:=λa H Q=>b a H λx H1=>∃c,x=.bl c/\Q (.bl (!c)) H1
theorem Ia{op} (h:PE X a t):PE X (.BoolOp op [a] pos) t:=λb s c H Q I d=>BoolOp_one (h b s c H Q I d)
section
variable {X:Cx}{a:Expr}{b:Expr}{ta:TE}{tb:TE}{pos:Pos}{rest:List Expr}
theorem HU(m:PE X a ta)(k:PE X (.BoolOp .And (b::rest) pos) tb):PE X (.BoolOp .And (a::b::rest) pos) (zP ta tb):=by
 intro i s f H Q I h;refine BoolOp_and (aZ (m i s f H _ I h) λv j e=>?_);obtain⟨x,H1,g,l,d⟩:=e;obtain⟨c,rfl,d⟩:=d;cases l;refine mQ ?_;cases c with
 |true=>exact k i j f H1 Q g d
 |false=>exact⟨.bl false,H1,g,rfl,d⟩
theorem Gq(m:PE X a ta)(k:PE X (.BoolOp .Or (b::rest) pos) tb):PE X (.BoolOp .Or (a::b::rest) pos) (OP ta tb):=by
 intro i s f H Q I h;refine BoolOp_or (aZ (m i s f H _ I h) λv j e=>?_);obtain⟨x,H1,g,l,d⟩:=e;obtain⟨c,rfl,d⟩:=d;cases l;refine mQ ?_;cases c with
 |false=>exact k i j f H1 Q g d
 |true=>exact⟨.bl true,H1,g,rfl,d⟩
end
section
variable {X:Cx}{a:Expr}{ta:TE}{pos:Pos}
theorem HZ(j:PE X a ta):PE X (.UnaryOp .Not a pos) (zJ ta):=by
 intro i s e H Q I h;refine UnaryOp_ (aZ (j i s e H _ I h) λv k b=>?_);obtain⟨x,H1,f,g,d⟩:=b;obtain⟨c,rfl,d⟩:=d;cases g;exact not_of (mQ ⟨.bl (!c),H1,f,rfl,d⟩)
end
def Wl(t:TT) (d b:TE):TE:=λa H Q=>t a H λc H1=>if c=true then d a H1 Q else b a H1 Q
section
variable {X:Cx}{a:Expr}{b:Expr}{ta:TE}{tb:TE}{pos:Pos}{tA:TT}
theorem Mp{c:Expr}(m:PT X c tA)(n:PE X a ta)(l:PE X b tb):PE X (.IfExp c a b pos) (Wl tA ta tb):=by
 intro g s f H Q I h;refine wpAny_IfExp (aZ (m g s f H _ I h) λd i e=>?_);obtain⟨H1,j,k⟩:=e;cases d with
 |true=>exact n g i f H1 Q j k
 |false=>exact l g i f H1 Q j k
end
def da(K:Fg) (H:Hp) (a:Addr) (c:List V):Prop:=
 Rd H a (.lst c) \/
  ∃(o:Obj) (b:Array Value) (n:Nat),K.lookup a=some o/\o.cls=.type "list"/\o.dict=none/\o.data=.seq b n/\b.size<=sizeLine/\ah c b.toList
def bz(K:Fg) (H:Hp) (a:Addr) (c:List V):Prop:=
 Rd H a (.tup c) \/
  ∃(o:Obj) (b:Array Value) (n:Nat),K.lookup a=some o/\o.cls=.type "tuple"/\o.data=.seq b n/\b.size<=sizeLine/\ah c b.toList
noncomputable def PF:Value->Option V
 |.none=>some .non
 |.bool b=>some (.bl b)
 |.int i _=>some (.int i)
 |.str x _=>some (.str x)
 |.bytes b _=>some (.byt b)
 |.float b _=>some (.flt b)
 |.ref a=>some (.ref a)
 |.type n=>some (.ty n)
 |_=>none
theorem RelV.abs(r:RelV x u):PF u=some x:=by
 cases x with
 |non=>cases r;rfl
 |bl _=>cases r;rfl
 |int _=>obtain⟨t,rfl⟩:=r;rfl
 |str _=>obtain⟨t,rfl⟩:=r;rfl
 |byt _=>obtain⟨t,rfl⟩:=r;rfl
 |flt _=>obtain⟨t,rfl⟩:=r;rfl
 |ref _=>cases r;rfl
 |ty _=>cases r;rfl
theorem RelV.inj(r:RelV x u)(q:RelV y u):x=y:=fY (r.abs.symm.trans q.abs)
theorem ah.inj:∀{a b:List V}{c:List Value},ah a c->ah b c->a=b
 |_,_,_,.nil,.nil=>rfl
 |_,_,_,.cons r t,.cons r' t'=>by rw[r.inj r',ah.inj t t']
section
variable {H:Hp}{a:Addr}{xs:List V}
theorem da.of{K:Fg}(h:H a=some (.lst xs)):da K H a xs:=.inl (.inl h)
theorem bz.of{K:Fg}(h:H a=some (.tup xs)):bz K H a xs:=.inl (.inl h)
end
theorem Inv.list(I:'&')(h:da X.K H a xs):∃b:List Value,ah xs b/\PlainL s.heap a b.toArray/\xs.length<=sizeLine:=by
 rcases h with h|⟨o,b,n,d,c,g,f,i,r⟩
 ·obtain⟨z,b,n,r,e⟩:=h.ok I.hok;exact⟨b,r,⟨_,n,e,rfl,rfl,rfl⟩,z⟩
 ·refine⟨b.toList,r,⟨o,n,I.kIn a o d,c,g,by simpa using f⟩,?_⟩;have e:=r.length;simp only[gm] at e;lia
theorem Inv.tuple(I:'&')(h:bz X.K H a xs):∃b:List Value,ah xs b/\IsTup s.heap a b.toArray/\xs.length<=sizeLine:=by
 rcases h with h|⟨o,b,n,d,c,f,g,r⟩
 ·obtain⟨z,b,r,p⟩:=h.ok I.hok;exact⟨b,r,p,z⟩
 ·refine⟨b.toList,r,⟨o,I.kIn a o d,c,n,by simpa using f⟩,?_⟩;have e:=r.length;simp only[gm] at e;lia
theorem Inv.list_inj(I:'&')(h:da X.K H a xs)(g:da X.K H a ys):xs=ys:=by
 obtain⟨b,r,⟨o,n,e,_,_,d⟩,_⟩:=I.list h;obtain⟨its',j,⟨l,k,c,_,_,f⟩,_⟩:=I.list g;rw[e] at c;cases c
 rw[d] at f;injection f with i _
 have:b=its':=by simpa using congrArg Array.toList i
 subst this;exact r.inj j
theorem Inv.tuple_inj(I:'&')(h:bz X.K H a xs)(g:bz X.K H a ys):xs=ys:=by
 obtain⟨b,r,⟨o,e,_,n,d⟩,_⟩:=I.tuple h;obtain⟨its',j,⟨l,c,_,k,f⟩,_⟩:=I.tuple g;rw[e] at c;cases c
 rw[d] at f;injection f with i _
 have:b=its':=by simpa using congrArg Array.toList i
 subst this;exact r.inj j
noncomputable abbrev Cx.wish(X:Cx) (E:Value->Shared->Prop):Cx:={X with xe:=E}
abbrev Cx.nox(X:Cx):Cx:=X.wish λ_ _=>False
theorem Cx.Ok.wish{X:Cx}(a:X.Ok)(E:Value->Shared->Prop):(X.wish E).Ok:=
 ⟨a.mod,a.kind,a.glob,a.blt,a.above,a.inj,a.has,a.cab,a.hd,a.frames,a.stk,a.exf,a.bs,a.bsz,a.noex,a.exfs,a.funs,a.frf⟩
theorem Cx.Ok.unwish{X:Cx}(a:(X.wish E).Ok):X.Ok:=
 ⟨a.mod,a.kind,a.glob,a.blt,a.above,a.inj,a.has,a.cab,a.hd,a.frames,a.stk,a.exf,a.bs,a.bsz,a.noex,a.exfs,a.funs,a.frf⟩
theorem Inv.wish(I:'&')(E:Value->Shared->Prop):Inv (X.wish E) aW σ H s:=⟨I.ok.wish E,I.os,I.bare,I.base,I.loc,I.cell,I.free,I.freeC,I.pin,I.hok,I.len,I.hnd⟩
theorem Inv.unwish{X:Cx}(I:Inv (X.wish E) aW σ H s):Inv X aW σ H s:=⟨I.ok.unwish,I.os,I.bare,I.base,I.loc,I.cell,I.free,I.freeC,I.pin,I.hok,I.len,I.hnd⟩
theorem SP.unwish{X:Cx}{D:l4}(h:SP (X.wish E) aW D f s'):SP X aW D f s':=by
 cases f with
 |next=>obtain⟨a,b,I,q⟩:=h;exact⟨a,b,I.unwish,q⟩
 |brk=>obtain⟨a,b,I,q⟩:=h;exact⟨a,b,I.unwish,q⟩
 |cont=>obtain⟨a,b,I,q⟩:=h;exact⟨a,b,I.unwish,q⟩
 |ret u=>obtain⟨v,a,b,I,r,q⟩:=h;exact⟨v,a,b,I.unwish,r,q⟩
section
variable {X:Cx}{aW:List (Addr×Obj)}{σ:St}{H:Hp}{s:Shared}
theorem jJ.nox{a:List Stmt}{t:TS}(h:jJ X.nox a t):jJ X a t:=λaW s σ H D I b=>
 iU (h aW s σ H D (I.wish _) b) (λ_ _ q=>q.unwish) λ_ _ z=>False.elim z
end
def zK:TS:=λD a H=>D.nx a H
def ON(t u:TS):TS:=λD a H=>t {D with nx:=u D} a H
theorem Kt:jJ X [] zK:=λ_ _ a H _ I h=>Dg ⟨a,H,I,h⟩
section
variable {X:Cx}{au:Stmt}{rest:List Stmt}{t:TS}{u:TS}
theorem Mz(j:PS X au t)(i:jJ X rest u):jJ X (au::rest) (ON t u):=by
 intro b s d H D I h;refine wpAny_execs_cons (aZ (j b s d H {D with nx:=u D} I h) λf c q=>?_);cases f with
 |next=>
  obtain⟨a,e,g,q⟩:=q;exact i b c a e D g q
 |ret v=>exact q
 |brk=>exact q
 |cont=>exact q
end
section
variable {X:Cx}{au:Stmt}{t:TS}
theorem Ku(c:PS X au t):jJ X [au] t:=by
 intro a s b H D I h;refine wpAny_execs_cons (aZ (c a s b H D I h) λf d q=>?_);cases f with
 |next=>exact Dg q
 |ret v=>exact q
 |brk=>exact q
 |cont=>exact q
end
theorem Inv.quiet(I:'&'):interactive X.env=false:=by simp[interactive,I.ok.kind]
def zL(b:TE):TS:=λD a H=>b a H λ_ H1=>D.nx a H1
section
variable {X:Cx}{e:Expr}{te:TE}{pos:Pos}
theorem Kr(b:PE X e te)(c:swapsWith e none pos.line X.env=pure false:=by rfl):PS X (.Expr e pos) (zL te):=by
 intro f s a H D I h;exact wpAny_Expr_any (aZ (b f s a H _ I h) λv i ⟨x,H1,d,j,g⟩=>⟨a,H1,d,g⟩) I.quiet c
end
def OO(b:TE):TS:=λD a H=>b a H D.rt
section
variable {X:Cx}{e:Expr}{te:TE}{pos:Pos}
theorem Io(b:PE X e te):PS X (.Return (some e) pos) (OO te):=by
 intro f s a H D I h;exact wpAny_Return_some (aZ (b f s a H _ I h) λv i ⟨x,H1,c,d,g⟩=>⟨x,a,H1,c,d,g⟩)
end
def OT(c:TT) (t u:TS):TS:=λD a H=>c a H λb H1=>if b=true then t D a H1 else u D a H1
section
variable {X:Cx}{t:TS}{u:TS}{pos:Pos}
theorem Gv{c:Expr}{a b:List Stmt}{j:TT}(n:PT X c j)(o:jJ X a t)(m:jJ X b u):PS X (.If c a b pos) (OT j t u):=by
 intro g s f H D I h;refine wpAny_If (aZ (n g s f H _ I h) λd i e=>?_);obtain⟨H1,k,l⟩:=e;cases d with
 |true=>exact o g i f H1 D k l
 |false=>exact m g i f H1 D k l
end
abbrev TG:=V->St->Hp->(St->Hp->Prop)->Prop
abbrev tW:=List V->St->Hp->(St->Hp->Prop)->Prop
def PG(X:Cx) (a:Expr) (t:TG):Prop:=
 ∀(e:List (Addr×Obj)) (s:Shared) (c:St) (H:Hp) (v:V) (u:Value) (Q:St->Hp->Prop),Inv X e c H s->RelV v u->t v c H Q ->
  wpAny '#' X.A (assign a X.env u) (λ_ f=>∃b d,Inv X e b d f/\Q b d) X.xe s
def tX(X:Cx) (g:List Expr) (t:tW):Prop:=
 ∀(f:List (Addr×Obj)) (s:Shared) (c:St) (H:Hp) (b:List V) (d:List Value) (Q:St->Hp->Prop),Inv X f c H s->ah b d->t b c H Q ->
  wpAny '#' X.A (assignInOrder ((assignEach g X.env).map (·.2)) d) (λ_ h=>∃a e,Inv X f a e h/\Q a e) X.xe s
abbrev tV:=V->V->V->Hp->(Hp->Prop)->Prop
def BH(X:Cx) (t:tV):Prop:=
 ∀(d:List (Addr×Obj)) (s:Shared) (b:St) (H:Hp) (o i v:V) (e a u:Value) (Q:Hp->Prop),Inv X d b H s->RelV o e->RelV i a->RelV v u->t o i v H Q ->
  wpAny '#' X.A (setItem e a u) (λ_ f=>∃c,Inv X d b c f/\Q c) X.xe s
abbrev BG:=V->V->Hp->VK->Prop
def D5(X:Cx) (c:Operator) (t:BG):Prop:=
 ∀(a:List (Addr×Obj)) (s:Shared) (b:St) (H:Hp) (x y:V) (v u:Value) (Q:VK),Inv X a b H s->RelV x v->RelV y u->t x y H Q ->
  wpAny '#' X.A (inplaceOp c v u) (EP X a b Q) X.xe s
def jC(i:Nat):TG:=λv a H Q=>Q (a.set i (some v)) H
theorem Kg{X:Cx}(a:X.N.Nodup)(b:X.N[i]?=some x)(d:Loc X.env.scope x)(c:X.fn x=true\/X.env.scope.names.lookup x=some .local:=by first|exact .inl rfl|exact .inr rfl|assumption):PG X (.Name x pos) (jC i):=by
 intro g s f H v u Q I r h;exact wpAny_assign_Name (E6 I a b d r (λj e=>⟨_,H,e,h⟩) c)
def Pn:tW:=λb a H Q=>b=[]/\Q a H
def Bz(t:TG) (u:tW):tW:=λd c H Q=>∃v r,d=v::r/\t v c H λa b=>u r a b Q
theorem Kh:tX X [] Pn:=by
 intro b s a H c d Q I r h;obtain⟨e,h⟩:=h;subst e;cases r;exact assignInOrder_nil ⟨a,H,I,h⟩
section
variable {X:Cx}
theorem Mr{e:Expr}{a:List Expr}{t:TG}{u:tW}(n:PG X e t)(m:tX X a u)
  (g:(assignEach (e::a) X.env).map (·.2)=assign e X.env::(assignEach a X.env).map (·.2):=by rfl):tX X (e::a) (Bz t u):=by
 intro d s i H o q Q I r h;obtain⟨v,p,j,h⟩:=h;subst j;cases r with
 |cons r rr=>
  rw[g];refine assignInOrder_cons (aZ (n d s i H _ _ _ I r h) λ_ f b=>?_);obtain⟨c,H1,k,l⟩:=b;exact m d f c H1 _ _ Q k rr l
end
def Pl(K:Fg) (n:Nat) (t:tW):TG:=λv c H Q=>∃a b,v=.ref a/\bz K H a b/\b.length=n/\t b c H Q
theorem Ig{X:Cx}(l:X.calm=true)(h:tX X es t)
  (y:(assignEach es X.env).length=n:=by rfl)(d:(assignEach es X.env).findIdx? (·.1)=none:=by rfl):PG X (.Tuple es k pos) (Pl X.K n t):=by
 intro g s f H v u Q I r c;obtain⟨a,m,p,x,z,c⟩:=c;subst p;cases r;obtain⟨C,i,j,E⟩:=I.tuple x;refine assign_Tuple_tuple (I.ok.hd l) j (by simp[y,←z,i.length]) d λw A=>?_
 have q:Inv X g f H {s with heap:=w}:=I.kept (t':=s.toks) λb o e=>A b o (dY (cJ e)) e
 exact h g _ f H m _ Q q (by simpa using i) c
def Pm(to b:TE) (t:tV):TG:=λv a H Q=>to a H λo H1=>b a H1 λi H2=>t o i v H2 λH3=>Q a H3
section
variable {X:Cx}{pos:Pos}
theorem Ie{o i:Expr}{to f:TE}{t:tV}(C:PE X o to)(j:PE X i f)(q:BH X t)
  (p:∀v,assign (.Subscript o i pos) X.env v=(do
   let b ←holding [v] (eval o X.env)
   let c ←holding [v,b] (eval i X.env)
   standAt pos
   holding [v,b,c] (setItem b c v)
   release [v,b,c] []):=by intro _;rfl):PG X (.Subscript o i pos) (Pm to f t):=by
 intro e s d H v u Q I r h;rw[p];refine ab (jj (aZ (C e s d H _ I h) λb g a=>?_));obtain⟨x,H1,z,n,l⟩:=a;refine ab (jj (aZ (j e g d H1 _ z l) λc w a=>?_));obtain⟨y,H2,E,A,k⟩:=a;refine ab (Db (ab (jj (aZ (q e w d H2 x y v b c u _ E n A r k) λ_ J a=>?_))));obtain⟨H3,m,G⟩:=a;exact wpAny_release ⟨d,H3,m,G⟩
end
def pB(b:TE) (g:TG):TS:=λD a H=>b a H λx H1=>g x a H1 D.nx
section
variable {X:Cx}{pos:Pos}
theorem Ik{a e:Expr}{c:TE}{g:TG}(j:PE X e c)(r:PG X a g)(k:swapsWithSole [a] e pos.line X.env=pure false:=by rfl)(l:swappedStores [a] e X.env=pure none:=by rfl)
  (p:(assignEach [a] X.env).map (·.2)=[assign a X.env]:=by rfl):PS X (.Assign [a] e pos) (pB c g):=by
 intro f s d H D I h;refine wpAny_Assign_stores (aZ (j f s d H _ I h) λv i b=>?_) k l;obtain⟨x,H1,m,n,o⟩:=b;rw[p];exact aZ (r f i d H1 x v _ m n o) λ_ t q=>q
theorem Ip{i:Nat}{x:Str}{e:Expr}{c:TE}{a:Pos}(f:X.N.Nodup)(d:X.N[i]?=some x)(p:Loc X.env.scope x)(g:PE X e c)(j:swapsWith e (some (.Name x a)) pos.line X.env=pure false:=by rfl)(m:X.fn x=true\/X.env.scope.names.lookup x=some .local:=by first|exact .inl rfl|exact .inr rfl|assumption):
  PS X (.Assign [.Name x a] e pos) (pB c (jC i)):=by
 intro q s k H D I h;refine wpAny_Assign_Name (aZ (g q s k H _ I h) λv t b=>?_) j;obtain⟨y,H1,n,o,r⟩:=b;exact E6 n f d p o (λu l=>⟨_,H1,l,r⟩) m
end
def OZ(i:Nat) (c:TE) (b:BG):TS:=λD a H=>∃x,a[i]?=some (some x)/\c a H λy H1=>b x y H1 λz H2=>D.nx (a.set i (some z)) H2
section
variable {X:Cx}{pos:Pos}
theorem Il{i:Nat}{x:Str}{e:Expr}{t:TE}{n:Operator}{E:BG}{d:Pos}(S:X.N.Nodup)(q:X.N[i]?=some x)(p:Loc X.env.scope x)(he:PE X e t)(ho:D5 X n E)(hf:X.fn x=true\/X.env.scope.names.lookup x=some .local:=by first|exact .inl rfl|exact .inr rfl|assumption):
  PS X (.AugAssign (.Name x d) n e pos) (OZ i t E):=by
 intro j s C H D I h;obtain⟨v,T,h⟩:=h;obtain⟨m,hn,Y⟩:=I.loc;have o:vc X.env.scope x:=by rcases p with k|k;exact .inl k;exact .inr (.inl k)
 obtain⟨u,r,l⟩:=Y i x v q T o;refine wpAny_AugAssign_Name ?_;have A:wpAny '#' X.A (eval e X.env) (λw f=>wpAny '#' X.A (inplaceOp n u w) (λr g=>wpAny '#' X.A (storeName X.env x r) (λ_=>SP X j D .next) X.xe g) X.xe f) X.xe s:=by
  refine aZ (he j s C H _ I h) λw G a=>?_
  obtain⟨y,H1,I1,U,Q⟩:=a;refine aZ (ho j G C H1 v y u w _ I1 r U Q) λz s2 a=>?_
  obtain⟨zv,H2,I2,r2,P⟩:=a;exact E6 I2 S q p r2 (λs3 R=>⟨_,H2,R,P⟩) hf
 rcases l with⟨hk,hm⟩|⟨hk,c,J,b⟩
 ·exact wpAny_loadName_local I.ok.kind hk hn hm A
 ·rcases hk with hk|hk
  ·exact wpAny_loadName_cell I.ok.kind hk J b A
  ·rcases p with k|k
   ·have:X.env.scope.names.lookup x=some .free:=hk;rw[k] at this;cases this
   ·have:X.env.scope.names.lookup x=some .free:=hk;rw[k] at this;cases this
end
def SN(f:Int->Int->Int):BG:=λx y H Q=>∃i j,x=.int i/\y=.int j/\Q (.int (f i j)) H
theorem Ho:D5 X .Add (SN λi j=>i+j):=by
 intro g s f H x y v u Q I d b h;obtain⟨i,j,c,a,q⟩:=h;subst c;subst a
 obtain⟨t,rfl⟩:=d;obtain⟨e,rfl⟩:=b;exact iadd_int ⟨.int _,H,I.tok _,⟨_,rfl⟩,q⟩
def sW(c:TT) (g:TS):TS:=λD a H=>∃W:Nat->St->Hp->Prop,(∃m,W m a H)/\∀m a H,W m a H ->
 c a H λb H1=>if b=true then ∃N:St->Hp->Prop,(∀d f,N d f->∃e,e<m/\W e d f)/\g {D with nx:=N,ct:=N,bk:=D.nx} a H1 else D.nx a H1
section
variable {X:Cx}{pos:Pos}
theorem Mx{c:Expr}{e:List Stmt}{x:TT}{z:TS}(u:PassesOwn '#' X.A X.env X.xe)(J:PT X c x)(P:jJ X e z):PS X (.While c e [] pos) (sW x z):=by
 intro l s Q H D I h;obtain⟨W,⟨G,T⟩,g⟩:=h;refine wpAny_While (codeAny_whileLoop (λn U=>∃i y,Inv X l i y U/\W n i y) ?_ G ⟨Q,H,I,T⟩);rintro n C ⟨d,H1,S,E⟩;refine sI u (aZ (J l C d H1 _ S (g n d H1 E)) λb R p=>?_);obtain⟨H2,A,j⟩:=p;cases b with
 |true=>
  obtain⟨N,w,j⟩:=j;rw[if_pos rfl];refine sI u (aZ (P l R d H2 _ A j) λf Y k=>?_);cases f with
  |next=>
   obtain⟨a,H3,m,t⟩:=k;obtain⟨q,o,r⟩:=w a H3 t;exact⟨q,o,a,H3,m,r⟩
  |cont=>
   obtain⟨a,H3,m,t⟩:=k;obtain⟨q,o,r⟩:=w a H3 t;exact⟨q,o,a,H3,m,r⟩
  |brk=>exact k
  |ret v=>exact k
 |false=>
  rw[if_neg og];exact Dg ⟨d,H2,A,j⟩
end
structure It where
 go:Nat->Hp->Prop
 yld:Nat->Hp->V->Hp->Prop
 stop:Nat->Hp->Prop
def dX(X:Cx) (a:List (Addr×Obj)) (H:Hp) (b:Addr):Prop:=
 H b=none/\b≠X.env.locals/\b∉X.fs/\(b∈X.ex\/X.s₀.heap.objs.size<=b)/\(∀x c,X.env.cells.lookup x=some c->c≠b)/\∀p∈X.pn++a,p.1≠b
theorem Inv.fpOk(I:'&')(a:s.heap.objs.size<=b)(d:H' b=none):dX X aW H' b:=by
 refine⟨d,mL (df I.lt a),I.nofs a,.inr (ax I.sz a),λx c e z=>?_,λp f z=>?_⟩
 ·obtain⟨v,q⟩:=I.cell x c e;exact absurd (df q.lt (by rw[z];exact a)) (o0 _)
 ·exact absurd (df (cJ (I.pin p f).1) (by rw[z];exact a)) (o0 _)
structure ir (P:Program) (w:World) (K:Fg) (tg:Expr) (J:It) (fp:List Addr) (it:Addr) (tn:Nat->Heap->Prop):Prop where
 mem:it∈fp
 obj:∀i h,tn i h->∀b∈fp,∃o,h.get? b=some o/\∀v,o.data≠.cell v
 keep:∀i h h',tn i h->(∀b∈fp,∀o,h.get? b=some o->h'.get? b=some o)->tn i h'
 item:∀(X:Cx),X.prog=P->X.w=w->X.K=K->X.calm=true->∀(i:Nat) (aW:List (Addr×Obj)) (s:Shared) (σ:St) (H:Hp) (E:Value->Shared->Prop),Inv X aW σ H s->(∀b∈fp,dX X aW H b)->tn i s.heap->J.go i H ->
  wpAny (model P w) X.A (pyNext (.ref it)) (λr s1=>∃u,r=some u /\
   wpAny (model P w) X.A (letOwnedTupleGo tg (.ref it) u) (λ_ s2=>∃x H',Inv X aW σ H' s2/\RelV x u/\J.yld i H x H'/\tn (i+1) s2.heap/\∀b∈fp,H' b=none) E s1) E s
 done:∀(X:Cx),X.prog=P->X.w=w->X.K=K->X.calm=true->∀(i:Nat) (aW:List (Addr×Obj)) (s:Shared) (σ:St) (H:Hp) (E:Value->Shared->Prop),Inv X aW σ H s->(∀b∈fp,dX X aW H b)->tn i s.heap->J.stop i H ->
  wpAny (model P w) X.A (pyNext (.ref it)) (λr s1=>r=none/\Inv X aW σ H s1) E s
 self:∀(A:Around) (i:Nat) (s:Shared) (Q:Value->Shared->Prop) (E:Value->Shared->Prop),tn i s.heap->Q (.ref it) s->wpAny (model P w) A (pyIter (.ref it)) Q E s
abbrev TI:=St->Hp->(It->Hp->Prop)->Prop
def PJ(X:Cx) (g:List (Addr×Obj)) (i:St) (j:Expr) (R:It->Hp->Prop) (a:Value) (d:Shared):Prop:=
 ∃(f:Addr) (h:List Addr) (e:Nat->Heap->Prop) (J:It) (c:Hp),a=.ref f/\Inv X g i c d/\ir X.prog X.w X.K j J h f e/\e 0 d.heap/\(∀b∈h,dX X g c b)/\R J c
def PI(X:Cx) (e iter:Expr) (d:TI):Prop:=
 ∀(b:List (Addr×Obj)) (s:Shared) (a:St) (H:Hp) (R:It->Hp->Prop),Inv X b a H s->d a H R ->
  wpAny '#' X.A (eval iter X.env) (λv c=>wpAny '#' X.A (pyIter v) (PJ X b a e R) X.xe c) X.xe s
theorem lA{M:Model}{s:Shared}(c:s.heap.get? it=some o)(b:o.cls=.type n)(e:o.data=.fields vs)
    (d:["enumerate","zip","dict_itemiterator","dict_reverseitemiterator","odict_iterator","itertools.zip_longest","itertools.pairwise"].contains n=false)(a:Q () s):wpAny M A (letOwnedTupleGo tg (.ref it) u) Q E s:=by
  unfold letOwnedTupleGo;cases tg <;> first
    |exact am a
    | (cases u <;> first
        |exact am a
        | (refine ab (wpAny_load c ?_)
           rw[b,e];show wpAny M A (if(["enumerate","zip","dict_itemiterator","dict_reverseitemiterator","odict_iterator","itertools.zip_longest","itertools.pairwise"].contains n&&vs[0]?==some (rawInt _))=true then _ else _) Q E s
           rw[if_neg (by intro h; rw[d,Bool.false_and] at h; cases h)]
           exact am a))
def PN(K:Fg) (a:Addr):It:=
 ⟨λi H=>∃b x,da K H a b/\b[i]?=some x,λi H x c=>c=H/\∀b,da K H a b->b[i]?=some x,λi H=>∃b,da K H a b/\b.length<=i⟩
def PM(K:Fg) (a:Addr):It:=
 ⟨λi H=>∃b x,bz K H a b/\b[i]?=some x,λi H x c=>c=H/\∀b,bz K H a b->b[i]?=some x,λi H=>∃b,bz K H a b/\b.length<=i⟩
noncomputable def BL(lo:Int) (n:Nat):It:=⟨λi _=>i<n,λi H x a=>a=H/\x=.int (lo+i),λi _=>n<=i⟩
theorem Tv{P:Program}{w:World}{K:Fg}{tg:Expr}(a it:Addr):ir P w K tg (PN K a) [it] it (λi h=>h.IsListIter it a i) where
 mem:=by simp
 obj:=λi h f b g=>by
  have e:b=it:=by simpa using g
  subst e;obtain⟨o,e,c,d⟩:=f;exact⟨o,e,λv z=>by rw[d] at z;cases z⟩
 keep:=λi h l f k=>f.at λo e=>k it '%' o e
 item:=by
  intro X A t J U i Y s σ H E I n f y;subst A t J;obtain⟨xs,x,m,T⟩:=y;obtain⟨Q,G,p,hz⟩:=I.list m;obtain⟨u,hu,ru⟩:=G.get T;obtain⟨R,S,f2,C,r,q⟩:=n it '%';refine wpAny_pyNext_list_item f p.isList (x:=u) (by simpa using hu) λl j sb=>?_
  have I1:Inv X Y σ H {s with heap:=l}:=I.turned (t':=s.toks) (λb o g e=>(sb.2 b g).trans e) R S C r q;obtain⟨o,e,c,d⟩:=id j;exact⟨u,rfl,lA (s:={s with heap:=l}) e c d ')' ⟨x,H,I1,ru,⟨rfl,λys hy=>by rw[I.list_inj hy m];exact T⟩,j,λb g=>(n b g).1⟩⟩
 done:=by
  intro X A t J U i Y s σ H E I n f y;subst A t J;obtain⟨xs,m,T⟩:=y;obtain⟨Q,G,p,hz⟩:=I.list m;obtain⟨R,S,f2,C,r,q⟩:=n it '%';have hl:=G.length;exact wpAny_pyNext_list_end (I.ok.hd U) f p.isList (by simp;lia) λl eb=>⟨rfl,I.turned (t':=s.toks) (λb o g e=>eb b o g e) R S C r q⟩
 self:=λ_ _ _ _ _ f h=>wpAny_pyIter_listiter f h
theorem Us{P:Program}{w:World}{K:Fg}{tg:Expr}(a it:Addr):ir P w K tg (PM K a) [it] it (λi h=>h.IsTupleIter it a i) where
 mem:=by simp
 obj:=λi h f b g=>by
  have e:b=it:=by simpa using g
  subst e;obtain⟨o,e,c,d⟩:=f;exact⟨o,e,λv z=>by rw[d] at z;cases z⟩
 keep:=λi h m f k=>f.at λo e=>k it '%' o e
 item:=by
  intro X C y Q U i Y s σ H E I q f A;subst C y Q;obtain⟨xs,x,n,T⟩:=A;obtain⟨j,J,p,hz⟩:=I.tuple n;obtain⟨u,hu,ru⟩:=J.get T;obtain⟨R,S,f2,G,t,r⟩:=q it '%';refine wpAny_pyNext_tuple_item f (show s.heap.IsTuple a j.toArray from p) (x:=u) (by simpa using hu) λm l sb=>?_
  have I1:Inv X Y σ H {s with heap:=m}:=I.turned (t':=s.toks) (λb o g e=>(sb.2 b g).trans e) R S G t r;obtain⟨o,e,c,d⟩:=id l;exact⟨u,rfl,lA (s:={s with heap:=m}) e c d ')' ⟨x,H,I1,ru,⟨rfl,λys hy=>by rw[I.tuple_inj hy n];exact T⟩,l,λb g=>(q b g).1⟩⟩
 done:=by
  intro X C y Q U i Y s σ H E I q f A;subst C y Q;obtain⟨xs,n,T⟩:=A;obtain⟨j,J,p,hz⟩:=I.tuple n;obtain⟨R,S,f2,G,t,r⟩:=q it '%';have hl:=J.length;exact wpAny_pyNext_tuple_end (I.ok.hd U) f (show s.heap.IsTuple a j.toArray from p) (by simp;lia) λm eb=>⟨rfl,I.turned (t':=s.toks) (λb o g e=>eb b o g e) R S G t r⟩
 self:=λ_ _ _ _ _ f h=>wpAny_pyIter_tupleiter f h
theorem Ur{P:Program}{w:World}{K:Fg}{Y:Expr}(it:Addr)(lo:Int)(n:Nat):ir P w K Y (BL lo n) [it] it (λi h=>IsRangeIter h it (lo+(i:Nat)*1) ((n:Int)-(i:Nat)) 1) where
 mem:=by simp
 obj:=λi h a b c=>by
  have e:b=it:=by simpa using c
  subst e
  exact⟨_,a,λv z=>by
   have S:Data.fields _=Data.cell v:=z
   cases S⟩
 keep:=λi h f a k=>k it '%' _ a
 item:=by
  intro X r p x j i G s J H E I g a q;subst r p x;obtain⟨y,A,Q,u,m,l⟩:=g it '%';have W:=Walks.range (prog:=X.prog) (w:=X.w) (I.ok.hd j) it lo 1 n;refine W.item i s _ _ q a λv f C hv d R=>?_
  obtain⟨t,rfl⟩:=hv;have T:Inv X G J H {s with heap:=f,toks:=C}:=I.turned (λb o c e=>R b o (by simpa using c) e) y A u m l;refine⟨_,rfl,lA (s:={ s with heap:=f,toks:=C }) (n:="range_iterator") d rfl rfl ')' ⟨.int (lo + i),H,T,⟨t,?_⟩,⟨rfl,rfl⟩,d,λb c=>(g b c).1⟩⟩
  rw[Int.mul_one]
 done:=by
  intro X r p x j i G s J H E I g a q;subst r p x;obtain⟨y,A,Q,u,m,l⟩:=g it '%';exact wpAny_pyNext_range_end (I.ok.hd j) a (by have:n<=i:=q;lia) λf U=>⟨rfl,I.turned (t':=s.toks) (λb o c e=>U b o c e) y A u m l⟩
 self:=λ_ _ _ _ _ a h=>wpAny_pyIter_rangeiter a h
def AX(K:Fg) (c:TE):TI:=λd H R=>c d H λx H1=>∃a,x=.ref a/\(∃b,da K H1 a b)/\R (PN K a) H1
def Pg(K:Fg) (c:TE):TI:=λd H R=>c d H λx H1=>∃a,x=.ref a/\(∃b,bz K H1 a b)/\R (PM K a) H1
section
variable {X:Cx}{tg:Expr}
theorem Kj{l:Expr}{g:TE}(n:PE X l g):PI X tg l (AX X.K g):=by
 intro r s j H R I h;refine aZ (n r s j H _ I h) λv c f=>?_
 obtain⟨x,H1,d,m,t⟩:=f;obtain⟨a,e,⟨w,k⟩,q⟩:=t;subst e;cases m;obtain⟨u,z,p,y⟩:=d.list k;refine Ob p.isList ?_;refine⟨c.heap.objs.size,[c.heap.objs.size],_,_,H1,rfl,d.kept (t':=c.toks) λb o e=>bX _ e,Tv a _,⟨_,ed _ rfl,rfl,rfl⟩,λb i=>?_,q⟩;have e:b=c.heap.objs.size:=by simpa using i
 subst e;exact d.fpOk (aY _) (d.hok.fresh (aY _))
theorem Ii{l:Expr}{i:TE}(r:PE X l i):PI X tg l (Pg X.K i):=by
 intro t s k H R I h;refine aZ (r t s k H _ I h) λv c f=>?_
 obtain⟨x,H1,d,n,u⟩:=f;obtain⟨a,e,⟨w,m⟩,q⟩:=u;subst e;cases n;obtain⟨g,z,p,y⟩:=d.tuple m;refine uL (show c.heap.IsTuple a g.toArray from p) ?_;refine⟨c.heap.objs.size,[c.heap.objs.size],_,_,H1,rfl,d.kept (t':=c.toks) λb o e=>bX _ e,Us a _,⟨_,ed _ rfl,rfl,rfl⟩,λb j=>?_,q⟩;have e:b=c.heap.objs.size:=by simpa using j
 subst e;exact d.fpOk (aY _) (d.hok.fresh (aY _))
end
theorem Qj{s:Shared}{R:It->Hp->Prop}{lo a:Int}{c:Nat}(I:'&')(l:-(2^62)<=lo)(k:lo<2^62)(h:-(2^62)<=a)(j:a<2^62)
  (q:R (BL lo (a-lo).toNat) H):wpAny '#' X.A (pyIter (.ref s.heap.objs.size)) (PJ X aW σ tg R) E { s with heap:=s.heap.push { cls:=.type "range",data:=.fields #[.int lo t,.int a u,.int 1 v] },toks:=c }:=by
 refine wpAny_pyIter_range (IsRange.new ..) (small_one l k h j) ?_;have d:Inv X aW σ H { s with heap:=s.heap.push { cls:=.type "range",data:=.fields #[.int lo t,.int a u,.int 1 v] },toks:=c }:=I.kept λb o e=>bX _ e
 refine⟨(s.heap.push { cls:=.type "range",data:=.fields #[.int lo t,.int a u,.int 1 v] }).objs.size,[(s.heap.push { cls:=.type "range",data:=.fields #[.int lo t,.int a u,.int 1 v] }).objs.size],_,_,H,rfl,
  d.kept (t':=c) λb o e=>bX _ e,Ur _ lo (a-lo).toNat,?_,λb f=>?_,q⟩
 ·have i:lo+((0:Nat):Int)*1=lo:=by simp
  have g:(((a-lo).toNat:Nat):Int)-((0:Nat):Int)=Builtin.Range.rangeSize lo a 1:=by rw[rangeSize_one];split<;>lia
  show IsRangeIter _ _ (lo+((0:Nat):Int)*1) ((((a-lo).toNat:Nat):Int)-((0:Nat):Int)) 1;rw[i,g];exact ed _ rfl
 ·have e:b=(s.heap.push { cls:=.type "range",data:=.fields #[.int lo t,.int a u,.int 1 v] }).objs.size:=by simpa using f
  subst e;exact d.fpOk (aY _) (d.hok.fresh (aY _))
def AV(c:TA):TI:=λa H R=>c a H λb H1=>∃j:Int,b=[.int j]/\-(2^62)<=j/\j<2^62/\R (BL 0 j.toNat) H1
def AU(c:TA):TI:=λa H R=>c a H λb H1=>∃i j:Int,b=[.int i,.int j]/\(-(2^62)<=i/\i<2^62/\-(2^62)<=j/\j<2^62)/\R (BL i (j-i).toNat) H1
section
variable {X:Cx}{tg:Expr}
theorem SZ{a:Expr}{f:TA}{p b:Pos}(v:Gl X "range")(l:X.mg "range"=none)(u:PA X [a] f)(g:starEach [a] X.env=[(false,eval a X.env)]:=by rfl):PI X tg (.Call (.Name "range" p) [a] [] b) (AV f):=by
 intro o s i H R I h;refine Call_ (l6 I v l boot_range (qy (aZ (u b o s i H _ I h) λy w c=>?_) g rfl));obtain⟨x,H1,m,n,d⟩:=c;obtain⟨j,e,d,k,q⟩:=d;subst e;cases n with
 |cons r rr=>
  cases rr;obtain⟨t,rfl⟩:=r;exact call_range_1 (Qj m '!' '!' d k (by simpa using q))
theorem S7{a b:Expr}{g:TA}{p c:Pos}(u:Gl X "range")(n:X.mg "range"=none)(o:PA X [a,b] g)(v:starEach [a,b] X.env=[(false,eval a X.env),(false,eval b X.env)]:=by rfl)(d:starEach [b] X.env=[(false,eval b X.env)]:=by rfl):
  PI X tg (.Call (.Name "range" p) [a,b] [] c) (AU g):=by
 intro l s w H R I h;refine Call_ (l6 I u n boot_range (qy (aZ (o c l s w H _ I h) λG A ⟨C,H1,x,m,f⟩=>?_) (by rw[v,d]) (by rw[d];rfl)));obtain⟨i,j,e,⟨f,k,z,y⟩,q⟩:=f;subst e;cases m with
 |cons r rr=>
  cases rr with
  |cons r' rr=>
   cases rr;obtain⟨t,rfl⟩:=r;obtain⟨E,rfl⟩:=r';exact call_range_2 (Qj x f k z y q)
end
def OU(f:TI) (g:TG) (h:TS):TS:=λD a H=>f a H λJ H1=>∃W:Nat->Nat->St->Hp->Prop,(∃m,W 0 m a H1)/\∀i m a H,W i m a H ->
 (J.stop i H/\D.nx a H)\/(J.go i H/\∃N:St->Hp->Prop,(∀b c,N b c->∃e,e<m/\W (i+1) e b c)/\∀x c,J.yld i H x c->g x a c λd H2=>h {D with nx:=N,ct:=N,bk:=D.nx} d H2)
noncomputable def gY(a:List Addr) (h:Heap):List (Addr×Obj):=a.filterMap λb=>(h.get? b).map λo=>(b,o)
theorem CK{h:Heap}(a:b∈fp)(e:h.get? b=some o):(b,o)∈gY fp h:=List.mem_filterMap.mpr ⟨b,a,by rw[e];rfl⟩
theorem NM(d:p∈gY fp h):p.1∈fp/\h.get? p.1=some p.2:=by
 obtain⟨b,a,e⟩:=List.mem_filterMap.mp d;cases q:h.get? b with
 |none=>rw[q] at e;cases e
 |some o=>
  rw[q] at e;have c:(b,o)=p:=fY e;subst c;exact⟨a,q⟩
theorem Inv.pinned(I:'&')(g:∀b∈f,dX X aW H b)(k:∀b∈f,∃o,s.heap.get? b=some o/\∀v,o.data≠.cell v):Inv X (aW++gY f s.heap) σ H s:=
 I.pins_of λp j=>(fh.mp j).elim (λz=>I.pin p (gE _ z)) λz=>by
  obtain⟨a,e⟩:=NM z;obtain⟨i,h,l,_⟩:=g p.1 a;obtain⟨o,c,d⟩:=k p.1 a;rw[e] at c;cases c
  exact⟨e,i,h,l,d⟩
theorem Inv.unpinned(I:Inv X (aW++pl) σ H s):Inv X aW σ H s:=I.pins_of λp a=>I.pin p (gE _ (uU _ a))
section
variable {X:Cx}{tg:Expr}
theorem Im{iter:Expr}{w:List Stmt}{wi:TI}{g:TG}{tb:TS}{a0:Pos}(C:PassesOwn '#' X.A X.env X.xe)(hc:X.calm=true)(hi:PI X tg iter wi)(hg:PG X tg g)(k:jJ X w tb)
  (hs:∀x,foldedSetIterable iter X.env x=pure x:=by intro _;rfl):PS X (.For tg iter w [] a0) (OU wi g tb):=by
 intro z s σ H D I h;refine wpAny_For (aZ (hi z s σ H _ I h) λv s1 h1=>aZ h1 λa3 s2 h2=>?_) hs;obtain⟨it,G,tn,J,H2,e,I2,T,U,f2,W,⟨m0,w0⟩,Q⟩:=h2;subst e;have q:∀{H':Hp},(∀b∈G,H' b=none)->∀b∈G,dX X z H' b:=λhn b k=>⟨hn b k,(f2 b k).2⟩
 refine codeAny_forLoop_any (λn s'=>∃i p H',Inv X z p H' s'/\tn i s'.heap/\(∀b∈G,H' b=none)/\W i n p H') ?_ m0 ⟨0,σ,H2,I2,U,λb k=>(f2 b k).1,w0⟩;rintro n s3 ⟨i,l,H3,I3,E,R,w3⟩;rcases Q i n l H3 w3 with⟨S,qn⟩|⟨go,N,hN,step⟩
 ·refine sI C (aZ (T.done X rfl rfl rfl hc i z s3 l H3 X.xe I3 (q R) E S) λr s4 c=>?_);obtain⟨hr,I4⟩:=c;subst hr;exact Dg ⟨l,H3,I4,qn⟩
 ·refine sI C (aZ (T.item X rfl rfl rfl hc i z s3 l H3 X.xe I3 (q R) E go) λr s4 c=>?_);obtain⟨u,hr,h4⟩:=c;subst hr;refine sI C (aZ h4 λ_ s5 c=>?_);obtain⟨x,H5,I5,r5,y5,A,a2⟩:=c;have Y:=I5.pinned (q a2) (T.obj _ _ A);refine sI C (aZ (hg _ s5 l H5 x u _ Y r5 (step x H5 y5)) λ_ s6 c=>?_);obtain⟨a1,H6,I6,q6⟩:=c;refine sI C (aZ (k _ s6 a1 H6 _ I6 q6) λf s7 y=>?_);have again:∀{a:St}{j:Hp},Inv X (z++gY G s5.heap) a j s7->N a j->∃m,m<n/\∃i p H',Inv X z p H' s7/\tn i s7.heap/\(∀b∈G,H' b=none)/\W i m p H':=λ{a j} t P=>by
   obtain⟨m',hm,w7⟩:=hN a j P;refine⟨m',hm,i+1,a,j,t.unpinned,T.keep _ _ _ A λb k o e=>(t.pin (b,o) (gE _ (gE _ (CK k e)))).1,λb k=>?_,w7⟩;obtain⟨o,e,d⟩:=T.obj _ _ A b k;exact(t.pin (b,o) (gE _ (gE _ (CK k e)))).2.1
  cases f with
  |next=>obtain⟨a,j,t,P⟩:=y;exact again t P
  |cont=>obtain⟨a,j,t,P⟩:=y;exact again t P
  |brk=>obtain⟨a,j,t,y⟩:=y;exact⟨a,j,t.unpinned,y⟩
  |ret v=>obtain⟨x7,a,j,t,r7,y⟩:=y;exact⟨x7,a,j,t.unpinned,r7,y⟩
end
abbrev R2:=V->V->Hp->VK->Prop
def di(X:Cx) (f:Value->Value->Sem Value) (r:R2):Prop:=
 ∀(a:List (Addr×Obj)) (s:Shared) (b:St) (H:Hp) (x y:V) (v u:Value) (Q:VK),Inv X a b H s->RelV x v->RelV y u->r x y H Q ->
  wpAny '#' X.A (f v u) (EP X a b Q) X.xe s
def PH(X:Cx) (f:Value->Sem Value) (r:V->Hp->VK->Prop):Prop:=
 ∀(a:List (Addr×Obj)) (s:Shared) (b:St) (H:Hp) (x:V) (v:Value) (Q:VK),Inv X a b H s->RelV x v->r x H Q ->
  wpAny '#' X.A (f v) (EP X a b Q) X.xe s
def bF(X:Cx) (f:Value) (r:List V->Hp->VK->Prop):Prop:=
 ∀(b:List (Addr×Obj)) (s:Shared) (c:St) (H:Hp) (a:List V) (d:List Value) (Q:VK),Inv X b c H s->ah a d->r a H Q ->
  wpAny '#' X.A (call f d) (EP X b c Q) X.xe s
def BF(X:Cx) (r:V->Hp->(Bool->Hp->Prop)->Prop):Prop:=
 ∀(a:List (Addr×Obj)) (s:Shared) (b:St) (H:Hp) (x:V) (v:Value) (Q:Bool->Hp->Prop),Inv X a b H s->RelV x v->r x H Q ->
  wpAny '#' X.A (truthy v) (TP X a b Q) X.xe s
def zI(r:R2) (c b:TE):TE:=λa H Q=>c a H λx H1=>b a H1 λy H2=>r x y H2 Q
def Wi(r:V->Hp->VK->Prop) (b:TE):TE:=λa H Q=>b a H λx H1=>r x H1 Q
def rI(C:Int->Int->Prop) (g:Int->Int->V):R2:=λx y H Q=>∃i j,x=.int i/\y=.int j/\C i j/\Q (g i j) H
def lJ(g:Int->Int->V):R2:=λx y H Q=>∃i j,x=.int i/\y=.int j/\Q (g i j) H
def rU(g:Int->V):V->Hp->VK->Prop:=λx H Q=>∃i,x=.int i/\Q (g i) H
section
variable {X:Cx}{a:Expr}{b:Expr}{ta:TE}{tb:TE}
theorem tQ(t:PE X a ta)(l:PE X b tb){j:List (Addr×Obj)}{s:Shared}{d:St}{H:Hp}{R:V->V->Hp->Prop}(I:Inv X j d H s)
  (h:ta d H λx H1=>tb d H1 λy H2=>R x y H2){Q:Value->Shared->Prop}{f:Value->Value->Sem Value}
  (m:∀v u i x y H2,Inv X j d H2 i->RelV x v->RelV y u->R x y H2->wpAny '#' X.A (f v u) Q X.xe i):
  wpAny '#' X.A (eval a X.env) (λv e=>wpAny '#' X.A (eval b X.env) (λu g=>wpAny '#' X.A (f v u) Q X.xe g) X.xe e) X.xe s:=by
 refine aZ (t j s d H _ I h) λv k c=>?_
 obtain⟨x,H1,p,q,r⟩:=c;refine aZ (l j k d H1 _ p r) λu i c=>?_
 obtain⟨y,H2,w,n,o⟩:=c;exact m v u i x y H2 w q n o
end
section
variable {X:Cx}{a:Expr}{b:Expr}{ta:TE}{tb:TE}{pos:Pos}
theorem Gp{c:Operator}{r:R2}(i:di X (binaryOp c) r)(k:PE X a ta)(e:PE X b tb):PE X (.BinOp a c b pos) (zI r ta tb):=by
 intro j s f H Q I h;exact wpAny_BinOp (tQ k e I h λv u g x y H2 l d m q=>i j g f H2 x y v u Q l d m q)
end
section
variable {X:Cx}{a:Expr}{ta:TE}{pos:Pos}
theorem Gr{b:UnaryOp}{r:V->Hp->VK->Prop}(g:PH X (unaryOp b) r)(k:PE X a ta):PE X (.UnaryOp b a pos) (Wi r ta):=by
 intro d s c H Q I h;exact UnaryOp_ (aZ (k d s c H _ I h) λv e ⟨x,H1,f,i,j⟩=>g d e c H1 x v Q f i j)
end
section
variable {X:Cx}
theorem tG{f:Value->Value->Sem Value}{C:Int->Int->Prop}{g:Int->Int->Int}
  (rule:∀(i j:Int) (t u:Tok) (s:Shared) (Q:Value->Shared->Prop) (E:Value->Shared->Prop),C i j->Q (.int (g i j) s.toks) {s with toks:=s.toks+1}->wpAny '#' X.A (f (.int i t) (.int j u)) Q E s):
  di X f (rI C λi j=>.int (g i j)):=by
 intro k s e H x y v u Q I b d h;obtain⟨i,j,rfl,rfl,c,q⟩:=h;obtain⟨t,rfl⟩:=b;obtain⟨a,rfl⟩:=d;exact rule i j t a s _ _ c ⟨.int (g i j),H,I.tok _,⟨_,rfl⟩,q⟩
theorem pF{f:Value->Value->Sem Value}{g:Int->Int->Int}
  (rule:∀(i j:Int) (t u:Tok) (s:Shared) (Q:Value->Shared->Prop) (E:Value->Shared->Prop),Q (.int (g i j) s.toks) {s with toks:=s.toks+1}->wpAny '#' X.A (f (.int i t) (.int j u)) Q E s):
  di X f (lJ λi j=>.int (g i j)):=by
 intro e s d H x y v u Q I b c h;obtain⟨i,j,rfl,rfl,q⟩:=h;obtain⟨t,rfl⟩:=b;obtain⟨a,rfl⟩:=c;exact rule i j t a s _ _ ⟨.int (g i j),H,I.tok _,⟨_,rfl⟩,q⟩
theorem pG{f:Value->Value->Sem Value}{g:Int->Int->Bool}
  (rule:∀(i j:Int) (t u:Tok) (s:Shared) (Q:Value->Shared->Prop) (E:Value->Shared->Prop),Q (.bool (g i j)) s->wpAny '#' X.A (f (.int i t) (.int j u)) Q E s):
  di X f (lJ λi j=>.bl (g i j)):=by
 intro e s d H x y v u Q I b c h;obtain⟨i,j,rfl,rfl,q⟩:=h;obtain⟨t,rfl⟩:=b;obtain⟨a,rfl⟩:=c;exact rule i j t a s _ _ ⟨.bl (g i j),H,I,rfl,q⟩
end
noncomputable def jN(i j:Int):Prop:=0<=j/\j<=1000000/\i.natAbs<2^64
noncomputable def eS(i j:Int):Prop:=(-(2^64)<i/\i<2^64)\/(-(2^64)<j/\j<2^64)
theorem eS.ok(h:eS i j):IntMulOk i j:=by
 rcases h with⟨b,a⟩|⟨b,a⟩
 ·exact .of_left (intBits_le_64 b a)
 ·exact .of_right (intBits_le_64 b a)
theorem Ut(k:Nat):(0:Int)<=2^k:=by
 rw[two_pow_cast];exact Int.natCast_nonneg _
theorem HN:di X (binaryOp .Add) (lJ λi j=>.int (i+j)):=pF λ_ _ _ _ _ _ _ q=>add_int q
theorem xo:di X (binaryOp .Sub) (lJ λi j=>.int (i-j)):=pF λ_ _ _ _ _ _ _ q=>sub_int q
section
variable {X:Cx}
theorem kx:di X (binaryOp .Mult) (rI eS λi j=>.int (i*j)):=tG λ_ _ _ _ _ _ _ a q=>mul_int q a.ok
end
theorem ui:di X (binaryOp .Mod) (rI (λ_ j=>0<j) λi j=>.int (i%j)):=tG λi j _ _ _ _ _ a q=>by
 have b:(0:Int)<j:=a;exact mod_int' '!' (by rw[Int.fmod_eq_emod_of_nonneg i '!'];exact q)
section
variable {X:Cx}
theorem HR:di X (binaryOp .Pow) (rI jN λi j=>.int (i^j.toNat)):=tG λ_ _ _ _ _ _ _ a q=>pow_int_small a.1 a.2.1 a.2.2 q
theorem oV:di X (binaryOp .LShift) (rI jN λi j=>.int (i*2^j.toNat)):=tG λ_ _ _ _ _ _ _ a q=>lshift_int_small a.1 a.2.1 a.2.2 q
end
theorem xn:di X (binaryOp .RShift) (rI (λ_ j=>0<=j) λi j=>.int (i/2^j.toNat)):=tG λi j _ _ _ _ _ a q=>
 rshift_int a (by rw[SF i (Ut _)];exact q)
theorem vk:di X (binaryOp .BitAnd) (lJ λi j=>.int (Builtin.bitAnd i j)):=pF λ_ _ _ _ _ _ _ q=>and_int q
theorem Gk:di X (binaryOp .BitOr) (lJ λi j=>.int (Builtin.bitOr i j)):=pF λ_ _ _ _ _ _ _ q=>or_int q
section
variable {X:Cx}
theorem Wh{f:Value->Sem Value}{g:Int->Int}
  (rule:∀(i:Int) (t:Tok) (s:Shared) (Q:Value->Shared->Prop) (E:Value->Shared->Prop),Q (.int (g i) s.toks) {s with toks:=s.toks+1}->wpAny '#' X.A (f (.int i t)) Q E s):
  PH X f (rU λi=>.int (g i)):=by
 intro b s c H x v Q I a h;obtain⟨i,rfl,q⟩:=h;obtain⟨t,rfl⟩:=a;exact rule i t s _ _ ⟨.int (g i),H,I.tok _,⟨_,rfl⟩,q⟩
end
theorem IH:PH X (unaryOp .USub) (rU λi=>.int (-i)):=Wh λ_ _ _ _ _ q=>neg_int q
theorem Hl(I:'&')(q:Q (.bl k) H)(e:k=k'):EP X aW σ Q (.bool k') s:=by
 subst e;exact⟨.bl k,H,I,rfl,q⟩
theorem Gj:di X (compareOp .Lt) (lJ λi j=>.bl (decide (i<j))):=pG λ_ _ _ _ _ _ _ q=>lt_int q
theorem oQ:di X (compareOp .LtE) (lJ λi j=>.bl (decide (i<=j))):=pG λ_ _ _ _ _ _ _ q=>le_int q
theorem j5:di X (compareOp .Gt) (lJ λi j=>.bl (decide (j<i))):=pG λ_ _ _ _ _ _ _ q=>gt_int q
theorem Gi:di X (compareOp .GtE) (lJ λi j=>.bl (decide (j<=i))):=pG λ_ _ _ _ _ _ _ q=>ge_int q
theorem J7:di X (compareOp .IsNot) (λx y H Q=>y=.non/\Q (.bl (!decide (x=.non))) H):=by
 intro c s d H x y v u Q I a b h;obtain⟨rfl,q⟩:=h;cases b;refine isnot_none_gen (Hl I q ?_);cases x<;>first
  | (cases a;rfl)
  | (obtain⟨t,rfl⟩:=a;rfl)
theorem di.or(h:di X f r)(e:di X f r'):di X f (λx y H Q=>r x y H Q\/r' x y H Q):=by
 intro c s b H x y v u Q I a d q;rcases q with q|q
 ·exact h c s b H x y v u Q I a d q
 ·exact e c s b H x y v u Q I a d q
theorem az(b:Expr) (h:op≠.In:=by decide)(c:op≠.NotIn:=by decide):behindInMarks op b=false:=by
 have d:(op==CmpOp.In)=false:=by cases op<;>first|rfl|exact absurd rfl h
 have a:(op==CmpOp.NotIn)=false:=by cases op<;>first|rfl|exact absurd rfl c
 cases b<;>simp[behindInMarks,d,a]
theorem Kd(i:di X (compareOp op) r)(k:PE X a ta)(d:PE X b tb)(g:behindInMarks op b=false):PE X (.Compare a [op] [b] pos) (zI r ta tb):=by
 intro j s e H Q I h;exact wpAny_Compare1 (tQ k d I h λv u f x y H2 l c m q=>i j f e H2 x y v u Q l c m q) g
def qz(t:TE):TT:=λb H Q=>t b H λx a=>∃k,x=.bl k/\Q k a
section
variable {X:Cx}{a:Expr}{b:Expr}{c:Expr}{ta:TE}{tb:TE}{pos:Pos}
theorem Kv{f:CmpOp}{r:R2}(E:di X (compareOp f) r)(q:PE X a ta)(t:PE X b tb)(p:behindInMarks f b=false):PT X (.Compare a [f] [b] pos) (qz (zI r ta tb)):=by
 intro d s g H Q I h
 refine wpAny_isTrue_Compare1 (aZ (q d s g H _ I h) λv i ⟨x,H1,A,o,m⟩=>aZ (t d i g H1 _ A m) λu w ⟨y,H2,G,C,l⟩=>
  aZ (E d w g H2 x y v u _ G o C l) λc P ⟨z,H3,n,j,k,e,J⟩=>?_) p
 subst e;cases j;exact mQ ⟨H3,n,J⟩
end
def mZ(r g:R2) (d e b:TE):TE:=λa H Q=>d a H λx H1=>e a H1 λy H2=>r x y H2 λz H3=>∃k,z=.bl k /\
 (if k=true then b a H3 λc f=>g y c f Q else Q (.bl false) H3)
section
variable {X:Cx}{a:Expr}{b:Expr}{c:Expr}{ta:TE}{tb:TE}{tc:TE}{pos:Pos}
theorem MA{l f:CmpOp}{r q:R2}(ho:di X (compareOp l) r)(j:di X (compareOp f) q)(ha:PE X a ta)(hb:PE X b tb)(E:PE X c tc)
  (Y:lastMarks [l,f] [b,c]=false:=by with_unfolding_all rfl):PT X (.Compare a [l,f] [b,c] pos) (qz (mZ r q ta tb tc)):=by
 intro g s i H Q I h
 refine isTrue_chain (aZ (ha g s i H _ I h) λv t ⟨x,H1,I1,U,R⟩=>test_link (aZ (hb g t i H1 _ I1 R) λu s2 ⟨y,H2,I2,o,G⟩=>
  aZ (ho g s2 i H2 x y v u _ I2 U o G) λd S ⟨z,H3,n,A,k,e,p⟩=>?_)) Y
 subst e;cases A;refine mQ ?_;cases k with
 |false=>
  obtain⟨k',C,q'⟩:=p;cases C;exact ite_ff ⟨H3,n,q'⟩
 |true=>
  refine ite_tt (test_last (aZ (E g S i H3 _ n p) λw' s4 ⟨z',H4,I4,w,q4⟩=>aZ (j g s4 i H4 y z' u w' _ I4 o w q4) λd' s5 m=>?_));obtain⟨z2,H5,P,J,k2,e2,T⟩:=m;subst e2;cases J;exact mQ ⟨H5,P,T⟩
end
def tU(K:Fg) (x:V) (H:Hp) (k:Bool):Prop:=
 match x with
 |.non=>k=false
 |.bl b=>k=b
 |.int i=>k=(i != 0)
 |.str y=>y.length<=sizeLine/\k=((y.length:Int) != 0)
 |.byt y=>y.size<=sizeLine/\k=((y.size:Int) != 0)
 |.ref p=>(∃a,da K H p a/\k=!a.isEmpty)\/(∃a,bz K H p a/\k=!a.isEmpty)\/∃c,H p=some (.dK c)/\k=!c.isEmpty
 |_=>False
theorem T5{b:Type}{a:List (b×V)}{c:List (b×Value)}(r:KV a c):(!c.isEmpty)=!a.isEmpty:=by
 cases r<;>rfl
theorem Rr(r:ah xs its):(!its.toArray.isEmpty)=!xs.isEmpty:=by
 cases r<;>simp
theorem ew:(sizeLine:Nat)<2^63:=by rw[iC];decide
section
variable {X:Cx}{b:Expr}
theorem IG:BF X (λx H Q=>∃k,tU X.K x H k/\Q k H):=by
 intro E s A H x v Q I g h;obtain⟨k,e,q⟩:=h;have C:=ew;have z:sizeLine=16777216:=iC;cases x with
 |non=>
  cases g;have a:k=false:=e;subst a;exact truthy_none ⟨H,I,q⟩
 |bl b=>
  cases g;have a:k=b:=e;subst a;exact mQ ⟨H,I,q⟩
 |int i=>
  obtain⟨t,rfl⟩:=g;have a:k=(i != 0):=e;subst a;exact PySem.P.truthy_int ⟨H,I,q⟩
 |str y=>
  obtain⟨t,rfl⟩:=g;obtain⟨w,a⟩:y.length<=sizeLine/\k=((y.length:Int) != 0):=e;subst a;exact PySem.P.truthy_str '!' ⟨H,I.tok _,q⟩
 |byt y=>
  obtain⟨t,rfl⟩:=g;obtain⟨w,a⟩:y.size<=sizeLine/\k=((y.size:Int) != 0):=e;subst a;exact W.truthy_bytes '!' ⟨H,I.tok _,q⟩
 |ref p=>
  cases g;have a:(∃f,da X.K H p f/\k=!f.isEmpty)\/(∃f,bz X.K H p f/\k=!f.isEmpty)\/∃c,H p=some (.dK c)/\k=!c.isEmpty:=e
  rcases a with⟨f,j,a⟩|⟨f,j,a⟩|⟨c,j,a⟩
  ·subst a;obtain⟨l,r,n,o⟩:=I.list j;have d:=r.length;exact wpAny_truthy_list n.isList (by simp only[dH];lia) ⟨H,I.tok _,by rw[Rr r];exact q⟩
  ·subst a;obtain⟨l,r,n,o⟩:=I.tuple j;have d:=r.length;exact truthy_tuple n (by simp only[dH];lia) ⟨H,I.tok _,by rw[Rr r];exact q⟩
  ·subst a;obtain⟨o,u,vs,r,m⟩:c.length<=sizeLine/\(p==sysModules)=false/\∃vs,KV c vs/\s.heap.DictOf (ay X.prog X.w) p vs:=I.hok p _ j
   have d:c.length=vs.length:=sC r;exact wpAny_truthy_dict u m '!' ⟨H,I.tok _,by rw[T5 r];exact q⟩
 |_=>exact(show False from e).elim
end
section
variable {X:Cx}{a:Expr}{ta:TE}
theorem Qi(m:PE X a ta)(g:∀b,isTrue a X.env b=(do let v ←b;standAt a.pos;holding [v] (truthy v))):
  PT X a (λc H Q=>ta c H λx d=>∃k,tU X.K x d k/\Q k d):=by
 intro e s c H Q I h;exact isTrue_plain (aZ (m e s c H _ I h) λv f ⟨x,H1,i,j,l⟩=>IG e f c H1 x v Q i j l) (g _)
end
theorem Ue:di X (binaryOp .Add) (λx y H Q=>∃i j,x=.str i/\y=.str j/\i.length+j.length<=sizeLine/\Q (.str (i++j)) H):=by
 intro g s f H x y v u Q I b d h;obtain⟨i,j,rfl,rfl,c,q⟩:=h;obtain⟨t,rfl⟩:=b;obtain⟨a,rfl⟩:=d;exact add_str (λa e=>⟨.str (i++j),H,I.tok _,⟨_,rfl⟩,q⟩) c
theorem vals1(r:ah [x] us):∃u,us=[u]/\RelV x u:=by
 cases r with
 |cons r1 r2=>cases r2;exact⟨_,rfl,r1⟩
theorem vals2(r:ah [x,y] us):∃u w',us=[u,w']/\RelV x u/\RelV y w':=by
 cases r with
 |cons r1 r2=>
  cases r2 with
  |cons r3 r4=>cases r4;exact⟨_,_,rfl,r1,r3⟩
theorem K7:bF X (.builtin "abs") (λa H Q=>∃ i,a=[.int i]/\Q (.int (if i<0 then -i else i)) H):=by
 intro e s c H a d Q I r h;obtain⟨i,rfl,q⟩:=h;obtain⟨u,rfl,t,rfl⟩:=vals1 r;exact call_abs_int λu b=>⟨.int (if i<0 then -i else i),H,I.tok _,⟨_,rfl⟩,q⟩
theorem Nc{X:Cx}(b:X.calm=true):bF X (.builtin "max") (λa H Q=>∃ i j,a=[.int i,.int j]/\Q (.int (if j > i then j else i)) H):=by
 intro m s e H a g Q I r h;obtain⟨i,j,rfl,q⟩:=h;obtain⟨u,f,rfl,⟨t,rfl⟩,⟨c,rfl⟩⟩:=vals2 r;refine max_two_ints (I.ok.hd b) λl d k=>⟨_,H,I.kept k,?_,q⟩
 by_cases hj:j > i
 ·rw[if_pos hj,if_pos hj];exact⟨_,rfl⟩
 ·rw[if_neg hj,if_neg hj];exact⟨_,rfl⟩
theorem rj{X:Cx}(b:X.calm=true):bF X (.builtin "min") (λa H Q=>∃ i j,a=[.int i,.int j]/\Q (.int (if j<i then j else i)) H):=by
 intro m s e H a g Q I r h;obtain⟨i,j,rfl,q⟩:=h;obtain⟨u,f,rfl,⟨t,rfl⟩,⟨c,rfl⟩⟩:=vals2 r;refine min_two_ints (I.ok.hd b) λl d k=>⟨_,H,I.kept k,?_,q⟩
 by_cases hj:j<i
 ·rw[if_pos hj,if_pos hj];exact⟨_,rfl⟩
 ·rw[if_neg hj,if_neg hj];exact⟨_,rfl⟩
theorem Nb:bF X (.type "int") (λa H Q=>(∃ i,a=[.int i]/\Q (.int i) H)\/∃ k,a=[.bl k]/\Q (.int (if k then 1 else 0)) H):=by
 intro e s c H a d Q I r h;rcases h with⟨i,rfl,q⟩|⟨k,rfl,q⟩
 ·obtain⟨u,rfl,t,rfl⟩:=vals1 r;exact call_int_int ⟨.int i,H,I,⟨_,rfl⟩,q⟩
 ·obtain⟨u,rfl,b⟩:=vals1 r;cases b;exact call_int_bool ⟨.int (if k then 1 else 0),H,I.tok _,⟨_,rfl⟩,q⟩
structure ua (h:Heap) (x dx C:Addr) (mA:Str->Option Value):Prop where
 obj:h.get? x=some (W.instObj C dx)
 ns:h.Ns1 dx mA
 ne:dx≠x
theorem NC{h:Heap}(n:h.Ns1 dx mA):∃c,h.get? dx=some c/\∀name,W.lookIn name c=some (mA name):=by
 obtain⟨o,d,m,g,j,f,_,k⟩:=n;refine⟨o,g,λname=>?_⟩;have e:=k name;unfold nsFind findBy at e;rw[←Array.find?_toList] at e;unfold W.lookIn;rw[j];dsimp only;split
 ·rename_i y q;rw[q] at e;exact congrArg some e
 ·rename_i q;rw[q] at e;have a:d.toList.any (·.refKey)=false:=by
   rw[List.any_eq_false];intro y l;obtain⟨z,t,b⟩:=f y (Array.mem_toList_iff.mp l);simp[DictEntry.refKey,b]
  have i:¬ d.toList.any (·.refKey)=true:=by rw[a];exact og
  rw[if_neg i];exact congrArg some e
theorem ua.look(I:ua h x dx C mA):∃a,W.InstAt h x (W.instObj C dx) C (some a)/\∀name,W.lookIn name a=some (mA name):=
 let ⟨a,ho,hl⟩:=NC I.ns
 ⟨a,⟨I.obj,rfl,rfl,ho⟩,hl⟩
theorem fE.some_of(r:fE (some v) o):∃u,o=some u/\RelV v u:=by
 cases o with
 |none=>exact(show False from r).elim
 |some u=>exact⟨u,rfl,r⟩
theorem Jv(c:fL P w H h)(e:H a=some (.ins C dx fs)):∃b,ua h a dx C b/\(∀f,fE (fs.lookup f) (b f))/\PySem.Within b (fs.map (·.1))/\fs.length<=1000/\H dx=some (.own a):=by
 obtain⟨d,z,i,g,b,n,r,q⟩:=(show ar P w H h a (.ins C dx fs) from c a _ e)
 exact⟨b,⟨g,n,i⟩,r,q,z,d⟩
structure PQ (K:Fg) (C:Addr):Prop where
 pg:W.plainGet K C Str.empty=true
 hd:W.hasDictIn K C=true
 po:W.plainOver K C=true
 sa:W.findIn K (.ref C) "__setattr__"=some (some (.builtin "object.__setattr__"))
theorem PQ.get{K:Fg}{C:Addr}(c:PQ K C)(f:Str):W.plainGet K C f=true:=c.pg
inductive fD (K:Fg) (H:Hp):V->Value->Prop where
 |non:fD K H .non (.type "NoneType")
 |bl (x:Bool):fD K H (.bl x) (.type "bool")
 |int (i:Int):fD K H (.int i) (.type "int")
 |str (x:Str):fD K H (.str x) (.type "str")
 |flt (x:UInt64):fD K H (.flt x) (.type "float")
 |lst {a:Addr}{xs:List V}(e:H a=some (.lst xs)):fD K H (.ref a) (.type "list")
 |frz {a:Addr}{o:Obj}{xs:List V}(e:H a=some (.frz o (.lst xs))):fD K H (.ref a) (.type "list")
 |tup {a:Addr}{xs:List V}(e:H a=some (.tup xs)):fD K H (.ref a) (.type "tuple")
 |dK {a:Addr}{kvs:List (cG×V)}(e:H a=some (.dK kvs)):fD K H (.ref a) (.type "dict")
 |dT {a:Addr}{kvs:List (List cG×V)}(e:H a=some (.dT kvs)):fD K H (.ref a) (.type "dict")
 |ins {a C dx:Addr}{fs:List (Str×V)}(e:H a=some (.ins C dx fs)) (cl:PQ K C) (ha:W.findIn K (.ref C) "__class__"=some (some (.builtin "object.__class__")))
  (hn:W.specialIn K (.builtin "object.__class__") "__get__"=some (some (.builtin "getset_descriptor.__get__")))(htk:W.takesIn K (.builtin "object.__class__")=some true)
  (hm:W.mroIn K C (.type "object")=some true):fD K H (.ref a) (.ref C)
theorem Ny(I:'&')(d:RelV x u)(l:fD X.K H x t)(e:W.kitOne X.K t c=some b)(h:∀k,Q (.bool b) {s with toks:=k}):
  wpAny '#' A (call (.builtin "isinstance") [u,c]) Q E s:=by
 cases l with
 |non=>cases(show u=Value.none from d);exact mM W.kitx_none I.kIn True.intro e (λz=>nomatch z) h
 |bl y=>cases(show u=Value.bool y from d);exact mM W.kitx_bool I.kIn True.intro e (λz=>nomatch z) h
 |int i=>obtain⟨t,q⟩:=(show ∃t,u=Value.int i t from d);cases q;exact mM W.kitx_int I.kIn True.intro e (λz=>nomatch z) h
 |str y=>obtain⟨t,q⟩:=(show ∃t,u=Value.str y t from d);cases q;exact mM W.kitx_str I.kIn True.intro e (λz=>nomatch z) h
 |flt y=>obtain⟨t,q⟩:=(show ∃t,u=Value.float y t from d);cases q;exact mM W.kitx_float I.kIn True.intro e (λz=>nomatch z) h
 |@lst a g ea=>
  cases(show u=Value.ref a from d);obtain⟨_,_,n,_,f⟩:=(show ar X.prog X.w H s.heap a (.lst g) from I.hok a _ ea)
  exact mM W.kitx_list I.kIn ⟨_,f,rfl⟩ e (λz=>nomatch z) h
 |@frz a ob g ea=>
  cases(show u=Value.ref a from d);obtain⟨_,_,_,n,_,f⟩:=(show ar X.prog X.w H s.heap a (.frz ob (.lst g)) from I.hok a _ ea)
  exact mM W.kitx_list I.kIn ⟨_,f,rfl⟩ e (λz=>nomatch z) h
 |@tup a g ea=>
  cases(show u=Value.ref a from d);obtain⟨_,_,_,p⟩:=(show ar X.prog X.w H s.heap a (.tup g) from I.hok a _ ea)
  obtain⟨o,f,j,_⟩:=p;exact mM W.kitx_tuple I.kIn ⟨o,f,j⟩ e (λz=>nomatch z) h
 |@dK a kvs ea=>
  cases(show u=Value.ref a from d);obtain⟨_,_,w,_,p⟩:=(show ar X.prog X.w H s.heap a (.dK kvs) from I.hok a _ ea)
  obtain⟨o,r,m,f,j,_⟩:=p;exact mM W.kitx_dict I.kIn ⟨o,f,j.1⟩ e (λz=>nomatch z) h
 |@dT a kvs ea=>
  cases(show u=Value.ref a from d);obtain⟨_,_,g,_,o,r,m,f,j,_⟩:=(show ar X.prog X.w H s.heap a (.dT kvs) from I.hok a _ ea)
  exact mM W.kitx_dict I.kIn ⟨o,f,j.1⟩ e (λz=>nomatch z) h
 |@ins a C dx fs ea cl ha hn htk hm=>
  cases(show u=Value.ref a from d);obtain⟨G,O,_⟩:=Jv I.hok ea;obtain⟨v,J,_⟩:=O.look;exact mM (W.kitx_own (cl.get _) cl.hd ha hn htk hm) I.kIn J e (λz=>nomatch z) h
structure bN (k:Nat) (A:Around):Prop where
 hd:A.handled=none
 dp:A.depth+3*k+5<recursionLimit
 un:A.units+16*k+200<cLine
theorem bN.mono(r:bN k A)(h:j<=k):bN j A:=⟨r.hd,by have:=r.dp;lia,by have:=r.un;lia⟩
theorem bN.deeper(r:bN (k+1) A)(a:Env):bN k (A.deeper a):=
 ⟨r.hd,by have:=r.dp;show A.depth+1+3*k+5<_;lia,by have:=r.un;show A.units+3+16*k+200<_;lia⟩
theorem bN.in1(r:bN (k+1) A):bN k A.in1:=
 ⟨r.hd,by have:=r.dp;show A.depth+3*k+5<_;lia,by have:=r.un;show A.units+1+16*k+200<_;lia⟩
theorem bN.depth(r:bN k A):A.depth<recursionLimit:=by have:=r.dp;lia
theorem bN.units(r:bN k A):A.units+64<cLine:=by have:=r.un;lia
theorem bN.units0(r:bN k A):A.units<cLine:=by have:=r.un;lia
def OR:TA:=λ_ H Q=>Q [] H
def zN(d:TE) (c:TA):TA:=λa H Q=>d a H λx H1=>c a H1 λb H2=>Q (x::b) H2
theorem xq:PA X [] OR:=λ_ _ _ _ H Q I h=>sN ⟨[],H,I,.nil,h⟩
theorem yt(p:PE X e te)(g:PA X es t)(j:starEach (e::es) X.env=(false,eval e X.env)::starEach es X.env:=by rfl):PA X (e::es) (zN te t):=by
 intro a d s c H Q I h;rw[j];show wpAny _ _ (spliced ((false,eval e X.env)::backTo a (starEach es X.env))) _ _ s;refine qq (aZ (p d s c H _ I h) λu f b=>?_);obtain⟨x,H1,m,n,o⟩:=b;exact aZ (g a d f c H1 _ m o) λv r ⟨i,H2,q,k,l⟩=>⟨x::i,H2,q,.cons n k,l⟩
def OM(t:TA):TE:=λb H Q=>t b H λa H1=>a.length<=sizeLine/\∀p,H1 p=none->Q (.ref p) (aq H1 p (.tup a))
def OS(t:TA):TE:=λb H Q=>t b H λa H1=>a.length<=sizeLine/\∀p,H1 p=none->Q (.ref p) (aq H1 p (.lst a))
theorem Ib{x1}(h:PA X es t):PE X (.Tuple es x1 pos) (OM t):=by
 intro k s g H Q I j;refine wpAny_Tuple_spliced (aZ (h pos k s g H _ I j) λi a ⟨d,H1,c,r,z,q⟩=>⟨by rw[←r.length];exact z,?_⟩);have f:H1 a.heap.objs.size=none:=c.hok.fresh (aY _);refine⟨.ref a.heap.objs.size,aq H1 a.heap.objs.size (.tup d),c.laid (t':=a.toks) (λb u e=>bX _ e) (aY _) ?_,rfl,q _ f⟩;exact⟨z,i,r,⟨_,ed _ rfl,rfl,_,rfl⟩⟩
theorem xu(h:PA X es t):PE X (.List es pos) (OS t):=by
 intro k s g H Q I j;refine wpAny_List_spliced (aZ (h pos k s g H _ I j) λi a ⟨d,H1,c,r,z,q⟩=>⟨by rw[←r.length];exact z,?_⟩);have f:H1 a.heap.objs.size=none:=c.hok.fresh (aY _);refine⟨.ref a.heap.objs.size,aq H1 a.heap.objs.size (.lst d),c.laid (t':=a.toks) (λb u e=>bX _ e) (aY _) ?_,rfl,q _ f⟩;exact⟨z,i,0,r,ed _ rfl⟩
abbrev Sp:=List V->Hp->VK->XK->Prop
abbrev ve:=List Env->Hp->Shared->XK->Value->Shared->Prop
structure kq (P:Program) (w:World) (K:Fg) (mg:Str->Option Value) (base:Heap) (A:Around) (outer:List Env) (s:Shared) (H:Hp):Prop where
 frames:A.frames=some outer
 mod:Mod K mg base
 bs:∀b o,base.get? b=some o->s.heap.get? b=some o/\H b=none
 bsz:base.objs.size<=s.heap.objs.size
 funs:s.heap.FunFrames base outer
 frf:∀b∈kQ outer,H b=none
 hok:fL P w H s.heap
 bare:AllBare s.gens
def CE(a:List Env) (P:Program) (w:World) (H:Hp) (s:Shared) (Q:VK) (u:Value) (b:Shared):Prop:=
 ∃v c,b.os=s.os/\AllBare b.gens/\Un (kQ a) [] H c s.heap b.heap/\fL P w c b.heap/\RelV v u/\Q v c
def CR(c:ve) (a:List Env) (P:Program) (w:World) (H:Hp) (s:Shared) (Q:VK) (E:XK) (r:Result) (b:Shared):Prop:=
 match r with
 |.ok (.ret u)=>CE a P w H s Q u b
 |.ok _=>False
 |.error e=>c a H s E e b
structure gk (P:Program) (w:World) (K:Fg) (mg:Str->Option Value) (base:Heap) (CX:ve) (k:Nat) (f:Addr) (fd:FuncData) (ps:List Str) (sp:Sp):Prop where
 len:∀vs H Q E,sp vs H Q E->vs.length=ps.length
 run:∀(A:Around) (outer:List Env) (s:Shared) (H:Hp) (args:Args) (us:List Value) (vs:List V) (Q:VK) (E:XK),bN k A->kq P w K mg base A outer s H->BindsTo s fd args (ps.zip us)->ah vs us->sp vs H Q E ->
  codeAny (model P w) A (.call (.ref f) args) (CR CX outer P w H s Q E) s
theorem kq.in1{K:Fg}(e:kq P w K mg base A outer s H):
 kq P w K mg base A.in1 outer s H:=⟨e.frames,e.mod,e.bs,e.bsz,e.funs,e.frf,e.hok,e.bare⟩
theorem Inv.env0(I:'&'):kq X.prog X.w X.K X.mg X.base X.A X.stack s H:=
 ⟨I.ok.frames,I.ok.mod,I.bs,ax I.ok.bsz I.sz,I.stack,I.stkFree,I.hok,I.bare⟩
theorem Inv.after(I:'&')(h:CE X.stack X.prog X.w H s Q u s'):EP X aW σ Q u s':=by
 obtain⟨v,j,os,a,f,e,r,q⟩:=h;obtain⟨i,g,d,t,c⟩:=s';obtain rfl:c=s.os:=os;exact⟨v,j,I.call (h':=i) (g':=g) (d':=d) (t':=t) (ch:=[]) f e a (λb z=>absurd z '%'),r,q⟩
def m3(d:Sp) (a:List V) (E:XK) (t:TA):TE:=λb H Q=>t b H λc H1=>d (c++a) H1 Q E
noncomputable def Binds(K:Fg) (d:FuncData) (c:List Str) (b:List Value):Prop:=
 ∀(s:Shared) (a:List Value),K.In s.heap->(a++b).length=c.length->BindsTo s d ⟨a,[]⟩ (c.zip (a++b))
theorem Binds.all{K:Fg}{b:List Str}(h:∀a:List Value,a.length=b.length->bindArgs fd ⟨a,[]⟩=pure (b.zip a)):Binds K fd b []:=λs a _ c=>by
 rw[lD] at c ⊢;exact .of_eq (h a c)
def ko(d:ve) (X:Cx) (E:XK):Prop:=∀(b:List (Addr×Obj)) (c:St) (H:Hp) (s:Shared) (e:Value) (a:Shared),Inv X b c H s->d X.stack H s E e a->X.xe e a
theorem Is{X:Cx}(F:gk X.prog X.w X.K X.mg X.base CX k f fd ps sp)(d:bN k X.A)(c:Binds X.K fd ps ds)(g:ah dvs ds)(i:ko CX X E)
  (I:'&')(r:ah vs us)(h:sp (vs++dvs) H Q E):wpAny '#' X.A (call (.ref f) us) (EP X aW σ Q) X.xe s:=by
 have b:ah (vs++dvs) (us++ds):=r.append g;have j:(us++ds).length=ps.length:=by rw[←b.length];exact F.len _ _ _ _ h
 refine wpAny_call (uD (F.run X.A X.stack s H ⟨us,[]⟩ (us++ds) (vs++dvs) Q E d I.env0 (c s us I.kIn j) b h) λr l a=>?_);cases r with
 |error e=>exact i aW σ H s e l I a
 |ok fl=>
  cases fl with
  |ret u=>exact I.after a
  |next=>exact False.elim a
  |brk=>exact False.elim a
  |cont=>exact False.elim a
theorem Kc{X:Cx}(F:gk X.prog X.w X.K X.mg X.base CX k f fd ps sp)(i:bN k X.A)(w:Gl X x)(m:X.mg x=some (.ref f))(j:W.keepIn X.K (.ref f)=true)(g:Binds X.K fd ps ds)(n:ah dvs ds)(o:ko CX X E)
  (v:PA X (e::es) t)(b:(x==("__debug__" : Str))=false:=by decide)(d:starEach (e::es) X.env=(false,eval e X.env)::starEach es X.env:=by rfl)(a:(backTo pos (starEach es X.env)).any (·.1)=false:=by rfl):
  PE X (.Call (.Name x p) (e::es) [] pos) (m3 sp dvs E t):=by
 intro u s l H Q I h;refine qo (Ep I w m ?_ b);refine W.callWith_K (h₀:=X.base) I.ok.mod.kin j (aZ (v pos u s l H _ I h) λA y ⟨z,H1,c,r,q⟩=>⟨c.kIn,?_⟩) d a;exact Is F i g n o c r q
structure cb (N P:List Str) (sc:Scope):Prop where
 kind:sc.kind=.function
 co:sc.isCoroutine=false
 gen:sc.isGenerator=false
 nd:N.Nodup
 pre:N.take P.length=P
 par:∀x∈P,sc.names.lookup x=some .local\/sc.names.lookup x=some .cell
 nofree:∀y∈sc.names,y.2≠.free
theorem QF{kindOf:Str->Option NameKind}:∀{a:List (Str×Value)}{m:Str->Option Value},(∀v,(x,v)∉a)->bindL kindOf a m x=m x
 |[],_,_=>rfl
 | (n,v)::r,m,h=>by
  unfold bindL;rw[QF λw b=>h w (cH _ b)];split
  ·have:x≠n:=by rintro rfl;exact h v eF
   simp[this]
  ·rfl
theorem QD{kindOf:Str->Option NameKind}:∀{a:List (Str×Value)}{m:Str->Option Value},(∀v,(x,v)∉a)->bindC kindOf a m x=m x
 |[],_,_=>rfl
 | (n,v)::r,m,h=>by
  unfold bindC;rw[QD λw b=>h w (cH _ b)];split
  ·rfl
  ·have:x≠n:=by rintro rfl;exact h v eF
   simp[this]
theorem QE{kindOf:Str->Option NameKind}:∀{P:List Str}{a:List Value}{i:Nat}{m:Str->Option Value},P.Nodup->P[i]?=some x->a[i]?=some v->kindOf x=some .local ->
  bindL kindOf (P.zip a) m x=some v
 |[],_,_,_,_,h,_,_=>by simp at h
 |_::_,[],_,_,_,_,h,_=>by simp at h
 |p::P,w::a,0,m,nd,h1,h2,hk=>by
  simp at h1 h2;subst h1;subst h2
  show bindL kindOf ((p,w)::P.zip a) m p=_;unfold bindL;rw[QF λv b=>(iE.mp nd).1 (N1 b).1,if_pos hk];simp
 |p::P,w::a,i+1,m,nd,h1,h2,hk=>by
  show bindL kindOf ((p,w)::P.zip a) m x=_;unfold bindL;exact QE (i:=i) (iE.mp nd).2 (by simpa using h1) (by simpa using h2) hk
theorem QC{kindOf:Str->Option NameKind}:∀{P:List Str}{a:List Value}{i:Nat}{m:Str->Option Value},P.Nodup->P[i]?=some x->a[i]?=some v->kindOf x≠some .local ->
  bindC kindOf (P.zip a) m x=some v
 |[],_,_,_,_,h,_,_=>by simp at h
 |_::_,[],_,_,_,_,h,_=>by simp at h
 |p::P,w::a,0,m,nd,h1,h2,hk=>by
  simp at h1 h2;subst h1;subst h2
  show bindC kindOf ((p,w)::P.zip a) m p=_;unfold bindC;rw[QD λv b=>(iE.mp nd).1 (N1 b).1,if_neg hk];simp
 |p::P,w::a,i+1,m,nd,h1,h2,hk=>by
  show bindC kindOf ((p,w)::P.zip a) m x=_;unfold bindC;exact QC (i:=i) (iE.mp nd).2 (by simpa using h1) (by simpa using h2) hk
def start(N:List Str) (a:List V):St:=a.map some++List.replicate (N.length-a.length) none
def gy(g:ve) (P:Program) (w:World) (K:Fg) (mg:Str->Option Value) (base:Heap) (N:List Str) (b:Str) (a:Scope) (f:Addr) (d:Value) (A:Around) (outer:List Env) (s:Shared) (H:Hp) (E:XK):Cx where
 prog:=P
 w:=w
 K:=K
 mg:=mg
 base:=base
 A:=A.deeper (envOfC b a s.heap.objs.size f d)
 N:=N
 s₀:=s
 H₀:=H
 env:=envOfC b a s.heap.objs.size f d
 outer:=outer
 stack:=envOfC b a s.heap.objs.size f d::outer
 ex:=[]
 calm:=true
 fn:=λ_=>true
 pn:=[]
 xe:=λe i=>wpAny (model P w) (A.deeper (envOfC b a s.heap.objs.size f d)) (leaving (envOfC b a s.heap.objs.size f d) e) (λ_ c=>g outer H s E e c) (λh c=>g outer H s E h c) i
theorem P4{a:Scope}(h:a.names.lookup x=some .cell):∃c,(cellsFrom n a.names []).lookup x=some c:=by
 have q:=W.cellsFrom_some a.names n [] (.inl h);exact Option.isSome_iff_exists.mp q
theorem Nx{K:Fg}{N:List Str}{A:Around}{j:List V}
  (S:cb N ps scope)(J:A.handled=none)(g:kq P w K mg base A outer s H)(Y:j.length=ps.length)(r:ah j us)
  (x:InCallC s s.heap.objs.size (bindL (envOfC qual scope s.heap.objs.size f cd).kindOf (ps.zip us) λ_=>none) (cellsFrom (s.heap.objs.size+1) scope.names []) (bindC (envOfC qual scope s.heap.objs.size f cd).kindOf (ps.zip us) λ_=>none) s1):
  Inv (gy CX P w K mg base N qual scope f cd A outer s H E) [] (start N j) H s1:=by
 have R:ps.length<=N.length:=by have:=congrArg List.length S.pre;rw[gC] at this;lia
 obtain⟨C,U,rfl,G⟩:=x.done;have l:∀b:Addr,b∉(gy CX P w K mg base N qual scope f cd A outer s H E).ex:=λb z=>absurd (show b∈([]:List Addr) from z) '%'
 refine⟨⟨g.mod,S.kind,rfl,rfl,aY _,λy z c C d=>?_,λy hy=>?_,λy c _ h=>?_,λ_=>J,Around.frames_deeper g.frames,.inr ⟨rfl,rfl⟩,λb z=>absurd z (l b),g.bs,g.bsz,λb _ _=>l b,λb z=>absurd z (l b),g.funs,g.frf⟩,
  rfl,g.bare,Un.kept G,⟨_,x.toInCall.ns,λi y v C d X=>?_⟩,λy c h=>⟨_,x.cell y c h⟩,g.hok.fresh (aY _),λy c h=>?_,λp o=>absurd (show p∈([]:List (Addr×Obj)) from o) '%',g.hok.kept G,?_,uc.none J⟩
 ·exact name_of_addr x.apart (uQ C) (uQ d)
 ·have hy:scope.names.lookup y=some .cell\/scope.names.lookup y=some .free:=hy;rcases hy with hy|hy
  ·exact P4 hy
  ·exact absurd rfl (S.nofree _ (uQ hy))
 ·exact dL (x.above y c (uQ h))
 ·have t:i<j.length:=by
   unfold start at d;by_cases t:i<j.length
   ·exact t
   ·rw[mw (by simpa using t)] at d;rw[List.getElem?_replicate] at d;split at d<;>cases d
  have T:j[i]?=some v:=by
   unfold start at d;rw[h8 (by simpa using t),eU] at d;cases e:j[i]? with
   |none=>rw[e] at d;cases d
   |some a=>rw[e] at d;cases d;rfl
  obtain⟨u,I,Q⟩:=r.get T;have o:ps[i]?=some y:=by
   rw[←S.pre,List.getElem?_take_of_lt '!'];exact C
  have m:ps.Nodup:=by rw[←S.pre];exact S.nd.sublist (Du _ _)
  refine⟨u,Q,?_⟩;rcases S.par y (dF o) with k|k
  ·exact .inl ⟨k,QE m o I k⟩
  ·obtain⟨c,e⟩:=P4 (n:=s.heap.objs.size+1) k;refine .inr ⟨.inl k,c,e,?_⟩;have q:=x.cell y c e;rw[QC m o I (by show scope.names.lookup y≠_;rw[k];decide)] at q;exact q
 ·exact g.hok.fresh (dL (x.above y c (uQ h)))
 ·unfold start;show _=N.length;rw[dq,av,zD];lia
theorem F7{K:Fg}{kV:Value}
     {N:List Str}(lk:K.lookup f=some ⟨oc,od,.func (W.fnOf name qual params body scope dV kV doc pm an cdv ct),osl⟩)(R:W.codeIn K cdv qual=true)(S:cb N ps scope)
    (len:∀ c H Q E,sp c H Q E->c.length=ps.length)
    (i:∀(A:Around) (a:List Env) (s:Shared) (H:Hp) (c:List V) (Q:VK) (E:XK),bN k (A.deeper (envOfC qual scope s.heap.objs.size f cdv))->sp c H Q E ->
      ∃ t,jJ (gy CX P w K mg base N qual scope f cdv A a s H E) body t/\t { nx:=λ_ g=>Q .non g,rt:=Q } (start N c) H):
    gk P w K mg base CX (k + 1) f (W.fnOf name qual params body scope dV kV doc pm an cdv ct) ps sp:=by
  refine⟨len,λA a s H X us c Q E z p hb r m=>?_⟩;have hl:=len _ _ _ _ m;have U:K.In s.heap:=p.mod.kin.keeps λb o e=>(p.bs b o e).1
  have T:s.heap.NoLimit:=p.mod.nolimit.keeps λb o e=>(p.bs b o e).1
  have h:∀ y∈ps.zip us,scope.names.lookup y.1=some .local\/(scope.names.lookup y.1=some .cell/\((cellsFrom (s.heap.objs.size + 1) scope.names []).lookup y.1).isSome=true):=λC hy=>by
    obtain⟨n,v⟩:=C;rcases S.par n (N1 hy).1 with q|q
    · exact .inl q
    · exact .inr ⟨q,W.cellsFrom_some _ _ _ (.inl q)⟩
  refine codeAny_call_function z.depth (U _ _ lk) rfl S.co S.gen rfl (W.codeRec_of U R) (hb _ _ _ _ ?_);refine wpAny_newFunctionEnv_cells S.kind h λa0 he s1 x=>?_
  subst he;refine⟨T.keeps x.toInCall.keep,codeAny_func ?_⟩;obtain⟨t,Y,hq⟩:=i A a s H c Q E (z.deeper _) m;have I:Inv (gy CX P w K mg base N qual scope f cdv A a s H E) [] (start N c) H s1:=Nx S z.hd p hl r x;refine iU (Y [] s1 (start N c) H _ I hq) (λfl s' j=>?_) λe s' j=>j
  have l:∀{d:St}{g:Hp}{v:V}{u:Value},Inv (gy CX P w K mg base N qual scope f cdv A a s H E) [] d g s'->RelV v u->Q v g->CE a P w H s Q u s':=
    λ{d g v u} J G q=>⟨v,g,J.os,J.bare,J.base,J.hok,G,q⟩
  cases fl with
  |ret u=>
    obtain⟨v,d,g,J,G,q⟩:=j;exact l J G q
  |next=>
    obtain⟨d,g,J,q⟩:=j;exact l (v:=V.non) (u:=Value.none) J rfl q
  |brk=>
    obtain⟨_,_,_,q⟩:=j;exact False.elim q
  |cont=>
    obtain⟨_,_,_,q⟩:=j;exact False.elim q
def OX(r:List V->Hp->VK->Prop) (t:TA):TE:=λa H Q=>t a H λb H1=>r b H1 Q
theorem Mj{id:String}(j:bF X (.builtin id) r)(w:Gl X x)(m:X.mg x=none)(k:bootBuiltins x=some (.builtin id))(v:PA X (e::es) t)(o:x≠"__name__":=by decide)(b:(x==("__debug__" : Str))=false:=by decide)
  (g:starEach (e::es) X.env=(false,eval e X.env)::starEach es X.env:=by rfl)(a:(backTo pos (starEach es X.env)).any (·.1)=false:=by rfl):PE X (.Call (.Name x p) (e::es) [] pos) (OX r t):=by
 intro d s c H Q I h;refine qo (l6 I w m k ?_ o b);exact PyProof.Rows.callWith_builtin1 (aZ (v pos d s c H _ I h) λl f ⟨i,H1,n,q,u⟩=>j d f c H1 i l Q n q u) g a
theorem NQ{T:String}(j:bF X (.type T) r)(w:Gl X x)(m:X.mg x=none)(k:bootBuiltins x=some (.type T))(v:PA X (e::es) t)(o:x≠"__name__":=by decide)(b:(x==("__debug__" : Str))=false:=by decide)
  (g:starEach (e::es) X.env=(false,eval e X.env)::starEach es X.env:=by rfl)(a:(backTo pos (starEach es X.env)).any (·.1)=false:=by rfl):PE X (.Call (.Name x p) (e::es) [] pos) (OX r t):=by
 intro d s c H Q I h;refine qo (l6 I w m k ?_ o b);exact qy (aZ (v pos d s c H _ I h) λl f ⟨i,H1,n,q,u⟩=>j d f c H1 i l Q n q u) g a
end L2
namespace HT
open PyProof.Rows
noncomputable def lexLt:List Int->List Int->Bool
 |[],[]=>false
 |[],_::_=>true
 |_::_,[]=>false
 |x::xs,y::ys=>if x=y then lexLt xs ys else decide (x<y)
theorem ro(x y:Int)(a b:List Int):lexLt (x::a) (y::b)=if x=y then lexLt a b else decide (x<y):=rfl
theorem CY:lexLt [] []=false:=rfl
theorem wb(y:Int)(a:List Int):lexLt [] (y::a)=true:=rfl
theorem C1(x:Int)(a:List Int):lexLt (x::a) []=false:=rfl
theorem Qb(A:Around)(s:Shared)(a:Int)(t:Tok)(c:Int)(u:Tok):∃e,SeqAt.EqAt A s (.int a t) (.int c u) e/\(e=true↔a=c):=
 ⟨(a==c),SeqAt.EqAt.int_int a t c u,by simp⟩
theorem ME(A:Around)(s:Shared)(a:Int)(t:Tok)(c:Int)(u:Tok)(b:Program)(w:World)(E:Value->Shared->Prop)(Q:Value->Shared->Prop)(h:Q (.bool (decide (a<c))) s):
  wpAny (model b w) A (richCompare .Lt (.int a t) (.int c u)) Q E s:=
 (PyProof.Rows.lt_int h:wpAny (model b w) A (compareOp .Lt (.int a t) (.int c u)) Q E s)
section
open SeqAt
open PySem.AutoSeq1 (wpAny_loadPart')
open MeetsSeq MeetsSeq2 MeetsSeq3
theorem R6(l b:Addr)(i f:Array Value)(n n2:Nat)(dd a0:Option Addr)(sl X:Array (Option Value))(S T:List Int)(hi:IntsAre i.toList S)(hj:IntsAre f.toList T):
  Meets (Builtin.«tuple.__lt__» ⟨[.ref l,.ref b],[]⟩)
   (λ_ R s=>s.heap.get? l=some { cls:=.type "tuple",dict:=dd,data:=.seq i n,slots:=sl }/\s.heap.get? b=some { cls:=.type "tuple",dict:=a0,data:=.seq f n2,slots:=X } /\
    R (.ok (.ret (.bool (lexLt S T)))) s):=
 .of_wp λr w A R s h=>by
  obtain⟨P,g,d,I,os⟩:=s;obtain⟨hl,hb,h⟩:=h
  have f2:=AutoSeq1.sub_tuple_tuple;have z1:i.size=S.length:=by rw[←hi.length];simp
  have z2:f.size=T.length:=by rw[←hj.length];simp
  wp_walk using DN hl,DN hb,wpAny_forIn_list _ (λz b s'=>b.1=none/\s'=⟨P,g,d,I,os⟩/\∃(J Q:List Value) (m k:List Int),z=J.zip Q /\
   IntsAre J m/\IntsAre Q k/\m.length+f.size=k.length+i.size/\R (.ok (.ret (.bool (lexLt m k)))) ⟨P,g,d,I,os⟩) _
  case turn=>
   rintro⟨y,x⟩ z b s' ⟨G,rfl,J,Q,m,k,o,H,p,j,v⟩;cases H with
   |nil=>rw[List.zip_nil_left] at o;cases o
   |cons a t hvi'=>
    cases p with
    |nil=>rw[List.zip_nil_right] at o;cases o
    |cons c u hwi'=>
     rw[y8] at o;injection o with U E
     injection U with hy hx
     subst hy hx;rw[ro] at v;simp only[dm] at j;obtain⟨e,he,C⟩:=Qb A.in1 ⟨P,g,d,I,os⟩ a t c u;refine ab (he r w _ _ ?_);cases e with
     |true=>
      rw[if_pos (C.mp rfl)] at v
      wp_walk
      exact⟨rfl,rfl,_,_,_,_,E,hvi',hwi',by lia,v⟩
     |false=>
      rw[if_neg (λq=>absurd (C.mpr q) og)] at v;have Y:=ME A.in1 ⟨P,g,d,I,os⟩ a t c u r w
      wp_walk using Y
      exact⟨_,rfl,by simpa using v⟩
  case fin=>
   rintro⟨b1,b2⟩ s' ⟨G,rfl,J,Q,m,k,o,H,p,j,v⟩;simp only at G;subst G;have hv:lexLt m k=decide (i.size<f.size):=by
    cases H with
    |nil=>
     cases p with
     |nil=>
      simp only[pc] at j;rw[CY];exact(dj '!').symm
     |cons c u hw=>
      simp only[pc,dm] at j;rw[wb];exact(d5 '!').symm
    |cons a t hv=>
     cases p with
     |nil=>
      simp only[pc,dm] at j;rw[C1];exact(dj '!').symm
     |cons c u hw=>
      rw[y8] at o;cases o
   rw[hv] at v
   wp_walk
   exact⟨_,rfl,by simpa [Builtin.Tuple.tupleCompareSizes] using v⟩
  case h=>
   exact⟨rfl,rfl,i.toList,f.toList,S,T,rfl,hi,hj,by lia,h⟩
end
theorem Rs{A:Around}{s:Shared}(t:IsTup s.heap l items)(u:IsTup s.heap b items2)(o:IntsAre items.toList ns)(q:IntsAre items2.toList ms)
  (y:A.units<cLine)(h:Q (.bool (lexLt ns ms)) s):wpAny '*' A (compareOp .Lt (.ref l) (.ref b)) Q E s:=by
 obtain⟨⟨z,v,k,p⟩,j,g,n,i⟩:=id t;obtain⟨⟨m,f,data2,e⟩,d,c,r,a⟩:=id u;simp only at g i c a;subst g i c a;exact richCompare_meets_room (op:=.Lt) ⟨_,j,rfl⟩ ⟨_,d,rfl⟩ Ou F.entry_tuple_lt (F.args_tuple_lt_2 _ _) (R6 l b items items2 n r v f p e ns ms o q)
  ⟨j,d,show Value.bool (lexLt ns ms)≠Value.notImplemented/\Q (.bool (lexLt ns ms)) s from⟨(λx=>nomatch x),h⟩⟩ y
theorem IQ{s:Shared}{d a:List Value}(v:IsTup s.heap t d.toArray)(y:IsTup s.heap b a.toArray)(u:d≠[])
  (x:a=[]->Q (.ref t) s)(z:a≠[]->Q (.ref s.heap.objs.size) { s with heap:=s.heap.push { cls:=.type "tuple",data:=.seq (d++a).toArray } })
  (k:d.length+a.length<=sizeLine):wpAny '*' A (binaryOp .Add (.ref t) (.ref b)) Q E s:=by
 obtain⟨⟨cls,r,data,o⟩,j,m,n,q⟩:=id v;obtain⟨⟨l,h,data2,g⟩,c,i,p,f⟩:=id y;simp only at m q i f;subst m q i f;have e:d.toArray++a.toArray=(d++a).toArray:=by simp
 by_cases hw:a=[]
 ·exact concat_meets ⟨_,j,rfl⟩ ⟨_,c,rfl⟩ noFill_tuple_add seq_tuple_add Ow OA (OC _ _)
   (tuple_addW1 t b d.toArray a.toArray n p r h o g (by simpa using u) (by simp[hw])) ⟨j,c,x hw⟩
 ·refine concat_meets ⟨_,j,rfl⟩ ⟨_,c,rfl⟩ noFill_tuple_add seq_tuple_add Ow OA (OC _ _)
   (tuple_addW2 t b d.toArray a.toArray n p r h o g (by simpa using u) (by simpa using hw) (by rw[dH,dH];exact k)) ⟨j,c,?_⟩
  rw[e];exact z hw
noncomputable def bY(n d:Nat):Option Int->Nat
 |none=>d
 |some v=>if v<0 then(v+(n:Int)).toNat else min v.toNat n
theorem Qr(n d:Nat):bY n d none=d:=rfl
theorem yw(n d k:Nat):bY n d (some (k:Int))=min k n:=by
 show(if(k:Int)<0 then((k:Int)+(n:Int)).toNat else min (k:Int).toNat n)=min k n;rw[if_neg '!',n0]
theorem Iw(n d:Nat)(a:d<=n)(o:Option Int):bY n d o<=n:=by
 cases o with
 |none=>exact a
 |some v=>
  show(if v<0 then(v+(n:Int)).toNat else min v.toNat n)<=n;by_cases hv:v<0
  ·rw[if_pos hv];lia
  ·rw[if_neg hv];exact mj _ _
theorem xO(v:Int)(n d:Nat):(if v<0 then max (v+(n:Int)) 0 else min v (n:Int))=((bY n d (some v):Nat):Int):=by
 show(if v<0 then max (v+(n:Int)) 0 else min v (n:Int))=(((if v<0 then(v+(n:Int)).toNat else min v.toNat n):Nat):Int)
 by_cases hv:v<0
 ·simp only[if_pos hv];lia
 ·simp only[if_neg hv];lia
theorem TF(lo a:Option Int)(n:Nat):Builtin.Slice.sliceAdjust lo a 1 (n:Int)=(((bY n 0 lo:Nat):Int),((bY n n a:Nat):Int)):=by
 have b:¬ ((1:Int)<0):=by lia
 unfold Builtin.Slice.sliceAdjust;simp only[b,iB];refine Prod.ext ?_ ?_
 ·cases lo with
  |none=>rfl
  |some v=>exact xO v n 0
 ·cases a with
  |none=>rfl
  |some v=>exact xO v n n
theorem Uf(i j:Nat):Builtin.Slice.slicePlaces (i:Int) (j:Int) 1=j-i:=by
 unfold Builtin.Slice.slicePlaces;have a:(1:Int) > 0:=by lia
 simp only[a,hZ,yM];split<;>lia
theorem vU(p:IsPart v o)(h:Q o s):wpAny '*' A (Builtin.Slice.slicePartIndex v) Q E s:=by
 cases p with
 |none=>exact slicePart_none h
 |int i t=>exact slicePart_int h
theorem Sv{s:Shared}{lo a:Option Int}{n:Nat}(d:s.heap.IsSliceOf sl vl vu .none)(g:IsPart vl lo)(f:IsPart vu a)
  (h:Q (((bY n 0 lo:Nat):Int),1,bY n n a-bY n 0 lo) s):wpAny '*' A (Builtin.Slice.sliceApplied (.ref sl) (pure (n:Int))) Q E s:=by
 obtain⟨os,c,e,b⟩:=id d;unfold Builtin.Slice.sliceApplied Builtin.Slice.sliceFields;refine ab (ab (iV c b (x:=vl) rfl (ab (iV c b (x:=vu) rfl (ab (iV c b (x:=.none) rfl (am ?_)))))));refine ab (slicePart_none ?_);show wpAny _ _ (if((1:Int)==0)=true then _ else _) _ _ s;rw[if_neg ')'];refine ab (vU g (ab (vU f (ab (am ?_)))));show wpAny _ _ (match Builtin.Slice.sliceAdjust lo a 1 (n:Int) with|(lo,a)=>pure (lo,(1:Int),Builtin.Slice.slicePlaces lo a 1)) _ _ s;rw[TF lo a n];show wpAny _ _ (pure (((bY n 0 lo:Nat):Int),(1:Int),Builtin.Slice.slicePlaces ((bY n 0 lo:Nat):Int) ((bY n n a:Nat):Int) 1)) _ _ s;rw[Uf];exact am h
theorem Mt(a:Array Value)(i k:Nat):((List.range k).filterMap λ(m:Nat)=>a[((i:Int)+(m:Int)*1).toNat]?).toArray=((a.toList.drop i).take k).toArray:=by
 have e:(λ(m:Nat)=>a[((i:Int)+(m:Int)*1).toNat]?)=λm=>a[i+m]?:=by
  funext m
  have:((i:Int)+(m:Int)*1).toNat=i+m:=by lia
  rw[this]
 rw[e];have:=pick_run a i k;rw[Ol] at this;have b:((λx=>a[x]?) ∘ λx=>i+x)=λm=>a[i+m]?:=rfl
 rw[b] at this;rw[this]
theorem VG{s:Shared}{lo:Option Int}(b:IsTup s.heap t items)(g:s.heap.IsSliceOf sl vl vu .none)(n:IsPart vl lo)(k:IsPart vu hi)
  (j:¬ (bY items.size 0 lo=0/\bY items.size items.size hi=items.size))
  (h:Q (.ref s.heap.objs.size) { s with heap:=s.heap.push { cls:=.type "tuple",data:=.seq ((items.toList.drop (bY items.size 0 lo)).take (bY items.size items.size hi-bY items.size 0 lo)).toArray } })
  (l:items.size<=sizeLine):wpAny '*' A (getItem (.ref t) (.ref sl)) Q E s:=by
 have a:sizeOk (.seq ((items.toList.drop (bY items.size 0 lo)).take (bY items.size items.size hi-bY items.size 0 lo)).toArray):=by
  show((items.toList.drop (bY items.size 0 lo)).take (bY items.size items.size hi-bY items.size 0 lo)).toArray.size<=sizeLine;rw[dH,gC,qg,gm];lia
 have o:bY items.size items.size hi<=items.size:=Iw _ _ (aY _) hi;obtain⟨os,f,d,i⟩:=id g;have e:s.TypeIs (.ref sl) "slice":=⟨os,f,d⟩
 unfold getItem
 try with_reducible refine jj ?_
 first|refine ab (am ?_)|skip
 refine ab (Oa b.typeIs ')' ?_)
 refine ab (wpAny_callSpecial?_slot (name:=Str.ofString "__getitem__") b.typeIs u6
  (kD u6 b.typeIs entry_tuple_getitem ?_ (args_tuple_getitem _ _)))
 show wpAny _ _ (Builtin.Tuple.tupleItemsOf (.ref t) >>= _) _ _ s;refine ab (tupleItemsOf_ b ?_);refine ab (uC e ?_);rw[if_pos ')'];refine ab (Sv g n k ?_);have c:¬ ((((bY items.size 0 lo:Nat):Int)==0&&(1:Int)==1&&(bY items.size items.size hi-bY items.size 0 lo)==items.size)=true):=by
  intro q;rw[iF,iF] at q;have r:((bY items.size 0 lo:Nat):Int)=0:=eq_of_beq q.1.1;have p:bY items.size items.size hi-bY items.size 0 lo=items.size:=eq_of_beq q.2;exact j ⟨by lia,by lia⟩
 show wpAny _ _ (if(((bY items.size 0 lo:Nat):Int)==0&&(1:Int)==1&&(bY items.size items.size hi-bY items.size 0 lo)==items.size)=true then _ else _) _ _ s;rw[if_neg c,Mt]
 first
  |exact ab (m:=Builtin.Tuple.tupleExact _) (jt (am ⟨_,rfl,am h⟩) a)
  |exact ab (m:=Builtin.Tuple.tupleExact _) (jt (ab (am (am ⟨_,rfl,am h⟩))) a)
  |exact ab (ab (m:=Builtin.Tuple.tupleExact _) (jt (am (am ⟨_,rfl,am h⟩)) a))
  |exact ab (ab (m:=Builtin.Tuple.tupleExact _) (jt (am ⟨_,rfl,am h⟩) a))
end HT
namespace L2
open Spec PyProof.Rows
abbrev TO:=St->Hp->(Option Int->Hp->Prop)->Prop
def PO(X:Cx) (e:Option Expr) (t:TO):Prop:=
 ∀(c:List (Addr×Obj)) (s:Shared) (a:St) (H:Hp) (Q:Option Int->Hp->Prop),Inv X c a H s->t a H Q ->
  wpAny '#' X.A (evalPart e X.env) (λu d=>∃o b,Inv X c a b d/\IsPart u o/\Q o b) X.xe s
def pA:TO:=λ_ H Q=>Q none H
def zH(t:TE):TO:=λa H Q=>t a H λx H1=>∃i,x=.int i/\Q (some i) H1
theorem uy{ns:List Int}:∀{a:List Value},ah (ns.map V.int) a->IntsAre a ns:=by
 induction ns with
 |nil=>intro a r;rw[C9] at r;cases r;exact .nil
 |cons n ns ih=>
  intro a r;rw[bP] at r;cases r with
  |cons r1 r2=>
   obtain⟨t,e⟩:=r1;subst e;exact .cons n t (ih r2)
theorem Km:PO X none pA:=by
 intro a s b H Q I h;rw[Da];exact am ⟨none,H,I,.none,h⟩
theorem Kn(h:PE X e te):PO X (some e) (zH te):=by
 intro g s b H Q I c;rw[evalPart_some];refine aZ (h g s b H _ I c) λu k a=>?_
 obtain⟨x,H1,d,f,j⟩:=a;obtain⟨i,rfl,q⟩:=j;obtain⟨t,rfl⟩:=f;exact⟨some i,H1,d,.int i t,q⟩
def qP(X:Cx) (r:V->Option Int->Option Int->Hp->VK->Prop):Prop:=
 ∀(f:List (Addr×Obj)) (s:Shared) (d:St) (H:Hp) (x:V) (v a e:Value) (lo b:Option Int) (c:Addr) (Q:VK),Inv X f d H s->RelV x v->s.heap.IsSliceOf c a e .none->IsPart a lo->IsPart e b->r x lo b H Q ->
  ∃ T id,typeLookup (.type T) "__getitem__"=pure (some (.builtin id))/\s.TypeIs v T/\wpAny '#' X.A (getItem v (.ref c)) (EP X f d Q) X.xe s
section
variable {lo:Option Expr}
theorem qP.or(h:qP X r)(l:qP X r'):qP X (λx lo a H Q=>r x lo a H Q\/r' x lo a H Q):=by
 intro j s f H x v c i lo a b Q I d e k g q;rcases q with q|q
 ·exact h j s f H x v c i lo a b Q I d e k g q
 ·exact l j s f H x v c i lo a b Q I d e k g q
end
def Wj(r:V->Option Int->Option Int->Hp->VK->Prop) (c:TE) (b d:TO):TE:=λa H Q=>c a H λx H1=>b a H1 λl H2=>d a H2 λu H3=>r x l u H3 Q
theorem Mq{lo:Option Expr}(p:qP X r)(P:PE X e te)(y:PO X lo tl)(R:PO X hi th):PE X (.Subscript e (.Slice lo hi none p2) pos) (Wj r te tl th):=by
 intro d s f H Q I h;refine Subscript_ (aZ (P d s f H _ I h) λv j c=>?_);obtain⟨x,H1,C,w,n⟩:=c;refine wpAny_Slice (aZ (y d j f H1 _ C n) λg A ⟨l,H2,S,J,m⟩=>aZ (R d A f H2 _ S m) λi a c=>?_);obtain⟨u,H3,o,t,U⟩:=c;rw[Da];refine am ?_;have E:Inv X d f H3 { a with heap:=a.heap.push { cls:=.type "slice",data:=.fields #[g,i,.none] } }:=o.kept (t':=a.toks) λb Y q=>bX _ q
 obtain⟨T,id,G,k,z⟩:=p d { a with heap:=a.heap.push { cls:=.type "slice",data:=.fields #[g,i,.none] } } f H3 x v g i l u a.heap.objs.size Q E w (Oj ..) J t U
 show wpAny '#' X.A (subscriptTail e (.Slice lo hi none p2) v (.ref a.heap.objs.size)) (EP X d f Q) X.xe { a with heap:=a.heap.push { cls:=.type "slice",data:=.fields #[g,i,.none] } }
 exact tail_any (ops:=[.ref a.heap.objs.size,v]) k G z (by with_unfolding_all rfl)
def hJ(a:List V) (lo b:Option Int):List V:=(a.drop (HT.bY a.length 0 lo)).take (HT.bY a.length a.length b-HT.bY a.length 0 lo)
theorem RB(a:List V)(lo b:Option Int):(hJ a lo b).length<=a.length:=by
 unfold hJ;rw[gC,qg];lia
def O2(K:Fg):V->Option Int->Option Int->Hp->VK->Prop:=λx lo c H Q=>∃a b,x=.ref a/\bz K H a b /\
 ¬ (HT.bY b.length 0 lo=0/\HT.bY b.length b.length c=b.length)/\∀p,H p=none->Q (.ref p) (aq H p (.tup (hJ b lo c)))
theorem Iz:qP X (O2 X.K):=by
 intro z s w H x v u y lo e t Q I j k p m h;obtain⟨a,d,rfl,n,l,q⟩:=h;cases j;obtain⟨f,r,g,i⟩:=I.tuple n;have c:f.toArray.size=d.length:=by rw[dH];exact r.length.symm
 refine⟨"tuple",_,u6.lookup,g.typeIs,?_⟩
 refine HT.VG g k p m (by rw[c];exact l) ?_ (by rw[c];exact i);rw[c];refine⟨.ref s.heap.objs.size,_,I.laid (t':=s.toks) (o:=.tup (hJ d lo e)) (λb A q=>bX _ q) (aY _) ?_,rfl,q _ (I.hok.fresh (aY _))⟩;exact⟨ax (RB d lo e) i,_,(r.drop (HT.bY d.length 0 lo)).take (HT.bY d.length d.length e-HT.bY d.length 0 lo),IsTup.new _ _⟩
def zX(K:Fg):R2:=λx y H Q=>∃a b c d,x=.ref a/\y=.ref b/\bz K H a (c.map V.int)/\bz K H b (d.map V.int)/\Q (.bl (HT.lexLt c d)) H
theorem HQ{X:Cx}(l:X.A.units<cLine):di X (compareOp .Lt) (zX X.K):=by
 intro t s r H x y v u Q I f p h;obtain⟨a,b,ns,ms,rfl,rfl,o,g,q⟩:=h;cases f;cases p;obtain⟨d,m,j,_⟩:=I.tuple o;obtain⟨c,i,e,_⟩:=I.tuple g;have k:IntsAre d.toArray.toList ns:=uy m;have n:IntsAre c.toArray.toList ms:=uy i;exact HT.Rs j e k n l ⟨.bl (HT.lexLt ns ms),H,I,rfl,q⟩
def AD(K:Fg):R2:=λx y H Q=>∃a b d c,x=.ref a/\y=.ref b/\bz K H a d/\bz K H b c/\d≠[]/\d.length+c.length<=sizeLine /\
 (c=[]->Q (.ref a) H)/\(c≠[]->∀p,H p=none->Q (.ref p) (aq H p (.tup (d++c))))
theorem ah.nil_iff(r:ah xs us):us=[]↔xs=[]:=by
 cases r with
 |nil=>simp
 |cons _ _=>simp
theorem J6:di X (binaryOp .Add) (AD X.K):=by
 intro E s G H x y v u Q I k C h;obtain⟨a,b,r,t,rfl,rfl,m,n,A,e,j,i⟩:=h;cases k;cases C;obtain⟨p,d,l,_⟩:=I.tuple m;obtain⟨f,c,g,_⟩:=I.tuple n;refine HT.IQ l g (λz=>A (d.nil_iff.mp z)) (λz=>⟨.ref a,H,I,rfl,j (c.nil_iff.mp z)⟩) (λz=>?_) (by rw[←d.length,←c.length];exact e);refine⟨.ref s.heap.objs.size,_,I.laid (t':=s.toks) (o:=.tup (r++t)) (λb J q=>bX _ q) (aY _) ?_,rfl,i (λw=>z (c.nil_iff.mpr w)) _ (I.hok.fresh (aY _))⟩;exact⟨by rw[dq];exact e,_,d.append c,IsTup.new _ _⟩
noncomputable def kP(n:Nat) (i:Int):Option Nat:=if 0<=i then(if i<n then some i.toNat else none) else if -(n:Int)<=i then some (i+n).toNat else none
def atI{α:Type}(a:List α) (i:Int):Option α:=(kP a.length i).bind λj=>a[j]?
theorem x4(h:kP n i=some j):seqIndex? i n=some j/\j<n/\-(n:Int)<=i/\i<n:=by
 unfold kP at h;by_cases h0:0<=i
 ·rw[if_pos h0] at h;by_cases h1:i<n
  ·rw[if_pos h1] at h;have e:i.toNat=j:=fY h;exact⟨by rw[seqIndex_of h0 h1,e],by lia,by lia,h1⟩
  ·rw[if_neg h1] at h;cases h
 ·rw[if_neg h0] at h;by_cases h1:-(n:Int)<=i
  ·rw[if_pos h1] at h;have e:(i+n).toNat=j:=fY h;exact⟨by rw[seqIndex_neg '!' h1,e],by lia,h1,by lia⟩
  ·rw[if_neg h1] at h;cases h
theorem Ec{b:Type}{a:List b}{v:b}(h:atI a i=some v):∃j,seqIndex? i a.length=some j/\a[j]?=some v/\j<a.length/\-(a.length:Int)<=i/\i<a.length:=by
 unfold atI at h;cases e:kP a.length i with
 |none=>rw[e] at h;cases h
 |some j=>
  rw[e] at h;obtain⟨g,f,c,d⟩:=x4 e;exact⟨j,g,h,f,c,d⟩
theorem vo{a:Type}{xs:List a}{j:Nat}{v:a}(h:xs[j]?=some v):atI xs (j:Int)=some v:=by
 have b:j<xs.length:=(cK.mp h).1;have e:kP xs.length (j:Int)=some j:=by
  unfold kP;rw[if_pos '!',if_pos '!'];simp
 unfold atI;rw[e];exact h
noncomputable def jc(b:Expr):Prop:=∀o i,subscripted b false o i=operate [o,i] (getItem o i)
def pP(X:Cx) (r:R2):Prop:=
 ∀(b a:Expr) (c:List (Addr×Obj)) (s:Shared) (d:St) (H:Hp) (x y:V) (v u:Value) (Q:VK),Inv X c d H s->RelV x v->RelV y u->r x y H Q ->
  subscripted a false v u=operate [v,u] (getItem v u)->wpAny '#' X.A (subscriptTail b a v u) (EP X c d Q) X.xe s
def BK(X:Cx) (id:String) (r:V->List V->Hp->VK->Prop):Prop:=
 ∀(b:List (Addr×Obj)) (s:Shared) (c:St) (H:Hp) (x:V) (a:List V) (v:Value) (d:List Value) (Q:VK),Inv X b c H s->RelV x v->ah a d->r x a H Q ->
  wpAny '#' X.A (call (.builtin id) (v::d)) (EP X b c Q) X.xe s
theorem pP.or(h:pP X r)(i:pP X r'):pP X (λx y H Q=>r x y H Q\/r' x y H Q):=by
 intro a b f s e H x y v u Q I c g q d;rcases q with q|q
 ·exact h a b f s e H x y v u Q I c g q d
 ·exact i a b f s e H x y v u Q I c g q d
theorem Go(e:pP X r)(k:PE X a ta)(d:PE X b tb)(f:jc b):PE X (.Subscript a b pos) (zI r ta tb):=by
 intro j s g H Q I h;exact Subscript_ (tQ k d I h λv u i x y H2 l c m q=>e a b j i g H2 x y v u Q l c m q (f _ _))
def AB(K:Fg):R2:=λx y H Q=>∃p a i v,x=.ref p/\y=.int i/\da K H p a/\atI a i=some v/\Q v H
def zZ(K:Fg):R2:=λx y H Q=>∃p a i v,x=.ref p/\y=.int i/\bz K H p a/\atI a i=some v/\Q v H
def AA:R2:=λx y H Q=>∃z i c,x=.str z/\y=.int i/\z.length<=sizeLine/\atI z.cps.toList i=some c/\Q (.str ⟨#[c]⟩) H
theorem Jx:pP X (AB X.K):=by
 intro k d l s o H x y v u Q I C T h n;obtain⟨p,Y,i,z,rfl,rfl,A,J,q⟩:=h;cases C;obtain⟨t,rfl⟩:=T;obtain⟨g,r,f,U⟩:=I.list A;obtain⟨j,b,R,h3,P,G⟩:=Ec J;obtain⟨w,m,c⟩:=r.get R;have E:=r.length;have hn:=ew;have a:EP X l o Q w s:=⟨z,H,I,c,q⟩
 by_cases h0:0<=i
 ·have e:i.toNat=j:=by
   rw[seqIndex_of h0 G] at b;exact fY b
  exact item_listR f.isList h0 '!' (by rw[e];simpa using m) a n
 ·have e:(i+(g.toArray.size:Int)).toNat=j:=by
   rw[seqIndex_neg '!' P] at b;rw[dH,←E];exact fY b
  exact subscriptTail_builtinR (x:=w) f.isList.typeIs N9.lookup
   (wpAny_getItem_list_neg (Q:=λr S=>r=w/\EP X l o Q r S) f.isList '!' (by rw[dH]<;>lia) '!' (by rw[e];simpa using m) ⟨rfl,a⟩) n
theorem Hs:pP X (zZ X.K):=by
 intro d c e s f H x y v u Q I l P h A;obtain⟨p,T,i,z,rfl,rfl,k,E,q⟩:=h;cases l;obtain⟨t,rfl⟩:=P;obtain⟨C,r,g,R⟩:=I.tuple k;obtain⟨j,o,G,U,Y,S⟩:=Ec E;obtain⟨w,n,b⟩:=r.get G;have m:=r.length;have hn:=ew;have a:EP X e f Q w s:=⟨z,H,I,b,q⟩
 exact subscriptTail_builtinR (x:=w) g.typeIs Dv.lookup
  (getItem_tuple (j:=j) (Q:=λr J=>r=w/\EP X e f Q r J) g '!' '!' (by rw[dH,←m];exact o) (by simpa using n) ⟨rfl,a⟩) A
theorem Hr:pP X AA:=by
 intro b a C s E H x y v u Q I e r h k;obtain⟨z,i,c,rfl,rfl,A,m,q⟩:=h;obtain⟨t,rfl⟩:=e;obtain⟨w,rfl⟩:=r;obtain⟨j,d,p,G,o,l⟩:=Ec m;have g:z.cps.toList.length=z.length:=by simp[Str.length]
 rw[g] at d o l;have J:=ew
 exact tail_any (typeIs_str s z t) slot_str_getitem.lookup (getItem_str (c:=c) (by
  have f:decide (i < -(2^63:Int))=false:=dj '!';have n:decide (i ≥ 2^63)=false:=dj '!'
  rw[f,n,Bool.or_false]) (by rw[d];simpa using p) ⟨.str ⟨#[c]⟩,H,I.tok _,⟨_,rfl⟩,q⟩) k
def SK(K:Fg):R2:=λx y H Q=>AB K x y H Q\/zZ K x y H Q\/AA x y H Q
theorem Hq:pP X (SK X.K):=Jx.or (Hs.or Hr)
theorem T8(a:List Value)(n j:Nat)(u:Value):Obj.mapSeq (·.setIfInBounds j u) { cls:=.type "list",data:=.seq a.toArray n }={ cls:=.type "list",data:=.seq (a.set j u).toArray n }:=by
 simp[Obj.mapSeq]
theorem Inv.lst(I:'&')(h:H p=some (.lst xs)):
  ∃(a:List Value) (n:Nat),ah xs a/\s.heap.get? p=some { cls:=.type "list",data:=.seq a.toArray n }/\xs.length<=sizeLine:=by
 obtain⟨z,a,n,r,e⟩:=I.hok p _ h;exact⟨a,n,r,e,z⟩
theorem Inv.lstUpd{c a:List Value}(I:'&')(h:H p=some (.lst xs))
  (j:s.heap.get? p=some { cls:=.type "list",data:=.seq c.toArray n })(d:f { cls:=.type "list",data:=.seq c.toArray n }={ cls:=.type "list",data:=.seq a.toArray n' })(r:ah ys a)(i:ys.length<=sizeLine)(t:Nat):
  Inv X aW σ (aq H p (.lst ys)) {s with heap:=s.heap.update p f,toks:=t}:=by
 have e:(s.heap.update p f).get? p=some { cls:=.type "list",data:=.seq a.toArray n' }:=by
  rw[mS f j (by rw[d]<;>rfl),d]
 refine I.write (x:=p) (e:=p) (by rw[h];trivial) (.inl rfl) (λb u g q=>(sU _ _ (cO g)).trans q) ⟨_,e⟩ ?_;exact⟨i,a,n',r,e⟩
def zU:V->V->V->Hp->(Hp->Prop)->Prop:=λo i v H Q=>∃p a k j,o=.ref p/\i=.int k/\H p=some (.lst a)/\kP a.length k=some j/\Q (aq H p (.lst (a.set j v)))
theorem MP:BH X zU:=by
 intro y s A H o i v R J u Q I C x E h;obtain⟨p,G,k,j,rfl,rfl,f,z,q⟩:=h;cases C;obtain⟨t,rfl⟩:=x;obtain⟨a,n,r,e,w⟩:=I.lst f;obtain⟨b,S,l,m⟩:=x4 z;have c:=r.length;have P:=ew;have g:Inv X y A (aq H p (.lst (G.set j v))) {s with heap:=s.heap.update p (Obj.mapSeq (·.setIfInBounds j u))}:=
  I.lstUpd f e (T8 a n j u) (r.set E j) (by rw[iY];exact w) s.toks
 by_cases h0:0<=k
 ·have d:k.toNat=j:=by
   rw[seqIndex_of h0 m] at b;exact fY b
  exact W.ki_setAt e h0 '!' (by rw[dH,←c];exact m) (by rw[d];exact⟨_,g,q⟩)
 ·have d:(k+(a.toArray.size:Int)).toNat=j:=by
   rw[seqIndex_neg '!' l] at b;rw[dH,←c];exact fY b
  exact W.ki_setBack e '!' (by rw[dH,←c];exact l) '!' (by rw[d];exact⟨_,g,q⟩)
theorem U6(lo a:Option Int)(n:Nat):(sliceBounds lo a none n).1=((HT.bY n 0 lo:Nat):Int)/\(sliceBounds lo a none n).2.1=((HT.bY n n a:Nat):Int)/\(sliceBounds lo a none n).2.2=1:=by
 refine⟨?_,?_,rfl⟩
 ·cases lo with
  |none=>simp[sliceBounds,HT.bY]
  |some i=>
   simp only[sliceBounds,HT.bY,Option.getD_none,show(1:Int) > 0 by decide,hZ];by_cases h:i<0
   ·simp only[h,hZ]<;>lia
   ·simp only[h,iB]<;>lia
 ·cases a with
  |none=>simp[sliceBounds,HT.bY]
  |some i=>
   simp only[sliceBounds,HT.bY,Option.getD_none,show(1:Int) > 0 by decide,hZ];by_cases h:i<0
   ·simp only[h,hZ]<;>lia
   ·simp only[h,iB]<;>lia
theorem Vn(a:List Value)(lo b:Option Int):slicePick a.toArray lo b none=((a.drop (HT.bY a.length 0 lo)).take (HT.bY a.length a.length b-HT.bY a.length 0 lo)).toArray:=by
 obtain⟨e,d,c⟩:=U6 lo b a.toArray.size;unfold slicePick;rw[e,d,c];simp only[sliceRange_one,pick_run,dH]<;>rfl
def O3(K:Fg):V->Option Int->Option Int->Hp->VK->Prop:=λx lo c H Q=>∃a b,x=.ref a/\da K H a b/\∀p,H p=none->Q (.ref p) (aq H p (.lst (hJ b lo c)))
theorem KD:qP X (O3 X.K):=by
 intro y s u H x v t w lo e p Q I g i m k h;obtain⟨a,c,rfl,l,q⟩:=h;cases g;obtain⟨n,r,f,j⟩:=I.list l;have d:=r.length;refine⟨"list",_,N9.lookup,f.isList.typeIs,?_⟩
 refine wpAny_getItem_list_slice f.isList i m k .none '%' ?_ (by rw[dH]<;>lia);rw[Vn,←d];refine⟨.ref s.heap.objs.size,_,I.laid (t':=s.toks) (o:=.lst (hJ c lo e)) (λb z q=>bX _ q) (aY _) ?_,rfl,q _ (I.hok.fresh (aY _))⟩;exact⟨ax (RB c lo e) j,_,0,(r.drop (HT.bY c.length 0 lo)).take (HT.bY c.length c.length e-HT.bY c.length 0 lo),ed _ rfl⟩
theorem zm:bF X (.builtin "len") (λf H Q=>∃ p b,f=[.ref p]/\(da X.K H p b\/bz X.K H p b)/\Q (.int b.length) H):=by
 intro m s j H f k Q I r h;obtain⟨p,b,rfl,hq,q⟩:=h;obtain⟨u,rfl,g⟩:=vals1 r;cases g;have l:=ew;rcases hq with hq|hq
 ·obtain⟨d,e,c,i⟩:=I.list hq;have a:=e.length;exact Calls.call_len_list c.isList (by simp only[dH]<;>lia) ⟨.int b.length,H,I.tok _,⟨s.toks+1,by rw[dH,a]⟩,q⟩
 ·obtain⟨d,e,c,i⟩:=I.tuple hq;have a:=e.length;exact len_tuple c (by simp only[dH]<;>lia) ⟨.int b.length,H,I.tok _,⟨s.toks+1,by rw[dH,a]⟩,q⟩
theorem bF.or(h:bF X f r)(g:bF X f r'):bF X f (λa H Q=>r a H Q\/r' a H Q):=by
 intro d s b H a c Q I e q;rcases q with q|q
 ·exact h d s b H a c Q I e q
 ·exact g d s b H a c Q I e q
theorem FB:bF X (.type "list") (λz H Q=>∃ p d,z=[.ref p]/\(da X.K H p d\/bz X.K H p d)/\∀ l,H l=none->Q (.ref l) (aq H l (.lst d))):=by
 intro A s E H z G Q I r h;obtain⟨p,d,rfl,hq,q⟩:=h;obtain⟨u,rfl,C⟩:=vals1 r;cases C;have j:∀(a:List Value),ah d a->d.length<=sizeLine->∀(c:Heap) (f:Nat),(∀b y,s.heap.get? b=some y->c.get? b=some y) ->
   c.get? s.heap.objs.size=some { cls:=.type "list",dict:=none,data:=.seq a.toArray f,slots:=#[] }->EP X A E Q (.ref s.heap.objs.size) { s with heap:=c }:=λa g i c f m e=>
  ⟨.ref s.heap.objs.size,_,I.laid (t':=s.toks) m (aY _) (show ar X.prog X.w _ c _ (.lst d) from⟨i,a,f,g,e⟩),rfl,q _ (I.hok.fresh (aY _))⟩
 rcases hq with hq|hq
 ·obtain⟨a,g,w,i⟩:=I.list hq;have k:=g.length;obtain⟨o,x,t,n,v⟩:=w.isList;exact call_list_seq p (.inl rfl) x t v (λc f m e=>j a g i c f m e) (by simp only[dH]<;>lia)
 ·obtain⟨a,g,w,i⟩:=I.tuple hq;have k:=g.length;obtain⟨o,x,t,n,v⟩:=w;exact call_list_seq p (.inr rfl) x t v (λc f m e=>j a g i c f m e) (by simp only[dH]<;>lia)
theorem zw:bF X (.type "tuple") (λk H Q=>∃ p c,k=[.ref p]/\((da X.K H p c/\∀ l,H l=none->Q (.ref l) (aq H l (.tup c)))\/(bz X.K H p c/\Q (.ref p) H))):=by
 intro v s n H k z Q I r h;obtain⟨p,c,rfl,h⟩:=h;obtain⟨u,rfl,w⟩:=vals1 r;cases w;rcases h with⟨f,q⟩|⟨f,q⟩
 ·obtain⟨a,i,g,m⟩:=I.list f;have j:=i.length;refine call_tuple_list g.isList (λd x=>?_) (by simp only[dH]<;>lia);have t:Inv X v n H {s with heap:=d}:=I.kept (t':=s.toks) x;have y:Inv X v n (aq H d.objs.size (.tup c)) { s with heap:=d.push { cls:=.type "tuple",data:=.seq a.toArray } }:=
   t.laid (t':=s.toks) (λb o e=>bX _ e) (aY _) (show ar X.prog X.w _ _ _ (.tup c) from⟨m,a,i,IsTup.new _ _⟩)
  exact⟨.ref d.objs.size,_,y,rfl,q _ (t.hok.fresh (aY _))⟩
 ·obtain⟨a,i,g,m⟩:=I.tuple f;exact call_tuple_same g ⟨.ref p,H,I,rfl,q⟩
def OJ(K:Fg) (T:String) (x:V) (H:Hp):Prop:=match x with
 |.str _=>T="str"
 |.int _=>T="int"
 |.ref p=>(T="list"/\∃ b,da K H p b)\/(T="tuple"/\∃ o,K.lookup p=some o/\o.cls=.type "tuple"/\o.dict=none) \/
  (T="dict"/\((∃ a,H p=some (.dK a))\/∃ a,H p=some (.dT a)))\/(T="set"/\∃ S n,H p=some (.set S n))
 |_=>False
theorem xC{T:String}(I:'&')(r:RelV x v)(f:OJ X.K T x H):
  s.TypeIs v T/\∀a,v=.ref a->∃l,s.heap.get? a=some l/\l.dict=none:=by
 cases x with
 |str z=>
  obtain⟨t,rfl⟩:=r;cases(show T="str" from f)
  exact⟨typeIs_str s z t,λ_ e=>nomatch e⟩
 |int i=>
  obtain⟨t,rfl⟩:=r;cases(show T="int" from f)
  exact⟨typeIs_int s i t,λ_ e=>nomatch e⟩
 |ref p=>
  cases r;rcases f with⟨rfl,w,q⟩|⟨rfl,o,b,m,h⟩|⟨rfl,b⟩|⟨rfl,S,n,b⟩
  ·obtain⟨u,_,k,_⟩:=I.list q;refine⟨k.isList.typeIs,λa e=>?_⟩;cases e;obtain⟨o,n,e,c,h,_⟩:=k;exact⟨o,e,h⟩
  ·refine⟨⟨o,I.kIn p o b,m⟩,λa e=>?_⟩;cases e;exact⟨o,I.kIn _ o b,h⟩
  ·have z:∃o,s.heap.get? p=some o/\o.ExactDict:=by
    rcases b with⟨j,b⟩|⟨j,b⟩
    ·obtain⟨_,_,_,_,o,_,_,e,d,_⟩:=I.hok p _ b;exact⟨o,e,d⟩
    ·obtain⟨_,_,_,_,o,_,_,e,d,_⟩:=I.hok p _ b;exact⟨o,e,d⟩
   obtain⟨o,e,d⟩:=z;refine⟨⟨o,e,d.1⟩,λa g=>?_⟩;cases g;exact⟨o,e,d.2.1⟩
  ·obtain⟨o,_,_,_,e,d,_⟩:=I.hok p _ b;refine⟨⟨o,e,d.1⟩,λa g=>?_⟩;cases g;exact⟨o,e,d.2.1⟩
 |_=>exact False.elim f
def OY(K:Fg) (T:String) (r:V->List V->Hp->VK->Prop) (to:TE):TE:=λa H Q=>to a H λx H1=>OJ K T x H1/\r x [] H1 Q
def Wn(K:Fg) (T:String) (r:V->List V->Hp->VK->Prop) (to:TE) (t:TA):TE:=λa H Q=>to a H λx H1=>OJ K T x H1/\t a H1 λb H2=>r x b H2 Q
theorem HV{b:Pos}{a:Pos}{T:String}{id:String}(n:PlainAttrs T)(e:Slot T name id)(g:typeOf (.builtin id)=pure (.type "method_descriptor"))(q:BK X id r)(w:PE X o to)
  (d:attributeBase o name X.env (eval o X.env)=eval o X.env:=by rfl)(c:(b.endLine==a.line)=true:=by rfl):PE X (.Call (.Attribute o name b) [] [] a) (OY X.K T r to):=by
 intro i s k H Q I h;refine wpAny_Call_method0_late d c (aZ (w i s k H _ I h) λv m f=>?_);obtain⟨x,H1,l,j,u,p⟩:=f;obtain⟨t,y⟩:=xC l j u;exact⟨T,id,n,e,g,t,y,DM rfl (PySem.evalArgs_none (q i m k H1 x [] v [] Q l j .nil p))⟩
theorem mF{c:Pos}{T:String}{id:String}(z:PlainAttrs T)(g:Slot T name id)(l:typeOf (.builtin id)=pure (.type "method_descriptor"))(G:BK X id r)(ho:PE X o to)(J:PA X (e::es) t)
  (f:attributeBase o name X.env (eval o X.env)=eval o X.env:=by rfl)
  (i:((backTo cpos (starEach (e::es) X.env)).all (λx=>!x.1)&&(backToKw cpos (keywordEach [] X.env)).all (λx=>x.1.isSome)
   && decide ((e::es).length+([]:List Keyword).length+(if([]:List Keyword).isEmpty then 0 else 1)<30))=true:=by rfl)
  (d:(c.endLine==cpos.line)=true:=by rfl)(S:starEach (e::es) X.env=(false,eval e X.env)::starEach es X.env:=by rfl)(b:(backTo cpos (starEach es X.env)).any (·.1)=false:=by rfl):
  PE X (.Call (.Attribute o name c) (e::es) [] cpos) (Wn X.K T r to t):=by
 intro j s n H Q I h;refine wpAny_Call_method_late f i d rfl (aZ (ho j s n H _ I h) λv w k=>?_);obtain⟨x,H1,q,p,R,E⟩:=k;obtain⟨P,h2⟩:=xC q p R;refine⟨T,id,z,g,l,P,h2,?_⟩;have u:=J cpos j w n H1 _ q E;rw[S] at u ⊢;refine DM (by show(false||(backTo cpos (starEach es X.env)).any (·.1))=false;rw[b]<;>rfl) (Oq ?_);exact aZ u λC U ⟨y,H2,Y,r2,A⟩=>G j U n H2 x y v C Q Y p r2 A
def D8(X:Cx) (id:String) (r:V->List V->Hp->VK->Prop):Prop:=
 ∀(b:List (Addr×Obj)) (s:Shared) (c:St) (H:Hp) (x:V) (a:List V) (v:Value) (d:List Value) (Q:VK),Inv X b c H s->RelV x v->ah a d->r x a H Q ->
  wpAny '#' X.A (call (.builtin id) (v::d)) (EP X b c Q) X.xe s
theorem ah.one:∀{x:V}{a:List Value},ah [x] a->∃u,a=[u]/\RelV x u
 |_,_,.cons r .nil=>⟨_,rfl,r⟩
theorem ah.zero:∀{a:List Value},ah [] a->a=[]
 |_,.nil=>rfl
theorem ah.dropLast(h:ah xs us):ah xs.dropLast us.dropLast:=by
 induction h with
 |nil=>exact .nil
 |cons r t ih=>
  cases t with
  |nil=>exact .nil
  |cons q t'=>exact .cons r ih
theorem ah.eraseIdx:∀{a:List V}{b:List Value}(i:Nat),ah a b->ah (a.eraseIdx i) (b.eraseIdx i)
 |_,_,_,.nil=>.nil
 |_,_,0,.cons _ t=>t
 |_,_,i+1,.cons r t=>.cons r (ah.eraseIdx i t)
theorem T4{c:Type}(l:List c):l.eraseIdx (l.length-1)=l.dropLast:=by
 induction l with
 |nil=>rfl
 |cons a r ih=>
  cases r with
  |nil=>rfl
  |cons b r=>
   have e:(a::b::r).length-1=((b::r).length-1)+1:=by
    have f:(a::b::r).length=r.length+2:=rfl;have d:(b::r).length=r.length+1:=rfl;lia
   rw[e,DX,ih]
   all_goals rfl
theorem QX{a:Type}:∀(l:List a) (i:Nat),(l.eraseIdx i).length<=l.length
 |[],_=>aY _
 |_::_,0=>sj _
 |_::r,i+1=>mP (QX r i)
theorem Inv.lset{a its':List Value}(I:'&')(c:H l=some (.lst xs))
  (e:s.heap.get? l=some { cls:=.type "list",data:=.seq a.toArray n })(d:f a.toArray=its'.toArray)(i:ah ys its')(g:ys.length<=sizeLine):
  Inv X aW σ (aq H l (.lst ys)) {s with heap:=s.heap.update l (Obj.mapSeq f),toks:=t'}:=by
 have q:=PySem.IsL.update e f;rw[d] at q;refine I.write (x:=l) (e:=l) (by rw[c];exact trivial) (.inl rfl) (λj u b h=>(sU s.heap (Obj.mapSeq f) (cO b)).trans h) ⟨_,q⟩ ?_;exact⟨g,its',_,i,q⟩
theorem Inv.lnew(I:'&')(b:ah ys its)(a:ys.length<=sizeLine):
  Inv X aW σ (aq H s.heap.objs.size (.lst ys)) { s with heap:=s.heap.push { cls:=.type "list",data:=.seq its.toArray },toks:=t' }:=
 I.laid (λ_ _ q=>bX _ q) (aY _) ⟨a,its,0,b,ed _ rfl⟩
theorem Inv.fresh(I:'&'):H s.heap.objs.size=none:=I.hok.fresh (aY _)
theorem Inv.lstM(I:'&')(b:H l=some (.lst xs)):xs.length<=sizeLine/\∃(a:List Value) (n:Nat),ah xs a/\xs.length=a.length/\s.heap.get? l=some { cls:=.type "list",data:=.seq a.toArray n }:=by
 obtain⟨z,a,n,r,e⟩:=I.hok l _ b;exact⟨z,a,n,r,r.length,e⟩
theorem nq(h:n<=sizeLine):Builtin.List.listTooLong n=false:=by
 unfold Builtin.List.listTooLong;exact dj '!'
def pD:V->List V->Hp->VK->Prop:=λx b H Q=>∃l a y,x=.ref l/\b=[y]/\H l=some (.lst a)/\a.length<sizeLine/\Q .non (aq H l (.lst (a++[y])))
theorem QZ:D8 X "list.append" pD:=by
 intro p s k H x g v m Q I d f h;obtain⟨l,i,y,rfl,rfl,b,j,q⟩:=h;cases d;obtain⟨u,rfl,c⟩:=f.one;obtain⟨z,a,n,r,o,e⟩:=I.lstM b;refine nX F.slot_list_append ⟨_,e,rfl⟩ F.entry_list_append (F.args_list_append_2 _ _) (PySem.list_append l a.toArray n u (by rw[dH];lia)) ⟨e,?_⟩;refine⟨.non,_,I.lset (its':=a++[u]) b e '%' (r.append (.cons c .nil)) ?_,rfl,q⟩;rw[dq,uX];lia
def pC:V->List V->Hp->VK->Prop:=λx d H Q=>∃l b c a,x=.ref l/\d=[.ref b]/\H l=some (.lst c)/\H b=some (.lst a)/\c.length+a.length<=sizeLine/\Q .non (aq H l (.lst (c++a)))
theorem NG:D8 X "list.extend" pC:=by
 intro E s R H x y v C Q I j m h;obtain⟨l,b,S,G,rfl,rfl,g,i,A,q⟩:=h;cases j;obtain⟨u,rfl,o⟩:=m.one;cases o;obtain⟨z,c,n,r,J,e⟩:=I.lstM g;obtain⟨P,a,k,w,t,p⟩:=I.lstM i;have f:c.toArray.size+a.toArray.size<=sizeLine:=by rw[dH,dH];lia
 have d:¬ (!c.toArray.isEmpty&&Builtin.List.listTooLong (c.toArray.size+a.toArray.size))=true:=by
  rw[nq f,Bool.and_false];exact og
 refine nX F.slot_list_extend ⟨_,e,rfl⟩ F.entry_list_extend (F.args_list_extend_2 _ _)
  (AutoSeq1.list_extend_list_list_0 l c.toArray n b a.toArray k d (by rw[dH];lia) '!') ⟨e,p,?_⟩
 refine⟨.non,_,I.lset (its':=c++a) g e '%' (r.append w) ?_,rfl,q⟩;rw[dq];lia
def O5:V->List V->Hp->VK->Prop:=λx b H Q=>∃l a y,x=.ref l/\b=[]/\H l=some (.lst a)/\a[a.length-1]?=some y/\Q y (aq H l (.lst a.dropLast))
theorem HF:D8 X "list.pop" O5:=by
 intro A s t H x o v w Q I g k h;obtain⟨l,p,y,rfl,rfl,d,m,q⟩:=h;cases g;have b:=k.zero;subst b;obtain⟨z,a,n,r,j,e⟩:=I.lstM d;obtain⟨u,i,f⟩:=r.get m;have c:a.toArray[a.toArray.size-1]?=some u:=by
  show a.toArray[a.length-1]?=some u;rw[←iH,←j];exact i
 refine nX F.slot_list_pop ⟨_,e,rfl⟩ F.entry_list_pop (F.args_list_pop_1 _) (MeetsSeq.list_pop_last l a.toArray n u c (by rw[dH];lia)) ⟨e,?_⟩;refine⟨y,_,I.lset (its':=a.dropLast) d e ?_ r.dropLast ?_,f,q⟩
 ·show a.toArray.eraseIdxIfInBounds (a.toArray.size-1)=a.dropLast.toArray;rw[dH,SJ,T4]
 ·rw[List.length_dropLast];lia
def tu:V->List V->Hp->VK->Prop:=λx b H Q=>∃l a i k y,x=.ref l/\b=[.int i]/\H l=some (.lst a)/\-(2^63)<=i/\i<2^63/\seqIndex? i a.length=some k/\a[k]?=some y/\Q y (aq H l (.lst (a.eraseIdx k)))
theorem LY:D8 X "list.pop" tu:=by
 intro R s J H x G v P Q I f C h;obtain⟨l,g,i,k,y,rfl,rfl,c,E,o,j,A,q⟩:=h;cases f;obtain⟨u,rfl,d⟩:=C.one;obtain⟨t,rfl⟩:=d;obtain⟨z,a,n,r,p,e⟩:=I.lstM c;obtain⟨w,m,b⟩:=r.get A;refine nX F.slot_list_pop ⟨_,e,rfl⟩ F.entry_list_pop (F.args_list_pop_2 _ _)
  (MeetsSeq.list_pop_at l a.toArray n i t k w (fitsIndex_both E o) (by rw[dH,←p];exact j) (by rw[←iH];exact m) (by rw[dH];lia)) ⟨e,?_⟩
 refine⟨y,_,I.lset (its':=a.eraseIdx k) c e ?_ (r.eraseIdx k) ?_,b,q⟩
 ·show a.toArray.eraseIdxIfInBounds k=(a.eraseIdx k).toArray;rw[SJ]
 ·have:=QX g k;lia
def AE:R2:=λx y H Q=>∃l b c a,x=.ref l/\y=.ref b/\H l=some (.lst c)/\H b=some (.lst a)/\c.length+a.length<=sizeLine/\∀p,H p=none->Q (.ref p) (aq H p (.lst (c++a)))
theorem HP:di X (binaryOp .Add) AE:=by
 intro G s C H x y v u Q I d m h;obtain⟨l,b,t,p,rfl,rfl,g,o,w,q⟩:=h;cases d;cases m;obtain⟨z,c,n,r,E,e⟩:=I.lstM g;obtain⟨J,a,A,k,j,i⟩:=I.lstM o;refine PySem.P.add_list e i ?_ (by rw[dH,dH];lia);have f:c.toArray++a.toArray=(c++a).toArray:=by simp
 rw[f];exact⟨.ref _,_,I.lnew (t':=s.toks) (r.append k) (by rw[dq];lia),rfl,q _ I.fresh⟩
section
variable {κ:Type}[DecidableEq κ]
noncomputable def cr(a:List (κ×V)) (k:κ):Option V:=(a.find? λb=>decide (b.1=k)).map (·.2)
noncomputable def et(a:List (κ×V)) (k:κ) (v:V):List (κ×V):=
 if(a.any λb=>decide (b.1=k))=true then a.map (λb=>if b.1=k then(b.1,v) else b) else a++[(k,v)]
noncomputable def dB(a:List (κ×V)) (k:κ):List (κ×V):=a.filter λb=>decide (b.1≠k)
theorem vG{p:κ×V}{r:List (κ×V)}{k:κ}(e:p.1=k):cr (p::r) k=some p.2:=by simp[cr,mh,e]
theorem vF{p:κ×V}{r:List (κ×V)}{k:κ}(e:¬ p.1=k):cr (p::r) k=cr r k:=by simp[cr,mh,e]
theorem Qw(k:κ):∀a:List (κ×V),(a.any λb=>decide (b.1=k))=(cr a k).isSome
 |[]=>rfl
 |p::r=>by
  rw[sB];by_cases e:p.1=k
  ·simp only[vG e,d5 e,Bool.true_or,Option.isSome_some]
  ·rw[vF e,dj e,Bool.false_or];exact Qw k r
theorem Fv(a:List (κ×V))(k:κ)(v:V):(et a k v).length<=a.length+1:=by
 unfold et;split
 ·rw[av];lia
 ·rw[dq,dm,pc];lia
theorem fE.isSome_eq(r:fE o u):o.isSome=u.isSome:=by
 cases o with
 |none=>cases u with
  |none=>rfl
  |some _=>exact(show False from r).elim
 |some _=>cases u with
  |none=>exact(show False from r).elim
  |some _=>rfl
theorem fE.getD(r:fE o u)(a:RelV d d'):RelV (o.getD d) (u.getD d'):=by
 cases o with
 |none=>cases u with
  |none=>exact a
  |some _=>exact(show False from r).elim
 |some _=>cases u with
  |none=>exact(show False from r).elim
  |some _=>exact r
theorem KV.val(r:KV kvs vs)(k:κ):fE (cr kvs k) (valueAt vs k):=by
 unfold KV at r
 induction r with
 |nil=>exact True.intro
 |@cons p q ps qs h t ih=>
  obtain⟨c,d⟩:=h;by_cases e:p.1=k
  ·have a:q.1=k:=c.symm.trans e;have b:valueAt (q::qs) k=some q.2:=by simp[valueAt,mh,a]
   rw[vG e,b];exact d
  ·have a:¬ q.1=k:=λz=>e (c.trans z)
   have b:valueAt (q::qs) k=valueAt qs k:=by simp[valueAt,mh,a]
   rw[vF e,b];exact ih
theorem KV.any(r:KV kvs vs)(k:κ):(kvs.any λa=>decide (a.1=k))=vs.any λa=>decide (a.1=k):=by
 unfold KV at r
 induction r with
 |nil=>rfl
 |cons h t ih=>rw[sB,sB,ih,h.1]
theorem KV.repl(r:KV kvs vs)(k:κ) (d:RelV y u):
  KV (kvs.map λa=>if a.1=k then(a.1,y) else a) (vs.map λa=>if a.1=k then(a.1,u) else a):=by
 unfold KV at r ⊢
 induction r with
 |nil=>exact .nil
 |@cons p q ps qs h t ih=>
  rw[bP,bP];refine .cons ?_ ih;obtain⟨b,c⟩:=h;by_cases e:p.1=k
  ·rw[if_pos e,if_pos (b.symm.trans e)];exact⟨b,d⟩
  ·rw[if_neg e,if_neg (λz=>e (b.trans z))];exact⟨b,c⟩
theorem KV.put(r:KV kvs vs)(k:κ) (a:RelV y u):KV (et kvs k y) (stored vs k u):=by
 unfold et stored;rw[r.any k];by_cases e:(vs.any λb=>decide (b.1=k))=true
 ·rw[if_pos e,if_pos e];exact r.repl k a
 ·rw[if_neg e,if_neg e];exact Paired.snoc r ⟨rfl,a⟩
theorem KV.drop(r:KV kvs vs)(k:κ):KV (dB kvs k) (without vs k):=by
 unfold KV at r ⊢;unfold dB without
 induction r with
 |nil=>exact .nil
 |@cons p q ps qs h t ih=>
  obtain⟨c,d⟩:=h;rw[Dm,Dm];by_cases e:p.1=k
  ·have a:¬ decide (p.1≠k)=true:=by simp[e]
   have b:¬ decide (q.1≠k)=true:=by simp[c.symm.trans e]
   rw[if_neg a,if_neg b];exact ih
  ·have f:¬ q.1=k:=λz=>e (c.trans z)
   have a:decide (p.1≠k)=true:=by simp[e]
   have b:decide (q.1≠k)=true:=by simp[f]
   rw[if_pos a,if_pos b];exact .cons ⟨c,d⟩ ih
theorem KV.keys{a:List (κ×V)}{b:List (κ×Value)}(r:KV a b):a.map (·.1)=b.map (·.1):=by
 unfold KV at r
 induction r with
 |nil=>rfl
 |cons h t ih=>rw[bP,bP,ih,h.1]
theorem KV.length(r:KV kvs vs):kvs.length=vs.length:=sC r
theorem Ln(a:List (κ×V))(k:κ):(dB a k).length<=a.length:=uW _ _
end
theorem j3(r:RelV (kV k) u):(ay P w).is k u=true:=by
 cases k with
 |inl i=>obtain⟨t,e⟩:=(show ∃t,u=Value.int i t from r);subst e;exact UB P w i t
 |inr x=>obtain⟨t,e⟩:=(show ∃t,u=Value.str x t from r);subst e;exact UC P w x t
theorem QU:∀{a:List cG}{b:List Value},ah (a.map kV) b->ItemsAre (ay P w) a b
 |[],_,r=>by rw[C9] at r;cases r;exact .nil
 |k::a,_,r=>by
  rw[bP] at r;cases r with
  |cons h t=>exact .cons (j3 h) (QU t)
abbrev KT(H:Hp):List (List cG×V)->List (List cG×Addr×Value)->Prop:=Paired λp q=>p.1=q.1/\H q.2.1=some (.tup (p.1.map kV))/\RelV p.2 q.2.2
theorem KT.val(r:KT H kvs xs)(k:List cG):fE (cr kvs k) ((atKey xs k).map (·.2)):=by
 induction r with
 |nil=>exact True.intro
 |@cons p q ps qs h t ih=>
  obtain⟨c,_,d⟩:=h;by_cases e:p.1=k
  ·have a:q.1=k:=c.symm.trans e;have b:atKey (q::qs) k=some q.2:=by simp[atKey,mh,a]
   rw[vG e,b];exact d
  ·have a:¬ q.1=k:=λz=>e (c.trans z)
   have b:atKey (q::qs) k=atKey qs k:=by simp[atKey,mh,a]
   rw[vF e,b];exact ih
theorem KT.repl(r:KT H kvs xs)(k:List cG) (f:RelV y u):
  KT H (kvs.map λb=>if b.1=k then(b.1,y) else b) (xs.map (putAt k u)):=by
 induction r with
 |nil=>exact .nil
 |@cons p q ps qs h t ih=>
  rw[bP,bP];refine .cons ?_ ih;obtain⟨a,c,d⟩:=h;unfold putAt;by_cases e:p.1=k
  ·rw[if_pos e,if_pos (a.symm.trans e)];exact⟨a,c,f⟩
  ·rw[if_neg e,if_neg (λz=>e (a.trans z))];exact⟨a,c,d⟩
theorem KT.put(r:KT H kvs xs)(k:List cG) (d:H b=some (.tup (k.map kV)))(a:RelV y u):
  KT H (et kvs k y) (storedH xs k b u):=by
 have e:(kvs.any λc=>decide (c.1=k))=(atKey xs k).isSome:=by
  rw[Qw,(r.val k).isSome_eq,Option.isSome_map]
 unfold et storedH;rw[e];by_cases q:(atKey xs k).isSome=true
 ·rw[if_pos q,if_pos q];exact r.repl k a
 ·rw[if_neg q,if_neg q];exact Paired.snoc r ⟨rfl,d,a⟩
theorem KT.keeps(r:KT H kvs xs)(c:∀b a,H b=some (.tup a)->H' b=some (.tup a)):KT H' kvs xs:=
 Paired.mapP r λ_ _ z=>⟨z.1,c _ _ z.2.1,z.2.2⟩
theorem wv(b:fL P w H h)(e:Rd H a u):ar P w H h a u:=e.ok b
theorem j0(b:fL P w H h)(e:Rd H a (.dK kvs)):kvs.length<=sizeLine/\(a==sysModules)=false/\∃vs,KV kvs vs/\h.DictOf (ay P w) a vs:=
 show ar P w H h a (.dK kvs) from wv b e
theorem rF(b:fL P w H h)(e:H a=some (.dK kvs)):kvs.length<=sizeLine/\(a==sysModules)=false/\∃vs,KV kvs vs/\h.DictOf (ay P w) a vs:=j0 b (.inl e)
theorem uf{c:List cG}(f:fL P w H h)(e:H a=some (.tup (c.map kV))):(tupleKind (ay P w)).is h c a:=by
 obtain⟨_,b,r,o,i,g,n,d⟩:=(show ar P w H h a (.tup (c.map kV)) from f a _ e)
 exact⟨o,b.toArray,n,i,g,d,by simpa using QU r⟩
theorem lw(b:fL P w H h)(e:Rd H a (.dT kvs)):kvs.length<=sizeLine/\(a==sysModules)=false /\
  ∃xs,KT H kvs xs/\h.DictOfH (tupleKind (ay P w)) a xs:=by
 obtain⟨z,y,xs,r,o,i,f,k,j,c,g,d⟩:=(show ar P w H h a (.dT kvs) from wv b e)
 refine⟨z,y,xs,r,o,i,f,k,j,c,g,λx hx=>?_,d⟩;have all:∀{l:List (List cG×V)}{m:List (List cG×Addr×Value)},KT H l m->∀x∈m,(tupleKind (ay P w)).is h x.1 x.2.1:=by
  intro l m q
  induction q with
  |nil=>intro x hx;exact nomatch hx
  |@cons p q ps qs hq t ih=>
   intro x hx;rcases bT.mp hx with e|hx
   ·subst e;exact uf b (by rw[←hq.1];exact hq.2.1)
   ·exact ih x hx
 exact all r x hx
theorem wd(b:fL P w H h)(e:H a=some (.dT kvs)):kvs.length<=sizeLine/\(a==sysModules)=false /\
 ∃xs,KT H kvs xs/\h.DictOfH (tupleKind (ay P w)) a xs:=lw b (.inl e)
def jK(H:Hp) (a:Addr) (y:V) (r:Option V):Prop:=
 (∃c k,Rd H a (.dK c)/\y=kV k/\r=cr c k)\/∃c k b,Rd H a (.dT c)/\y=.ref b/\H b=some (.tup (k.map kV))/\r=cr c k
def nM(H:Hp) (a:Addr) (y v:V) (d:Hp):Prop:=
 (∃c k,H a=some (.dK c)/\y=kV k/\c.length<sizeLine/\d=aq H a (.dK (et c k v))) \/
 ∃c k b,H a=some (.dT c)/\y=.ref b/\H b=some (.tup (k.map kV))/\c.length<sizeLine/\d=aq H a (.dT (et c k v))
theorem nM.t{k:List cG}(e:H a=some (.dT kvs))(c:H b=some (.tup (k.map kV)))(d:kvs.length<sizeLine):
 nM H a (.ref b) v (aq H a (.dT (et kvs k v))):=.inr ⟨kvs,k,b,e,rfl,c,d,rfl⟩
theorem Inv.big(I:'&'):sysModules<s.heap.objs.size:=by
 have h:mainGlobals<s.heap.objs.size:=(I.mod.glob.keeps I.bk).lt;exact sw ')' h
theorem Nj{A:Around}(J:A.units+1<cLine)(I:'&')(g:jK H a y (some v))(t:RelV y u)(h:∀f r,Inv X aW σ H r->RelV v f->Q f r):
  wpAny '#' A (getItem (.ref a) u) Q E s:=by
 rcases g with⟨q,k,e,j,l⟩|⟨q,k,b,e,j,G,l⟩
 ·subst j;obtain⟨z,P,w,c,i⟩:=j0 I.hok e;obtain⟨f,m,d⟩:=fE.some_of (v:=v) (o:=valueAt w k) (by rw[l];exact c.val k);exact wpAny_getItem_of (j3 t) i.mapOf m (h f _ (I.tok _) d)
 ·subst j;cases(show u=Value.ref b from t);obtain⟨z,P,x,c,i⟩:=lw I.hok e;obtain⟨f,m,d⟩:=fE.some_of (v:=v) (o:=(atKey x k).map (·.2)) (by rw[l];exact c.val k);obtain⟨p,C,n⟩:=gQ.mp m;refine wpAny_getItem_heap (yY J) (uf I.hok G) i C ?_;rw[n];exact h f _ (I.tok _) d
theorem tN{A:Around}(r:A.units+1<cLine)(I:'&')(g:jK H a y o)(n:RelV y u)(h:∀m,Inv X aW σ H m->Q (.bool o.isSome) m):
  wpAny '#' A (compareOp .In u (.ref a)) Q E s:=by
 rcases g with⟨j,k,e,f,l⟩|⟨j,k,b,e,f,p,l⟩
 ·subst f;obtain⟨z,i,t,c,d⟩:=j0 I.hok e;refine wpAny_in_of (j3 n) i d.mapOf ?_;rw[←(c.val k).isSome_eq,←l];exact h _ (I.tok _)
 ·subst f;cases(show u=Value.ref b from n);obtain⟨z,i,v,c,d⟩:=lw I.hok e;refine wpAny_in_heap (yY r) (uf I.hok p) i d ?_;have q:=(c.val k).isSome_eq;rw[Option.isSome_map] at q;rw[←q,←l];exact h _ (I.tok _)
theorem vp(I:'&')(h:BJ (H a))(g:Heap.SameBut a s.heap h')(d:∃q,h'.get? a=some q)(c:ar X.prog X.w (aq H a ob) h' a ob):
  Inv X aW σ (aq H a ob) {s with heap:=h',toks:=t'}:=
 I.write (x:=a) (e:=a) h (.inl rfl) (λb q f z=>(g.2 b f).trans z) d c
theorem rT{d:Heap}{b:List (cG×V)}(z:b.length<=sizeLine)(f:(a==sysModules)=false)(c:KV b vs)(e:d.DictOf (ay P w) a vs):
 ar P w H' d a (.dK b):=⟨z,f,vs,c,e⟩
theorem Nk{A:Around}(hu:A.units+1<cLine)(I:'&')(g:nM H a y v H')(S:RelV y u)(J:RelV v r)(h:∀R,Inv X aW σ H' R->Q () R):
  wpAny '#' A (setItem (.ref a) u r) Q E s:=by
 rcases g with⟨d,k,e,m,l,o⟩|⟨d,k,b,e,m,G,l,o⟩
 ·subst m o;obtain⟨z,p,T,f,x⟩:=rF I.hok e;have n:T.length<=sizeLine:=by rw[←f.length];exact z
  have t:(et d k v).length<=sizeLine:=by have:=Fv d k v;lia
  refine wpAny_setItem_pairs (hsz:=n) (j3 S) x λC i w=>h _ ?_
  have he:∃q,C.get? a=some q:=let ⟨q,_,_,j,_⟩:=i;⟨q,j⟩
  exact vp I (by rw[e];exact True.intro) w he (rT t p (f.put k J) i)
 ·subst m o;cases(show u=Value.ref b from S);obtain⟨z,p,xs,f,x⟩:=wd I.hok e;have n:xs.length<=sizeLine:=by rw[←sC f];exact z
  have t:(et d k v).length<=sizeLine:=by have:=Fv d k v;lia
  refine wpAny_setItem_heap (hsz:=n) (yY hu) (uf I.hok G) x λC i w=>h _ ?_
  obtain⟨q,U,Y,j,h2,h3,h4,_,h5⟩:=i;refine vp I (by rw[e];exact True.intro) w ⟨q,j⟩ ⟨t,p,_,(f.put k G J).keeps λc ys P=>?_,q,U,Y,j,h2,h3,h4,h5⟩;rw[zq (wo P e (λz=>nomatch z))];exact P
theorem rE(I:'&')(e:H a=some (.dK kvs))(g:RelV (kV k) u)(l:cr kvs k=some v)(n:more=[]\/∃x,more=[x])
  (h:∀ d p,Inv X aW σ (aq H a (.dK (dB kvs k))) p->RelV v d->Q d p):wpAny '#' A (call (.builtin "dict.pop") (.ref a::u::more)) Q E s:=by
 obtain⟨z,J,m,b,j⟩:=rF I.hok e;obtain⟨d,y,f⟩:=fE.some_of (v:=v) (o:=valueAt m k) (by rw[←l];exact b.val k);have C:(keyPart u).isSome=true:=by
  cases k with
  |inl i=>obtain⟨t,q⟩:=(show ∃t,u=Value.int i t from g);subst q;rfl
  |inr x=>obtain⟨t,q⟩:=(show ∃t,u=Value.str x t from g);subst q;rfl
 have P:argsOk "dict.pop" ⟨.ref a::u::more,[]⟩:=by
  rcases n with q|⟨x,q⟩
  ·subst q;exact F.args_dict_pop_2 _ _
  ·subst q;exact F.args_dict_pop_3 _ _ _
 refine uB DH j.typeIs F.entry_dict_pop P (meets_dict_pop_there (ay X.prog X.w) a (j3 g) more n C)
  ⟨m,d,j,by rw[←b.length];exact z,y,λG c w=>h d _ ?_ f⟩
 have r:∃q,G.get? a=some q:=let ⟨q,_,_,hq,_⟩:=c;⟨q,hq⟩
 exact vp I (by rw[e];exact True.intro) w r (rT (ax (Ln kvs k) z) J (b.drop k) c)
noncomputable def pN(i:Expr):Prop:=∀a b,subscripted i false a b=operate [a,b] (getItem a b)
theorem KO{T id:String}
  (k:typeLookup (.type T) "__getitem__"=pure (some (.builtin id)))(j:pN slice)
  (h:wpAny '*' A (eval value env) (λo b=>wpAny '*' A (eval slice env) (λi s₂=>s₂.TypeIs o T/\wpAny '*' A (getItem o i) Q E s₂) E b) E s):
  wpAny '*' A (eval (.Subscript value slice pos) env) Q E s:=by
 refine Subscript_ (iU h (λo b e=>iU e (λi s₂ a=>?_) λ_ _ x=>x) λ_ _ x=>x);obtain⟨g,a⟩:=a;unfold subscriptTail;refine ab ?_;rw[getitemInPython_of_ne g.not_modules];refine ab (sH g k ?_);have d:wpAny '*' A (subscripted slice false o i) (λr c=>wpAny '*' A (letTemporaryGo value o r >>= λ_=>pure r) Q E c) E s₂:=by
  rw[j o i];exact wpAny_operating (iU a (λr c f=>ab (wpAny_letTemporaryGo (am f))) λ_ _ x=>x)
 first
  |exact am (ab d)
  |exact ab (am (ab d))
  |exact ab d
theorem Uw(I:'&')(g:jK H a y o):s.TypeIs (.ref a) "dict":=by
 rcases g with⟨d,k,e,_,_⟩|⟨d,k,b,e,_,_,_⟩
 ·obtain⟨_,_,f,_,c⟩:=j0 I.hok e;exact c.typeIs
 ·obtain⟨_,_,h,_,c⟩:=lw I.hok e;exact c.typeIs
def zM(c d:TE):TE:=λb H Q=>c b H λx H1=>d b H1 λy H2=>∃a v,x=.ref a/\jK H2 a y (some v)/\Q v H2
def OV(d c:TE):TE:=λb H Q=>d b H λy H1=>c b H1 λx H2=>∃a o,x=.ref a/\jK H2 a y o/\Q (.bl o.isSome) H2
def gp(d e f:TE):TS:=λD b H=>f b H λv H1=>d b H1 λx H2=>e b H2 λy H3=>∃a c,x=.ref a/\nM H3 a y v c/\D.nx b c
theorem Kf{X:Cx}(z:X.A.units+1<cLine)(w:PE X o td)(k:PE X i ty)(r:pN i):PE X (.Subscript o i pos) (zM td ty):=by
 intro d s e H Q I h;refine KO F.slot_dict_getitem.lookup r (aZ (w d s e H _ I h) λu j ⟨x,H1,t,p,m⟩=>aZ (k d j e H1 _ t m) λE J c=>?_);obtain⟨y,H2,f,A,a,v,q,g,l⟩:=c;subst q;obtain rfl:u=Value.ref a:=p;exact⟨Uw f g,Nj z f g A λG C n b=>⟨v,H2,n,b,l⟩⟩
theorem HS{X:Cx}(r:X.A.units+1<cLine)(f:PE X i ty)(q:PE X o td):PC X .In i o (OV ty td):=by
 intro c s d H Q I h;refine aZ (f c s d H _ I h) λA e ⟨y,H1,p,w,k⟩=>aZ (q c e d H1 _ p k) λu C b=>?_
 obtain⟨x,H2,v,m,a,t,n,g,j⟩:=b;subst n;obtain rfl:u=Value.ref a:=m;exact tN r v g w λz l=>⟨.bl t.isSome,H2,l,rfl,j⟩
theorem Kq{X:Cx}{b:Pos}(J:X.A.units+1<cLine)(G:PE X o td)(j:PE X i ty)(R:PE X value tv)(t:swapsWith value (some (.Subscript o i pos')) b.line X.env=pure false):
  PS X (.Assign [.Subscript o i pos'] value b) (gp td ty tv):=by
 intro d s c H D I h;refine wpAny_Assign_Subscript (aZ (R d s c H _ I h) λr f ⟨v,H1,z,E,m⟩=>aZ (G d f c H1 _ z m) λu w ⟨x,H2,P,p,l⟩=>aZ (j d w c H2 _ P l) λT S e=>?_) t;obtain⟨y,H3,n,k,a,C,q,g,Q⟩:=e;subst q;obtain rfl:u=Value.ref a:=p;exact Nk J n g k E λU A=>⟨c,C,A,Q⟩
theorem Lm(h:Heap)(a:sysModules<h.objs.size):ar P w H (h.push { cls:=.type "dict",data:=.dict #[] }) h.objs.size (.dK []):=
 ⟨ie _,uP.mpr (cO (dY a)),[],.nil,Heap.DictOf.new h⟩
theorem Ly(h:Heap)(a:sysModules<h.objs.size):ar P w H (h.push { cls:=.type "dict",data:=.dict #[] }) h.objs.size (.dT []):=
 ⟨ie _,uP.mpr (cO (dY a)),[],.nil,_,#[],0,ed _ rfl,⟨rfl,rfl,rfl⟩,rfl,rfl,o6⟩
def sZ:TE:=λ_ H Q=>∀p,H p=none->Q (.ref p) (aq H p (.dK []))
def sY:TE:=λ_ H Q=>∀p,H p=none->Q (.ref p) (aq H p (.dT []))
theorem Mm:PE X (.Dict [] [] pos) sZ:=λb s c H Q I h=>
 wpAny_Dict_empty ⟨.ref s.heap.objs.size,_,I.laid (a:=s.heap.objs.size) (o:=.dK []) (t':=s.toks) (λ_ _ q=>bX _ q) (aY _) (Lm s.heap I.big),rfl,h _ (I.hok.fresh (aY _))⟩
theorem Mn:PE X (.Dict [] [] pos) sY:=λb s c H Q I h=>
 wpAny_Dict_empty ⟨.ref s.heap.objs.size,_,I.laid (a:=s.heap.objs.size) (o:=.dT []) (t':=s.toks) (λ_ _ q=>bX _ q) (aY _) (Ly s.heap I.big),rfl,h _ (I.hok.fresh (aY _))⟩
structure M1 (X:Cx) (o:Expr) (m:Str) (apos:Pos) (e:Expr) (cpos:Pos):Prop where
 base:attributeBase o m X.env (eval o X.env)=eval o X.env
 few:((backTo cpos (starEach [e] X.env)).all (λx=>!x.1)&&(backToKw cpos (keywordEach [] X.env)).all (λx=>x.1.isSome)
  && decide (([e]:List Expr).length+([]:List Keyword).length+(if([]:List Keyword).isEmpty then 0 else 1)<30))=true
 line:(apos.endLine==cpos.line)=true
 trees:backTo cpos (starEach [e] X.env)=[(false,eval e X.env)]
structure M2 (X:Cx) (o:Expr) (m:Str) (apos:Pos) (e f:Expr) (cpos:Pos):Prop where
 base:attributeBase o m X.env (eval o X.env)=eval o X.env
 few:((backTo cpos (starEach [e,f] X.env)).all (λx=>!x.1)&&(backToKw cpos (keywordEach [] X.env)).all (λx=>x.1.isSome)
  && decide (([e,f]:List Expr).length+([]:List Keyword).length+(if([]:List Keyword).isEmpty then 0 else 1)<30))=true
 line:(apos.endLine==cpos.line)=true
 trees:backTo cpos (starEach [e,f] X.env)=[(false,eval e X.env),(false,eval f X.env)]
def Eb(H:Hp) (a:Addr):Prop:=(∃b,Rd H a (.dK b))\/∃b,Rd H a (.dT b)
theorem wX(I:'&')(d:Eb H a):
  s.TypeIs (.ref a) "dict"/\(∀ b,Value.ref a=.ref b->∃ c,s.heap.get? b=some c/\c.dict=none)/\(a==sysModules)=false:=by
 rcases d with⟨h,e⟩|⟨h,e⟩
 ·obtain⟨_,g,k,_,f⟩:=j0 I.hok e;refine⟨f.typeIs,λb q=>?_,g⟩;cases q;obtain⟨c,_,_,j,i,_⟩:=f;exact⟨c,j,i.2.1⟩
 ·obtain⟨_,g,l,_,f⟩:=lw I.hok e;refine⟨f.typeIs,λb q=>?_,g⟩;cases q;obtain⟨c,_,_,j,i,_⟩:=f;exact⟨c,j,i.2.1⟩
theorem GZ{A:Around}(x:A.units+1<cLine)(I:'&')(g:jK H a y o)(t:RelV y u)(n:RelV d r)(h:∀p q,Inv X aW σ H q->RelV (o.getD d) p->Q p q):
  wpAny '#' A (call (.builtin "dict.get") [.ref a,u,r]) Q E s:=by
 rcases g with⟨m,k,e,i,l⟩|⟨m,k,b,e,i,w,l⟩
 ·subst i;obtain⟨z,j,C,c,f⟩:=j0 I.hok e;refine uB Ot f.typeIs F.entry_dict_get (F.args_dict_get_3 _ _ _) (meets_dict_get_default (ay X.prog X.w) a (j3 t) j r) ⟨_,f.mapOf,h _ _ (I.tok _) ?_⟩;rw[l];exact(c.val k).getD n
 ·subst i;cases(show u=Value.ref b from t);obtain⟨z,j,v,c,f⟩:=lw I.hok e;refine uB Ot f.typeIs F.entry_dict_get (F.args_dict_get_3 _ _ _) (meetsH_dict_get_default (tupleKind (ay X.prog X.w)) a b j r) ⟨yY x,k,v,uf I.hok w,f,h _ _ (I.tok _) ?_⟩;rw[l];exact(c.val k).getD n
def tf(c d e:TE):TE:=λb H Q=>c b H λx H1=>∃a,x=.ref a/\Eb H1 a/\d b H1 λy H2=>e b H2 λz H3=>∃o,jK H3 a y o/\Q (o.getD z) H3
theorem Ml{X:Cx}(R:X.A.units + 1<cLine)(P:PE X o td)(G:PE X e ty)(J:PE X f tx)(m:M2 X o "get" apos e f cpos):PE X (.Call (.Attribute o "get" apos) [e,f] [] cpos) (tf td ty tx):=by
 intro b s j H Q I h;refine wpAny_Call_method m.base m.few m.line DV Ot F.type_dict_get (aZ (P b s j H _ I h) λu l i=>?_);obtain⟨x,H1,k,t,a,A,d,q⟩:=i;subst A;obtain rfl:u=Value.ref a:=t;obtain⟨w,v,_⟩:=wX k d;refine⟨w,v,?_⟩;rw[m.trees]
 refine DM rfl (Oq (qq (aZ (G b l j H1 _ k q) λY C ⟨y,H2,S,n,p⟩=>
  qq (aZ (J b C j H2 _ S p) λfv U ⟨z,H3,r,rz,ov,g,T⟩=>sN ?_))))
 exact GZ R r g n rz λw' s4 E c=>⟨_,H3,E,c,T⟩
end L2
namespace Att
open PySem.W Calls PyProof.Rows
theorem Vw:∀(ns:List Int) (c:List Value),WellAll P h c (ns.map WData.int)->IntsAre c ns:=by
 intro ns
 induction ns with
 |nil=>
  intro c w;rw[C9] at w;cases w;exact .nil
 |cons n ns ih=>
  intro c w;rw[bP] at w;cases w with
  |cons a b=>
   cases a;exact .cons _ _ (ih _ b)
theorem Tk{l:OpenLaw}(p:l.most=some n)
  (c:l.row.toRowW.claim.pre args=true)(i:WellAll P h vals args):
  ∃ a k b,vals=[Value.ref a]/\args=[WData.list (b.map WData.int)]/\h.get? a=some { cls:=.type "list",data:=.seq k.toArray }/\IntsAre k b/\b.length<=n:=by
 have j:WShape.hasAll [] args [.list .int]=true:=(pre_splitW c).1;have m:l.pre.holds [] {args:=args}=true:=(pre_splitW c).2;obtain⟨d,r,rfl,u,t⟩:=hasAllW_cons j;obtain rfl:=hasAllW_nil t;obtain⟨v,rfl,o⟩:=hasW_list u;obtain⟨b,rfl⟩:=items_int o;have e:b.length<=n:=by
  unfold OpenLaw.pre at m;have g:(WTm.not (.lt (.lit (.int (n:Int))) (.len (.arg 0)))).holds [] {args:=[.list (b.map .int)]}=true:=by
   have g:=(holds_andW m).1;rw[p] at g;exact g
  have f:=condW_of g (w_not (w_lt w_lit (w_len_list (w_arg rfl))));rw[av] at f;refine fZ λq=>?_
  have s:(n:Int)<((b.length:Nat):Int):=by lia
  first
   | (rw[d5 s] at f;exact absurd f ')')
   | (simp at f;lia)
 cases i with
 |cons w1 w2=>
  cases w2;cases w1 with
  |list ho hall=>exact⟨_,_,b,rfl,rfl,ho,Vw b _ hall,e⟩
theorem Tb(l:OpenLaw)(args:List WData):l.row.toRowW.claim.post args (.bool true) args=true:=
 postW_of (r:=l.row.toRowW) (X:=(true==true))
  (show WShape.has [] (.bool true) .bool=true by first|rfl|decide|simp[WShape.has,WShape.arms,WShape.armsAll])
  (show(WTm.eq .res (.lit (.bool true))).value [] {args:=args,res:=some (.bool true),after:=args}=some (.bool (true==true)) from w_eq_bool (w_res rfl) w_lit) rfl
theorem jH{l:OpenLaw}{d:DefRec}
  (hn:l.most=some n)(x:d.params.defaults=[])
  (call:∀(w:World) (c b:Shared) (s C:Str->Option Value) (k:Addr) (o:Obj) (v t e:Value) (a:Addr) (h:List Value) (p:List Int),
   Ground q loose [] XP w c s C b.heap->YP w b.heap ->
   b.heap.get? k=some o->o.data=.func (docDef d.name d.params d.body d.scope v t e)->b.heap.CodeRec t d.name->s d.name=some (.ref k) ->
   b.heap.get? a=some { cls:=.type "list",data:=.seq h.toArray }->IntsAre h p->p.length<=n->b.gens=#[] ->
   codeAny (model l.prog w) callerA (.call (.ref k) ⟨[.ref a],[]⟩) (λr u=>r=.ok (.ret (.bool true))/\OldK b.heap u.heap/\u.os=b.os/\AllBare u.gens) b):
  WalkO q loose XP YP l.row.toRowW d [] (λf h=>PySem.call f h):=by
 intro w c b s C G Y k o v t e S kV ho Q z E y T I J as j H a0 A U;obtain rfl:S=.none:=Dflts.none E x;obtain rfl:kV=.none:=Dflts.noKw E;obtain⟨a,h,p,rfl,rfl,i,g,m⟩:=Tk hn j A;refine enter_call (uD (call w c b s C k o v t e a h p G Y ho (fd_plain Q) z y i g m T) λr u P=>?_);obtain⟨rfl,h2,X,h4⟩:=P;exact⟨.inl ⟨.bool true,.bool true,[],rfl,λ_=>rfl,.bool true,Tb l _,λ_=>⟨List.Pairwise.nil,λ_ R=>(nomatch R)⟩⟩,h2,X,h4⟩
end Att
namespace L2
open Spec PyProof.Rows
theorem Rg:∀{a:List Value}{b:List Int},IntsAre a b->ah (b.map V.int) a
 |_,_,.nil=>.nil
 |_,_,.cons n t h=>.cons ⟨t,rfl⟩ (Rg h)
def tY(H:Hp):Prop:=∀b,H b=none\/∃o a,H b=some (.frz o (.lst a))
theorem LQ{K:Fg}{s₁:Shared}{l:List Value}
  (KX:K.In s₁.heap)(I:s₁.heap.Ns mainGlobals mg)(f:s₁.heap.Ns builtinsNs mb)(U:∀ x:Str,x≠"__name__"->mb x=bootBuiltins x)(C:s₁.heap.NoLimit)(hg:s₁.gens=#[])
  (R:s₁.heap.get? a=some { cls:=.type "list",data:=.seq l.toArray })(hi:IntsAre l ns)(hl:ns.length<=sizeLine)(hr:bN k callerA)
  (F:∀base:Heap,K.In base->base.Ns mainGlobals mg->gk P w K mg base CX k fa fd [x] sp)(p:∀(s:Shared) (u:Value),BindsTo s fd ⟨[u],[]⟩ [(x,u)])
  (T:∀H:Hp,tY H->da K H a (ns.map V.int)->sp [.ref a] H (λv _=>v=.bl true) λ_ _ _=>False)
  (X:∀H e g,CX [] H s₁ (λ_ _ _=>False) e g->False):
  codeAny (model P w) callerA (.call (.ref fa) ⟨[.ref a],[]⟩) (λr g=>r=.ok (.ret (.bool true))/\OldK s₁.heap g.heap/\g.os=s₁.os/\AllBare g.gens) s₁:=by
 have rv:=Rg hi;have E:=hi.length;have j:∀H:Hp,tY H->da K H a (ns.map V.int)->fL P w H s₁.heap->(∀b,H b≠none->b=a)->(H a≠none->K.lookup a=none) ->
   codeAny (model P w) callerA (.call (.ref fa) ⟨[.ref a],[]⟩) (λr g=>r=.ok (.ret (.bool true))/\OldK s₁.heap g.heap/\g.os=s₁.os/\AllBare g.gens) s₁:=by
  intro H hO hS A hA hK;have c:∀{b:Addr}{o:Obj},s₁.heap.get? b=some o->H b=none->(i6 s₁.heap H).get? b=some o:=λe n=>LH e n
  have Y:∀{b:Addr}{o:Obj}{t:Array DictEntry}{ep:Nat},s₁.heap.get? b=some o->o.data=.dict t ep->H b=none:=λ{b o t ep} e d=>by
   cases q:H b with
   |none=>rfl
   |some u=>
    have S:b=a:=hA b (by rw[q];simp);subst S;rw[R] at e;cases e
    have d':Data.seq l.toArray _=Data.dict t ep:=d;cases d'
  have i:∀{b:Addr}{m:Str->Option Value},s₁.heap.Ns b m->(i6 s₁.heap H).Ns b m:=λ{b m} ⟨o,t,ep,e,d,r⟩=>⟨o,t,ep,c e (Y e d),d,r⟩
  have Q:K.In (i6 s₁.heap H):=λb o e=>c (KX b o e) (by
   cases q:H b with
   |none=>rfl
   |some u=>
    have S:b=a:=hA b (by rw[q];simp);subst S
    rw[hK (by rw[q];simp)] at e;cases e)
  have hM:Mod K mg (i6 s₁.heap H):=⟨Q,i I,⟨mb,i f,U⟩,let ⟨mc,h1,h2⟩:=C;⟨mc,i h1,h2⟩⟩
  have e0:kq P w K mg (i6 s₁.heap H) callerA [] s₁ H:=⟨rfl,hM,λb o e=>J2 e,ig (Nw _ _),trivial,λb f=>absurd (show b∈([]:List Addr) from f) '%',A,.of_eq hg⟩
  refine uD ((F _ Q (i I)).run callerA [] s₁ H ⟨[.ref a],[]⟩ [.ref a] [.ref a] _ _ hr e0 (p s₁ (.ref a)) (.cons rfl .nil) (T H hO hS)) λr g h=>?_
  cases r with
  |error e=>exact(X H e g h).elim
  |ok fl=>
   cases fl with
   |next=>exact False.elim h
   |brk=>exact False.elim h
   |cont=>exact False.elim h
   |ret u=>
    obtain⟨v,H',os,J,un,G,r',q⟩:=h;have q':v=.bl true:=q;subst q';obtain rfl:u=Value.bool true:=r';refine⟨rfl,OldK.of_keep λb o e=>?_,os,J⟩;cases q:H b with
    |none=>exact un.keep b o e q (by intro z;exact absurd (show b∈([]:List Addr) from z) '%') '%'
    |some u=>
     rcases hO b with z|⟨ob,xs,z⟩
     ·rw[q] at z;cases z
     ·have z2:=un.frzs b ob _ z;obtain⟨e1,_⟩:=A b _ z;obtain⟨e2,_⟩:=G b _ z2;rw[e] at e1;cases e1
      exact e2
 cases hk:K.lookup a with
 |some o=>
  have e:=KX a o hk;rw[R] at e;cases e;refine j (λ_=>none) (λ_=>.inl rfl) (.inr ⟨_,l.toArray,_,hk,rfl,rfl,rfl,by rw[dH,E];exact hl,by simpa using rv⟩) (λb u z=>by have y:(none:Option HO)=some u:=z;cases y) (λb z=>absurd rfl z) λz=>absurd rfl z
 |none=>
  refine j (λb=>if b=a then some (.frz { cls:=.type "list",data:=.seq l.toArray } (.lst (ns.map V.int))) else none) (λb=>?_) (.inl (.inr ⟨{ cls:=.type "list",data:=.seq l.toArray },if_pos rfl⟩)) (λb u z=>?_) (λb z=>?_) λ_=>hk
  ·by_cases f:b=a
   ·exact .inr ⟨_,_,if_pos f⟩
   ·exact .inl (if_neg f)
  ·by_cases f:b=a
   ·have y:=(if_pos f).symm.trans z;cases y;subst f;exact⟨R,by rw[av];exact hl,l,_,rv,R⟩
   ·have y:=(if_neg f).symm.trans z;cases y
  ·by_cases f:b=a
   ·exact f
   ·exact absurd (if_neg f) z
theorem KY{l:W.OpenLaw}{n k:Nat}{q:Program}{c:List Str}{XP:(Str->Option Value)->Heap->Prop}{R:World->Heap->Prop}{d:DefRec}{K:Params->Fg}{CX:World->ve}{sp:World->Sp}{x:Str}
  (hn:l.most=some n)(A:n<=sizeLine)(t:d.params.defaults=[])(T:bN k callerA)
  (U:∀(w:World) (h:Heap),R w h->(K w.params).In h)
  (F:∀(w:World) (i:Str->Option Value) (p:Addr) (h:Heap),(K w.params).In h->h.Ns mainGlobals i->i d.name=some (.ref p) ->
   ∃E:FuncData,(∀(s:Shared) (u:Value),BindsTo s E ⟨[u],[]⟩ [(x,u)]) /\
    ∀base:Heap,(K w.params).In base->base.Ns mainGlobals i->gk l.prog w (K w.params) i base (CX w) k p E [x] (sp w))
  (z:∀(w:World) (H:Hp) (a:Addr) (r:List Int),r.length<=n->tY H->da (K w.params) H a (r.map V.int)->sp w [.ref a] H (λv _=>v=.bl true) λ_ _ _=>False)
  (C:∀(w:World) (H:Hp) (s:Shared) (e:Value) (I:Shared),CX w [] H s (λ_ _ _=>False) e I->False):
  W.WalkO q c XP R l.row.toRowW d [] (λf J=>PySem.call f J):=by
 refine Att.jH hn t λw Q j i mb p o pm cd S a J r G Y ho hd a0 y m g b X=>?_
 have P:=U w _ Y;obtain⟨E,hb,hF⟩:=F w i p _ P G.T.g y;exact LQ P G.T.g G.T.b G.T.builtins G.T.nolimit X m g (ax b A) T hF hb (λH hO hS=>z w H a r b hO hS) λH e I=>C w H j e I
noncomputable def cE(s:Stmt):Arguments:=match s with
 |.FunctionDef _ a _ _ _ _ _ _ _ _=>a
 |_=>{posonlyargs:=[],args:=[],vararg:=none,kwonlyargs:=[],kw_defaults:=[],kwarg:=none,defaults:=[]}
noncomputable def bo(s:Stmt):List Stmt:=match s with
 |.FunctionDef _ _ b _ _ _ _ _ _ _=>b
 |_=>[]
noncomputable def af(s:Stmt):Scope:=match s with
 |.FunctionDef _ _ _ _ _ _ sc _ _ _=>sc
 |_=>{kind:=.function,names:=[],isGenerator:=false,isCoroutine:=false}
abbrev jM:ve:=λ_ _ _ _ _ _=>False
abbrev E0:XK:=λ_ _ _=>False
theorem AH:ko jM X E0:=λ_ _ _ _ _ _ _ h=>h.elim
structure pR (K:Fg) (x qual:Str) (au:Stmt) (f:Addr) (fd:FuncData):Prop where
 ex:∃(oc:Value) (od:Option Addr) (kV doc pm:Value) (an:Option Addr) (cdv ct:Value) (osl:Array (Option Value)),
  fd=W.fnOf x qual (cE au) (bo au) (af au) .none kV doc pm an cdv ct/\K.lookup f=some ⟨oc,od,.func fd,osl⟩/\W.codeIn K cdv qual=true
 kp:W.keepIn K (.ref f)=true
theorem pR.ok{K:Fg}{N:List Str}(F:pR K x qual au f fd)(S:cb N ps (af au))(len:∀c H Q E,sp c H Q E->c.length=ps.length)
  (d:∀(b:Value) (A:Around) (a:List Env) (s:Shared) (H:Hp) (c:List V) (Q:VK) (E:XK),bN k (A.deeper (envOfC qual (af au) s.heap.objs.size f b))->sp c H Q E ->
   ∃t,jJ (gy jM P w K mg base N qual (af au) f b A a s H E).nox (bo au) t/\t {nx:=λ_ m=>Q .non m,rt:=Q} (start N c) H):gk P w K mg base jM (k+1) f fd ps sp:=by
 obtain⟨r,v,kV,n,o,p,b,u,i,rfl,l,e⟩:=F.ex;refine F7 l e S len λA a s H c Q E j g=>?_
 obtain⟨t,h,q⟩:=d b A a s H c Q E j g;exact⟨t,h.nox,q⟩
theorem pR.binds{K:Fg}{d:List Str}(F:pR K x qual au f fd)
  (h:∀(kV a c:Value) (e:Option Addr) (b g:Value) (i:List Value),i.length=d.length->bindArgs (W.fnOf x qual (cE au) (bo au) (af au) .none kV a c e b g) ⟨i,[]⟩=pure (d.zip i)):Binds K fd d []:=by
 obtain⟨l,n,kV,a,c,e,b,g,j,rfl,m,k⟩:=F.ex;exact .all (h kV a c e b g)
theorem Hm{K:Fg}{kV:Value}(l:K.lookup f=some ⟨oc,od,.func (W.fnOf x qual (cE au) (bo au) (af au) .none kV doc pm an cdv ct),osl⟩)
 (c:W.codeIn K cdv qual=true)(k:W.keepIn K (.ref f)=true):pR K x qual au f (W.fnOf x qual (cE au) (bo au) (af au) .none kV doc pm an cdv ct):=⟨⟨oc,od,kV,doc,pm,an,cdv,ct,osl,rfl,l,c⟩,k⟩
theorem iT(a:bN k A):A.units+1<cLine:=jv (ii (by decide:1<=64) _) a.units
theorem pv{X:Cx}(i:Nat) (b:X.N[i]?=some x:=by rfl)(d:vc X.env.scope x:=by first|exact Or.inl rfl|exact Or.inr (Or.inl rfl)|exact Or.inr (Or.inr rfl))(c:(x==("__debug__" : Str))=false:=by decide)
 (a:(x==("__classdict__" : Str))=false:=by decide):PE X (.Name x pos) (py i):=Ic b d c a
theorem lT{A B:Prop}(h:B):if false=true then A else B:=by
 rw[if_neg og];exact h
theorem lS{A B:Prop}(h:A):if true=true then A else B:=by
 rw[if_pos rfl];exact h
noncomputable abbrev ub:Value->Shared->Prop:=λ_ _=>False
noncomputable abbrev px(c:List Expr) (a:Env):Sem Bool:=
 forIn c true λd b=>if b=true then do let z ←isTrue d a (eval d a);pure (ForInStep.yield z) else pure (ForInStep.yield b)
def nN(P:Program) (w:World) (B:Around) (c x:Expr) (e:List Expr) (a:Env) (i l:Value) (K:Shared->Prop) (v:Value) (j:Shared):Prop:=
 wpAny (model P w) B (letOwnedTupleGo c i v) (λ_ g=>wpAny (model P w) B (assign c a v) (λ_ h=>wpAny (model P w) B (px e a) (λf b=>
  if f=true then wpAny (model P w) B (eval x a) (λy k=>wpAny (model P w) B (call (.builtin "list.append") [l,y]) (λ_ d=>K d) ub k) ub b else K b) ub h) ub g) ub j
theorem Ng{R:Result->Shared->Prop}{m:List Expr}(J:Nat->Shared->Prop)
  (q:∀k d,J k d->wpAny (model P w) B (pyNext i) (λo f=>match o with
   |none=>R (.ok .next) f
   |some v=>nN P w B tg x m ev i l (λj=>∃h,h<k/\J h j) v f) ub d)
  (k:Nat)(A:J k sh):codeAny (model P w) B (.compLoop (.ListComp x [⟨tg,it,m,0⟩] sc ps) 0 i l ev) R sh:=by
 have a:∀{E:Value->Shared->Prop}(e:Value) (z:Shared),ub e z->E e z:=λ_ _ z=>z.elim
 refine codeAny_loop rfl J (λk d t=>wpAny_noted (by
  rw[compTurn_list];refine ab (Db (ab (iU (q k d t) (λo f c=>?_) a)))
  match o,c with
  |none,c=>exact am c
  |some v,c=>
   refine ab (iU c (λ_ G r=>ab (iU r (λ_ p n=>ab (iU n (λg H b=>?_) a)) a)) a)
   match g,b with
   |false,b=>exact am (And.intro rfl b)
   |true,b=>exact ab (ab (iU b (λy C s=>ab (iU s (λ_ j u=>am (am (And.intro rfl u))) a)) a)))) k A
theorem UU{env:Env}:∀(b:List (Str×NameKind)) (d:List (Str×Addr)),(∀y∈b,y.2=.free->∃c,env.cells.lookup y.1=some c)->(∀x c,d.lookup x=some c->env.cells.lookup x=some c) ->
  ∃g:List (Str×Addr),(forIn b d (λx r=>if(x.2==NameKind.free)=true then do let a ←cellOf env x.1;pure (ForInStep.yield ((x.1,a)::r)) else pure (ForInStep.yield r)):Sem (List (Str×Addr)))=pure g /\
   (∀x c,g.lookup x=some c->env.cells.lookup x=some c)/\(∀x c,d.lookup x=some c->∃h,g.lookup x=some h)/\∀x,(x,NameKind.free)∈b->∃c,g.lookup x=some c:=by
 intro b
 induction b with
 |nil=>intro d _ j;exact⟨d,rfl,j,λx c e=>⟨c,e⟩,λx z=>(nomatch z)⟩
 |cons y r ih=>
  intro d l j;obtain⟨n,k⟩:=y;by_cases hk:k=.free
  ·subst hk;obtain⟨c,s⟩:=l (n,.free) eF rfl
   obtain⟨g,e,p,i,m⟩:=ih ((n,c)::d) (λy o=>l y (cH _ o)) (λx h e=>by
    rw[pf] at e;by_cases f:x=n
    ·subst f;rw[uH] at e;cases e;exact s
    ·rw[uP.mpr f] at e
     exact j x h e)
   refine⟨g,?_,p,λx h t=>?_,λx f=>?_⟩
   ·rw[NZ];simp only[uH,ite_true];have q:cellOf env n=pure c:=by unfold cellOf;rw[s]
    rw[q];simp only[pure_bind];exact e
   ·by_cases f:x=n
    ·subst f;exact i x c (by rw[pf,uH])
    ·exact i x h (by rw[pf,uP.mpr f];exact t)
   ·rcases bT.mp f with z|z
    ·cases z;exact i n c (by rw[pf,uH])
    ·exact m x z
  ·obtain⟨g,e,p,i,m⟩:=ih d (λy o=>l y (cH _ o)) j;refine⟨g,?_,p,i,λx f=>?_⟩
   ·rw[NZ];have u:(k==NameKind.free)=false:=by simpa using hk
    simp only[u,kF,iB,pure_bind];exact e
   ·rcases bT.mp f with z|z
    ·cases z;exact absurd rfl hk
    ·exact m x z
theorem TV{scope:Scope}{env:Env}(h:∀y∈scope.names,y.2=.free->∃c,env.cells.lookup y.1=some c):
  ∃cl,closureFor scope env=pure cl/\(∀x c,cl.lookup x=some c->env.cells.lookup x=some c)/\∀x,(x,NameKind.free)∈scope.names->∃c,cl.lookup x=some c:=by
 obtain⟨cl,e,h1,_,h3⟩:=UU (env:=env) scope.names [] h (λx c e=>(nomatch e));refine⟨cl,?_,h1,h3⟩;unfold closureFor;have e':=congrArg (λm=>m >>= λr=>(pure r:Sem (List (Str×Addr)))) e;simp only[pure_bind] at e';exact e'
theorem C5{a:Env}:∀{b:List (Str×NameKind)}{x:Str}{k:NameKind},(b.map λ(n,k)=>if(k==NameKind.free&&a.scope.kind==.function&&a.kindOf n==some .cell) then(n,NameKind.cell) else(n,k)).lookup x=some k ->
  b.lookup x=some k\/(k=.cell/\b.lookup x=some .free)
 |[],_,_,h=>by simp at h
 | (n,k')::r,x,k,h=>by
  have d:=@C5 a r x k;have c:List.lookup x ((if(k'==NameKind.free&&a.scope.kind==.function&&a.kindOf n==some .cell)=true then(n,NameKind.cell) else(n,k'))::_)=_:=h;cases hx:x==n with
  |true=>
   by_cases hc:(k'==NameKind.free&&a.scope.kind==.function&&a.kindOf n==some .cell)=true
   ·rw[if_pos hc] at c;simp only[pf,hx] at c ⊢;cases c;rw[iF,iF] at hc;exact .inr ⟨rfl,by rw[eq_of_beq hc.1.1]⟩
   ·rw[if_neg hc] at c;simp only[pf,hx] at c ⊢;exact .inl c
  |false=>
   have e:(r.map λ(n,k)=>if(k==NameKind.free&&a.scope.kind==.function&&a.kindOf n==some .cell) then(n,NameKind.cell) else(n,k)).lookup x=some k:=by
    by_cases hc:(k'==NameKind.free&&a.scope.kind==.function&&a.kindOf n==some .cell)=true
    ·rw[if_pos hc] at c;simp only[pf,hx] at c;exact c
    ·rw[if_neg hc] at c;simp only[pf,hx] at c;exact c
   simp only[pf,hx];exact d e
def fo(X:Cx) (N:List Str) (a:Scope) (b:List (Str×Addr)) (C:Addr) (c:List Addr) (s:Shared) (H:Hp):Cx:=
 {X with N:=N,s₀:=s,H₀:=H,env:=compEnvC a b C X.env,outer:=X.stack,ex:=c,fn:=λ_=>false,pn:=[],xe:=λ_ _=>False}
def f8(k:Nat) (is:List Nat) (a:St):St:=List.replicate k none++is.map λi=>(a[i]?).getD none
structure bA (X:Cx) (N:List Str) (k:Nat) (is:List Nat) (scope:Scope):Prop where
 kind:scope.kind=.function
 nocell:∀y∈scope.names,y.2≠.cell
 names:∀y∈scope.names,y.2=.local->scope.names.lookup y.1=some .local
 frees:∀y∈scope.names,y.2=.free->X.env.kindOf y.1=some .cell\/X.env.kindOf y.1=some .free
 len:N.length=k+is.length
 own:∀j i,is[j]?=some i->∃x,N[k+j]?=some x/\X.N[i]?=some x/\scope.names.lookup x=some .free
theorem CJ{l:List (Str×NameKind)}(h:l.lookup x=some k):(x,k)∈l:=uQ h
theorem LL{N:List Str}{Q:List (Str×Addr)}{J:Heap}(S:bA X N k is scope)(I:'&')
  (h:∀x c,Q.lookup x=some c->X.env.cells.lookup x=some c)(c2:∀x,(x,NameKind.free)∈scope.names->∃c,Q.lookup x=some c)
  (w:∀b∈P,dX X aW H b)(R:∀b∈P,∃o,s.heap.get? b=some o)(hn:J.Ns s.heap.objs.size (λ_=>none))(t:∀b o,s.heap.get? b=some o->J.get? b=some o):
  Inv (fo X N scope Q s.heap.objs.size P s H) [] (f8 k is σ) H {s with heap:=J,toks:=tk}:=by
 have hC:∀b o,s.heap.get? b=some o->b≠s.heap.objs.size:=λb o e=>dY (cJ e)
 have Y:∀b∈P,b∉kQ X.stack:=λb g z=>by
  rcases bT.mp (I.stkSub b z) with e|e
  ·exact(w b g).2.1 e
  ·exact(w b g).2.2.1 e
 refine⟨⟨I.ok.mod,S.kind,I.ok.glob,I.ok.blt,aY _,λx y c E d=>I.ok.inj x y c (h x c E) (h y c d),λx hx=>?_,λx c z=>?_,I.ok.hd,I.ok.frames,.inl rfl,λb g=>⟨?_,λx c e=>?_⟩,I.bs,ax I.ok.bsz I.sz,λb o e g=>?_,Y,I.stack,I.stkFree⟩,
  rfl,I.bare,Un.kept t,⟨_,hn,λi x v E d e3=>?_⟩,λx c e=>?_,I.hok.fresh (aY _),λx c e=>I.freeC x c (h x c e),λp hp=>(nomatch hp),I.hok.kept t,?_,I.hnd⟩
 ·have C:(scope.names.map λ(n,k)=>if(k==NameKind.free&&X.env.scope.kind==.function&&X.env.kindOf n==some .cell) then(n,NameKind.cell) else(n,k)).lookup x=some .cell\/(scope.names.map λ(n,k)=>if(k==NameKind.free&&X.env.scope.kind==.function&&X.env.kindOf n==some .cell) then(n,NameKind.cell) else(n,k)).lookup x=some .free:=hx;have q:scope.names.lookup x=some .free:=by
   rcases C with z|z
   ·rcases C5 z with q|⟨_,q⟩
    ·exact absurd rfl (S.nocell _ (CJ q))
    ·exact q
   ·rcases C5 z with q|⟨q,_⟩
    ·exact q
    ·cases q
  exact c2 x (CJ q)
 ·cases z
 ·obtain⟨o,e⟩:=R b g;exact hC b o e
 ·exact(w b g).2.2.2.2.1 x c (h x c e)
 ·rcases(w b g).2.2.2.1 with z|z
  ·exact I.ok.noex b o e z
  ·exact absurd (df (cJ (I.ok.bs b o e).1) z) (o0 _)
 ·-- a name of the def around
  unfold f8 at d;have hi:k<=i:=by
   rcases j8 i k with z|z
   ·rw[h8 (by rw[zD];exact z),List.getElem?_replicate,if_pos z] at d;cases d
   ·exact z
  rw[mw (by rw[zD];exact hi),zD,eU] at d;cases ej:is[i-k]? with
  |none=>rw[ej] at d;cases d
  |some j=>
   rw[ej] at d;have f:(σ[j]?).getD none=some v:=fY d;obtain⟨y,y1,y2,A⟩:=S.own (i-k) j ej;have ey:y=x:=by
    have z:N[i]?=some y:=by rw[←y1];congr 1;lia
    have l:N[i]?=some x:=E;rw[z] at l;exact fY l
   subst ey;have e4:σ[j]?=some (some v):=by
    cases q:σ[j]? with
    |none=>rw[q] at f;cases f
    |some o=>rw[q] at f;exact congrArg some f
   have kd:=S.frees _ (CJ A) rfl;have T:vc X.env.scope y:=.inr kd;obtain⟨m,_,hl⟩:=I.loc;obtain⟨u,r,lk⟩:=hl j y v y2 e4 T;refine⟨u,r,?_⟩;rcases lk with⟨z,_⟩|⟨_,c,e5,cc⟩
   ·rcases kd with q|q<;>(rw[q] at z;cases z)
   ·obtain⟨c',e6⟩:=c2 y (CJ A);have:c'=c:=by
     have z:=h y c' e6;rw[e5] at z;exact(fY z).symm
    subst this;refine .inr ⟨?_,c',e6,?_⟩
    ·rcases e3 with z|z|z
     ·exact absurd (C5 z) (by
       rw[A];rintro(q|⟨q,_⟩)
       ·cases q
       ·cases q)
     ·exact .inl z
     ·exact .inr z
    ·obtain⟨o,U,G⟩:=cc;exact⟨o,t _ o U,G⟩
 ·obtain⟨v,o,U,G⟩:=I.cell x c (h x c e);exact⟨v,o,t _ o U,G⟩
 ·unfold f8;rw[dq,zD,av];exact S.len.symm
theorem LK{N:List Str}(I:'&')(f:∀b∈j,dX X aW H b)(J:Inv (fo X N scope cl s.heap.objs.size j s H) [] σ' H' s')
  (d:Heap.SameBut s.heap.objs.size s'.heap h'):Inv X aW σ H' {s' with heap:=h'}:=by
 have h:∀b o,s.heap.get? b=some o->b≠s.heap.objs.size:=λb o e=>dY (cJ e)
 have k:H' s.heap.objs.size=none:=J.free;have B:Un (kQ X.stack) j H H' s.heap s'.heap:=J.base
 have U:Un (kQ X.stack) j H H' s.heap h':=⟨λb o e n i g=>d.extBut b o (h b o e) (B.keep b o e n i g),λb o e n i g=>by
   obtain⟨m,q⟩:=B.slot b o e n i g;exact⟨m,d.extBut b _ (h b o e) q⟩,B.free,λb o e p=>by
   obtain⟨l,q⟩:=B.there b o e p
   exact⟨l,d.extBut b l (h b o e) q⟩,B.tups,B.frzs,B.tbls⟩
 refine I.call' (s':={s' with heap:=h'}) J.os U (λa o e=>?_) J.bare (λb c=>⟨(f b c).2.2.2.1,(f b c).2.1,(f b c).2.2.2.2.1,(f b c).2.2.2.2.2⟩);refine(J.hok a o e).stay (λb u c q=>d.extBut b u ?_ q) (λ_ q=>q) λ_ _ q=>q
 rcases c with z|z
 ·intro y;rw[z] at y;rw[y,k] at e;cases e
 ·intro y;rw[y,k] at z;cases z
structure tZ (X:Cx) (aW:List (Addr×Obj)) (H:Hp) (C:Addr):Prop where
 free:H C=none
 loc:C≠X.env.locals
 young:X.s₀.heap.objs.size<=C
 cell:∀x c,X.env.cells.lookup x=some c->c≠C
 pin:∀p∈X.pn++aW,p.1≠C
theorem tZ.back(o:tZ X aW H C)(I:'&')(a:Heap.SameBut C s.heap h'):Inv X aW σ H {s with heap:=h'}:=
 I.turned (t':=s.toks) (λb u c e=>a.extBut b u c e) o.free o.loc (.inr o.young) o.cell o.pin
def SM(p:Addr) (f:TE) (g:TT) (N:St->Hp->Prop):St->Hp->Prop:=λa H3=>g a H3 λb d=>
 if b=true then f a d λy e=>∃c,e p=some (.lst c)/\c.length<sizeLine/\N a (aq e p (.lst (c++[y]))) else N a d
def BN(J:It) (g:TG) (f:TT) (e:TE) (Q:VK) (p:Addr) (h:St) (H:Hp):Prop:=∃W:Nat->Nat->St->Hp->Prop,(∃m,W 0 m h H) /\
 ∀i m a b,W i m a b->(J.stop i b/\Q (.ref p) b)\/(J.go i b/\∃N:St->Hp->Prop,(∀c H2,N c H2->∃d,d<m/\W (i+1) d c H2)/\∀x H2,J.yld i b x H2->g x a H2 (SM p e f N))
def kK(b:TI) (k:Nat) (is:List Nat) (g:TG) (d:TT) (c:TE):TE:=λa H Q=>b a H λJ H1=>∀p,H1 p=none->BN J g d c Q p (f8 k is a) (aq H1 p (.lst []))
def OL:TT:=λ_ H Q=>Q true H
def oq(X:Cx) (b:List Expr) (t:TT):Prop:=
 ∀(d:List (Addr×Obj)) (s:Shared) (a:St) (H:Hp) (Q:Bool->Hp->Prop),Inv X d a H s->t a H Q ->
  wpAny '#' X.A (forIn b true λc r=>if r=true then do let ok ←isTrue c X.env (eval c X.env);pure (ForInStep.yield ok) else pure (ForInStep.yield r)) (TP X d a Q) X.xe s
theorem Kk:oq X [] OL:=λa s b H Q I h=>wpAny_tests_nil ⟨H,I,h⟩
theorem Kl(h:PT X c t):oq X [c] t:=λb s d H Q I a=>wpAny_tests_one (h b s d H Q I a)
section
variable {X:Cx}{tg:Expr}{iter:Expr}{elt:Expr}{ifs:List Expr}{g:TG}{tc:TT}{te:TE}{N:List Str}{k:Nat}{is:List Nat}{scope:Scope}{pos:Pos}
theorem Rn(z:X.calm=true)(hg:∀l C j s H,PG (fo X N scope l C j s H) tg g)(hc:∀l C j s H,oq (fo X N scope l C j s H) ifs tc)(he:∀l C j s H,PE (fo X N scope l C j s H) elt te)
  (S:bA X N k is scope){aW:List (Addr×Obj)}{σ:St}{H2:Hp}{s2:Shared}{l:List (Str×Addr)}{it:Addr}{j:List Addr}{tn:Nat->Heap->Prop}{J:It}{Q:VK}{E:Value->Shared->Prop}{RR:Value->Addr->Result->Shared->Prop}
  (I2:Inv X aW σ H2 s2)(T:ir X.prog X.w X.K tg J j it tn)(a9:tn 0 s2.heap)(f2:∀b∈j,dX X aW H2 b)
  (c1:∀x c,l.lookup x=some c->X.env.cells.lookup x=some c)(c2:∀x,(x,NameKind.free)∈scope.names->∃c,l.lookup x=some c)
  (h:∀p,H2 p=none->∃W:Nat->Nat->St->Hp->Prop,(∃m,W 0 m (f8 k is σ) (aq H2 p (.lst []))) /\
   ∀i m a H',W i m a H'->(J.stop i H'/\Q (.ref p) H')\/(J.go i H'/\∃N:St->Hp->Prop,(∀a7 H2,N a7 H2->∃P,P<m/\W (i+1) P a7 H2)/\∀x H2,J.yld i H' x H2->g x a H2 (SM p te tc N)))
  (hR:∀(p C:Addr) (w:Shared) (H':Hp) (m:Str->Option Value),tZ X aW H' C->w.heap.Ns C m->Inv X aW σ H' w->Q (.ref p) H'->RR (.ref p) C (.ok .next) w):
  wpAny '#' X.A (newList []) (λa5 b1=>wpAny '#' X.A (newFunctionEnv scope X.env.globals l [] X.env.qual none .none (some X.env)) (λU b0=>
   codeAny '#' X.A (.compStart (.ListComp elt [⟨tg,iter,ifs,0⟩] scope pos) 0 (.ref it) a5 {U with scope:=relabel scope X.env}) (RR a5 U.locals) b0) E b1) E s2:=by
 refine jt ?_;have fresh:H2 s2.heap.objs.size=none:=I2.fresh;have I3:Inv X aW σ (aq H2 s2.heap.objs.size (.lst [])) { s2 with heap:=s2.heap.push { cls:=.type "list",dict:=none,data:=.seq ([]:List Value).toArray } }:=I2.lnew (t':=s2.toks) (.nil) ')'
 generalize hs3:({ s2 with heap:=s2.heap.push { cls:=.type "list",dict:=none,data:=.seq ([]:List Value).toArray } }:Shared)=s3 at I3
 have k3:∀b o,s2.heap.get? b=some o->s3.heap.get? b=some o:=λb o e=>by rw[←hs3];exact bX _ e
 refine wpAny_newFunctionEnv S.nocell (by intro y hy;simp at hy) (λh₁ R I=>?_) S.kind;have a0:tn 0 s3.heap:=T.keep _ _ _ a9 λb _ o e=>k3 b o e
 have f3:∀b∈j,dX X aW (aq H2 s2.heap.objs.size (.lst [])) b:=λb t=>by
  obtain⟨o,e,_⟩:=T.obj _ _ a9 b t;exact⟨by rw[zq (dY (cJ e))];exact(f2 b t).1,(f2 b t).2⟩
 have k4:∀b o,s3.heap.get? b=some o->h₁.get? b=some o:=λb o e=>I.extBut b o (dY (cJ e)) (bX _ e)
 have J4:=LL (tk:=s3.toks+([]:List (Str×Value)).length) S I3 c1 c2 f3 (λb t=>let ⟨o,e,_⟩:=T.obj _ _ a0 b t;⟨o,e⟩) R k4;obtain⟨W,⟨m0,w0⟩,b2⟩:=h s2.heap.objs.size fresh;have a8:tn 0 h₁:=T.keep _ _ _ a0 λb _ o e=>k4 b o e
 have Y:codeAny '#' X.A (.compLoop (.ListComp elt [⟨tg,iter,ifs,0⟩] scope pos) 0 (.ref it) (.ref s2.heap.objs.size) (compEnvC scope l s3.heap.objs.size X.env)) (RR (.ref s2.heap.objs.size) s3.heap.objs.size) {s3 with heap:=h₁,toks:=s3.toks+([]:List (Str×Value)).length}:=by
  have A:∀{H':Hp},(∀b∈j,H' b=none)->∀b∈j,dX (fo X N scope l s3.heap.objs.size j s3 (aq H2 s2.heap.objs.size (.lst []))) [] H' b:=λ{H'} hn b t=>by
   obtain⟨o,e,_⟩:=T.obj _ _ a0 b t;refine⟨hn b t,dY (cJ e),J4.ok.exfs b t,.inl t,λx c e'=>(f3 b t).2.2.2.2.1 x c (c1 x c e'),λp hp=>(nomatch hp)⟩
  refine Ng (λn w=>∃i a H',Inv (fo X N scope l s3.heap.objs.size j s3 (aq H2 s2.heap.objs.size (.lst []))) [] a H' w/\tn i w.heap/\(∀b∈j,H' b=none)/\W i n a H') ?_ m0
   ⟨0,_,_,J4,a8,λb t=>(f3 b t).1,w0⟩
  rintro n s5 ⟨i,G,H5,I5,a6,b4,w5⟩;rcases b2 i n G H5 w5 with⟨b3,q⟩|⟨go,N',a3,step⟩
  ·refine aZ (T.done (fo X N scope l s3.heap.objs.size j s3 (aq H2 s2.heap.objs.size (.lst []))) rfl rfl rfl z i [] s5 G H5 _ I5 (A b4) a6 b3) λr s6 f=>?_
   obtain⟨hr,I6⟩:=f;subst hr;obtain⟨m,hm,_⟩:=I6.loc;refine hR _ _ s6 H5 m ⟨I6.free,mL I3.lt,I3.sz,λx c e=>?_,λp hp=>dY (cJ (I3.pin p hp).1)⟩ hm (LK (h':=s6.heap) I3 f3 I6 (.refl ..)) q;obtain⟨v,o,ho,_⟩:=I3.cell x c e;exact dY (cJ ho)
  ·refine aZ (T.item (fo X N scope l s3.heap.objs.size j s3 (aq H2 s2.heap.objs.size (.lst []))) rfl rfl rfl z i [] s5 G H5 _ I5 (A b4) a6 go) λr s6 f=>?_
   obtain⟨u,hr,h6⟩:=f;subst hr;refine aZ h6 λ_ s7 f=>?_
   obtain⟨x,H7,I7,r7,y7,a2,b9⟩:=f;have c3:=I7.pinned (A b9) (T.obj _ _ a2);refine aZ (hg l s3.heap.objs.size j s3 _ _ s7 G H7 x u _ c3 r7 (step x H7 y7)) λ_ s8 f=>?_
   obtain⟨a1,H8,I8,q8⟩:=f;refine aZ (hc l s3.heap.objs.size j s3 _ _ s8 a1 H8 _ I8 q8) λb s9 f=>?_
   obtain⟨H9,I9,q9⟩:=f;have again:∀{a:St}{H':Hp}{w:Shared}{P:Nat},Inv (fo X N scope l s3.heap.objs.size j s3 (aq H2 s2.heap.objs.size (.lst []))) ([]++gY j s7.heap) a H' w->P<n->W (i+1) P a H' ->
     ∃m,m<n/\∃i a H',Inv (fo X N scope l s3.heap.objs.size j s3 (aq H2 s2.heap.objs.size (.lst []))) [] a H' w/\tn i w.heap/\(∀b∈j,H' b=none)/\W i m a H':=λ{a H' w P} I' hm w'=>by
    refine⟨P,hm,i+1,a,H',I'.unpinned,T.keep _ _ _ a2 λb t o e=>(I'.pin (b,o) (gE _ (gE _ (CK t e)))).1,λb t=>?_,w'⟩;obtain⟨o,e,d⟩:=T.obj _ _ a2 b t;exact(I'.pin (b,o) (gE _ (gE _ (CK t e)))).2.1
   cases b with
   |false=>
    obtain⟨P,hm,w'⟩:=a3 _ _ q9;exact again I9 hm w'
   |true=>
    refine aZ (he l s3.heap.objs.size j s3 _ _ s9 a1 H9 _ I9 q9) λv c5 f=>?_
    obtain⟨y,a4,c6,c0,xs,b7,hz,c4⟩:=f;obtain⟨P,hm,w'⟩:=a3 _ _ c4;refine aZ (QZ (X:=fo X N scope l s3.heap.objs.size j s3 (aq H2 s2.heap.objs.size (.lst []))) _ c5 a1 a4 (.ref s2.heap.objs.size) [y] _ [v] (λ_ H'=>H'=aq a4 s2.heap.objs.size (.lst (xs++[y]))) c6 rfl (.cons c0 .nil) ⟨_,xs,y,rfl,rfl,b7,hz,rfl⟩) λ_ c9 f=>?_
    obtain⟨_,c8,b5,_,b6⟩:=f;subst b6;exact again b5 hm w'
 have c7:s2.heap.push { cls:=.type "list",dict:=none,data:=.seq ([]:List Value).toArray }=s3.heap:=by rw[←hs3]
 have b8:=codeAny_compStart_list (elt:=elt) (target:=tg) (iter:=iter) (ifs:=ifs) (rest:=[]) (scope:=scope) (pos:=pos) Y (T.self X.A 0 _ _ _ a8 Y);exact b8
end
theorem RM{N:List Str}(S:bA X N k is scope) (I:'&'):
  ∃a,closureFor scope X.env=pure a/\(∀x c,a.lookup x=some c->X.env.cells.lookup x=some c)/\∀x,(x,NameKind.free)∈scope.names->∃c,a.lookup x=some c:=
 TV λy d b=>I.ok.has y.1 (S.frees y d b)
theorem Ke{X:Cx}{N:List Str}(a:X.calm=true)(o:PI X tg iter wi)(y:∀c C b s H,PG (fo X N scope c C b s H) tg g)(r:∀c C b s H,oq (fo X N scope c C b s H) ifs tc)(R:∀c C b s H,PE (fo X N scope c C b s H) elt te)
  (S:bA X N k is scope)(z:∀x,foldedSetIterable iter X.env x=pure x:=by intro _;rfl):PE X (.ListComp elt [⟨tg,iter,ifs,0⟩] scope pos) (kK wi k is g tc te):=by
 intro l s n H Q I h;obtain⟨c,e,c1,u⟩:=RM S I;rw[eval_ListComp];refine wpAny_comprehension_free (use:=none) rfl z e S.kind S.names (aZ (o l s n H _ I h) λxv s1 w=>aZ w λA s2 h2=>?_);obtain⟨it,b,tn,J,H2,U,P,T,d,t,Y⟩:=h2;subst U;refine Rn (Q:=Q) (RR:=λj C=>compPost '#' X.A X.xe none (EP X l n Q) j C) a y r R S P T d t c1 u Y ?_;intro p C s' E m f v G q;exact⟨m,v,λh' i=>⟨.ref p,E,f.back G i,rfl,q⟩⟩
theorem Ks{X:Cx}{N:List Str}(d:X.calm=true)(hN:X.N.Nodup)(o:X.N[i]?=some x)(hx:Loc X.env.scope x)(Y:PI X tg iter wi)(hg:∀j C f s H,PG (fo X N scope j C f s H) tg g)(hc:∀j C f s H,oq (fo X N scope j C f s H) ifs tc)
  (he:∀j C f s H,PE (fo X N scope j C f s H) elt te)(S:bA X N k is scope){b:Pos}(w:swapsWith (.ListComp elt [⟨tg,iter,ifs,0⟩] scope pos) (some (.Name x pos')) b.line X.env=pure true:=by rfl)
  (hf:X.fn x=true\/X.env.scope.names.lookup x=some .local:=by first|exact .inl rfl|exact .inr rfl|assumption)
  (R:∀x,foldedSetIterable iter X.env x=pure x:=by intro _;rfl):PS X (.Assign [.Name x pos'] (.ListComp elt [⟨tg,iter,ifs,0⟩] scope pos) b) (pB (kK wi k is g tc te) (jC i)):=by
 intro r s U H D I h;obtain⟨j,e,c1,c2⟩:=RM S I;rw[exec_Assign_Name_used (hs:=w)];refine ab (Db (ab (?_:wpAny _ X.A _ _ _ s)));show wpAny _ X.A (do let _ ←comprehension (.ListComp elt [⟨tg,iter,ifs,0⟩] scope pos) scope X.env _ (newList []) false (eval iter X.env) (some (assign (.Name x pos') X.env))) _ _ s
 refine ab (iU (wpAny_comprehension_free (use:=some (assign (.Name x pos') X.env)) (Q:=λ_ l=>SP X r D .next l) rfl R e S.kind S.names
  (aZ (Y r s U H _ I h) λxv s1 h1=>aZ h1 λa1 s2 h2=>?_)) (λ_ l hq=>am (am hq)) λ_ _ e=>e)
 obtain⟨it,f,tn,J,H2,e2,I2,T,n,f2,h3⟩:=h2;subst e2;refine Rn (Q:=λv G=>jC i v U G D.nx) (RR:=λy C=>compPost '#' X.A X.xe (some (assign (.Name x pos') X.env)) (λ_ l=>SP X r D .next l) y C) d hg hc he S I2 T n f2 c1 c2 h3 ?_;intro p C l G m c hm I' q;show wpAny _ X.A (assign (.Name x pos') X.env (.ref p)) _ _ _;refine wpAny_assign_Name (Rc (v:=.ref p) I' hN o hx rfl (λa0 A E=>?_) hf);obtain⟨a,P,ha⟩:=E;have u:C≠a:=by
  rcases ha with z|z
  ·rw[z];exact c.loc
  ·exact(c.cell x a z).symm
 exact⟨m,hm.sameBut P u,λh' t=>⟨_,G,c.back A t,q⟩⟩
def Callee(P:Program) (w:World) (K:Fg) (a:Str->Option Value) (base:Heap) (x:Str) (k:Nat) (b:List Str) (d:Sp):Prop:=
 ∃f c,gk P w K a base jM k f c b d/\Binds K c b []/\W.keepIn K (.ref f)=true/\a x=some (.ref f)
theorem Mk{X:Cx}(c:Callee X.prog X.w X.K X.mg X.base x k ps sp)(h:bN k X.A)(l:Gl X x)(j:PA X (e::es) t)(d:(x==("__debug__" : Str))=false:=by decide)
  (g:starEach (e::es) X.env=(false,eval e X.env)::starEach es X.env:=by rfl)(a:(backTo pos (starEach es X.env)).any (·.1)=false:=by rfl):
  PE X (.Call (.Name x p) (e::es) [] pos) (m3 sp [] E0 t):=by
 obtain⟨f,n,F,b,i,m⟩:=c;exact Kc F h l m i b .nil AH j d g a
noncomputable def ag(K:Fg) (x:Str) (a:Stmt):Prop:=
 ∃f b,W.nsIn K mainGlobals x=some (some (.ref f))/\pR K x x a f b
theorem Wg{K:Fg}{x:Str}{au:Stmt}{f:Addr}{m j:Option Addr}{d:Array (Option Value)}{g kV i e b h:Value}
  (a:W.nsIn K mainGlobals x=some (some (.ref f)))(l:K.lookup f=some ⟨g,m,.func (W.fnOf x x (cE au) (bo au) (af au) .none kV i e j b h),d⟩)(c:W.codeIn K b x=true)(k:W.keepIn K (.ref f)=true):ag K x au:=
 ⟨f,_,a,Hm l c k⟩
theorem QI{P:Program}{w:World}{K:Fg}{j:Str->Option Value}{base h:Heap}{x:Str}{c:Stmt}{N i:List Str}{k:Nat}{sp:Sp}(T:ag K x c)(X:K.In h)(G:h.Ns mainGlobals j)(S:cb N i (af c))
  (u:∀(kV m n:Value) (r:Option Addr) (b o:Value) (l:List Value),l.length=i.length->bindArgs (W.fnOf x x (cE c) (bo c) (af c) .none kV m n r b o) ⟨l,[]⟩=pure (i.zip l))
  (len:∀g H Q E,sp g H Q E->g.length=i.length)
  (e:∀(f:Addr) (b:Value) (A:Around) (d:List Env) (s:Shared) (H:Hp) (g:List V) (Q:VK) (E:XK),bN k (A.deeper (envOfC x (af c) s.heap.objs.size f b))->sp g H Q E ->
   ∃t,jJ (gy jM P w K j base N x (af c) f b A d s H E).nox (bo c) t/\t {nx:=λ_ p=>Q .non p,rt:=Q} (start N g) H):Callee P w K j base x (k+1) i sp:=by
 obtain⟨f,q,a,F⟩:=T;exact⟨f,q,F.ok S len (e f),F.binds u,F.kp,Dc X G a⟩
theorem rx:bF X (.builtin "isinstance") (λd H Q=>∃ x T t b,d=[x,.ty T]/\fD X.K H x t/\W.kitOne X.K t (.type T)=some b/\Q (.bl b) H):=by
 intro l s j H d k Q I r h;obtain⟨x,T,t,b,rfl,c,e,q⟩:=h;obtain⟨u,i,rfl,f,a⟩:=vals2 r;cases(show i=Value.type T from a);exact Ny I f c e λg=>⟨.bl b,H,I.tok g,rfl,q⟩
noncomputable def gv(i j:Int):Prop:=0<j/\j<2^1000
theorem p6:di X (binaryOp .FloorDiv) (rI gv λi j=>.int (i/j)):=tG λi j _ _ _ _ _ a q=>by
 have e:i.fdiv j=i/j:=SF i (by have:=a.1;lia);refine floordiv_int (by have:=a.1;lia) (by rw[e];exact q) (.inl (PyProof.noPylong_of_log2 ?_));have g:j.natAbs<2^1000:=by
  have h:=a.1;have b:=a.2;have d:(j.natAbs:Int)=j:=by lia
  have c:(j.natAbs:Int)<((2^1000:Nat):Int):=by
   rw[d];exact_mod_cast b
  exact_mod_cast c
 have f:j.natAbs≠0:=by have:=a.1;lia
 have:=(Nat.log2_lt f).mpr g;lia
noncomputable def jE(a:List Str) (xs:List (Str×NameKind)) (N:List Str) (k:Nat) (is:List Nat) (scope:Scope):Bool:=
 (scope.kind==.function)&&scope.names.all (λy=>y.2 != .cell)&&scope.names.all (λy=>y.2 != .local||scope.names.lookup y.1==some .local) &&
 scope.names.all (λy=>y.2 != .free||(xs.lookup y.1==some .cell||xs.lookup y.1==some .free))&&(N.length==k+is.length) &&
 (List.range is.length).all (λj=>match is[j]?,N[k+j]? with
  |some i,some x=>a[i]?==some x&&scope.names.lookup x==some .free
  |_,_=>false)
theorem l8{X:Cx}{N:List Str}(h:jE X.N X.env.scope.names N k is scope=true):bA X N k is scope:=by
 unfold jE at h;simp only[iF,dk] at h;obtain⟨⟨⟨⟨⟨b,m⟩,f⟩,l⟩,g⟩,c⟩:=h;refine⟨eq_of_beq b,λy a e=>?_,λy a e=>?_,λy a e=>?_,eq_of_beq g,λj i e=>?_⟩
 ·have:=m y a;rw[e] at this;simp at this
 ·have:=f y a;rw[e] at this;simp at this;exact this
 ·have:=l y a;rw[e] at this;simp at this;exact this
 ·have d:j<is.length:=(cK.mp e).1;have:=c j (bO.mpr d);rw[e] at this;cases e2:N[k+j]? with
  |none=>rw[e2] at this;cases this
  |some x=>
   rw[e2] at this;simp only[iF,me] at this;exact⟨x,rfl,this.1,this.2⟩
theorem jm:bootBuiltins "len"=some (.builtin "len"):=by decide +kernel
theorem GL:bootBuiltins "abs"=some (.builtin "abs"):=by decide +kernel
theorem qS:bootBuiltins "min"=some (.builtin "min"):=by decide +kernel
theorem wF:bootBuiltins "max"=some (.builtin "max"):=by decide +kernel
theorem wG:bootBuiltins "sum"=some (.builtin "sum"):=by decide +kernel
theorem ri:bootBuiltins "sorted"=some (.builtin "sorted"):=by decide +kernel
theorem GN:bootBuiltins "any"=some (.builtin "any"):=by decide +kernel
theorem oT:bootBuiltins "all"=some (.builtin "all"):=by decide +kernel
theorem rB:bootBuiltins "isinstance"=some (.builtin "isinstance"):=by decide +kernel
theorem rN:bootBuiltins "int"=some (.type "int"):=by decide +kernel
theorem xN:bootBuiltins "bool"=some (.type "bool"):=by decide +kernel
theorem jR:bootBuiltins "tuple"=some (.type "tuple"):=by decide +kernel
theorem Ee:bootBuiltins "list"=some (.type "list"):=by decide +kernel
theorem M0(h:H p=some o):aq H p o=H:=by
 funext b
 unfold aq;split
 ·subst b;exact h.symm
 ·rfl
end L2
namespace Srt
open PySem.W PyProof.Rows
section
variable (r:Nat->Nat)
noncomputable def lt(i j:Nat):Bool:=decide (r i<r j)
noncomputable def At(p:Array Nat) (i:Nat):Nat:=r (p.getD i 0)
def Up(p:Array Nat) (n:Nat):Prop:=∀i j,i<=j->j<n->At r p i<=At r p j
end
noncomputable def eW(h:Heap) (d:Addr) (a:List Value):Heap:=((h.update d (Obj.mapSeq λ_=>(#[]:Array Value))).push (seqObj "tuple" a.toArray 0)).push (seqObj "list" #[] 0)
theorem RI{h:Heap}(a:b≠d)(e:h.get? b=some ob):(eW h d xs).get? b=some ob:=
 bX _ (bX _ ((Heap.get?_update_ne _ _ _ _ a).trans e))
def Answers(P:Program) (w:World) (B:Around) (r:Nat->Nat) (a:List Value) (b:Shared):Prop:=
 ∃c,(∀R:SortKind->Shared->Prop,R c b->wpAny (model P w) B (keyKind' a.toArray) R (λ_ _=>False) b) /\
  ∀i j C,i<a.length->j<a.length->C (lt r i j) b->kas_ask P w B c a i j C b
noncomputable def dz(a:List Value) (p:Array Nat):Array Value:=List.toArray (p.toList.map λi=>a.getD i Value.none)
theorem Tn{a:List Value}(h:a.length<2):(a.toArray.zip a.toArray).map (·.2)=dz a (List.toArray (List.range a.length)):=by
 unfold dz
 match a,h with
 |[],_=>simp
 |[_],_=>simp[sK]
 |_::_::_,h=>exact absurd h '%'
end Srt
namespace Srt
open PySem.W PyProof.Rows HT
theorem Ft:∀a:List Int,lexLt a a=false
 |[]=>rfl
 |x::a=>by rw[ro,if_pos rfl];exact Ft a
theorem CB:∀{a b c:List Int},lexLt a b=true->lexLt b c=true->lexLt a c=true
 |_,[],[],_,h=>by rw[CY] at h;cases h
 |_,_::_,[],_,h=>by rw[C1] at h;cases h
 |[],[],_::_,h,_=>by rw[CY] at h;cases h
 |_::_,[],_::_,h,_=>by rw[C1] at h;cases h
 |[],_::_,_::_,_,_=>wb _ _
 |x::a,y::b,z::c,h1,h2=>by
  rw[ro] at h1 h2 ⊢;by_cases e1:x=y
  ·rw[if_pos e1] at h1;subst e1;by_cases e2:x=z
   ·rw[if_pos e2] at h2 ⊢;exact CB h1 h2
   ·rw[if_neg e2] at h2 ⊢;exact h2
  ·rw[if_neg e1] at h1;have d:=iZ h1;by_cases e2:y=z
   ·subst e2;rw[if_neg e1];exact h1
   ·rw[if_neg e2] at h2;have e:=iZ h2;rw[if_neg '!'];exact d5 '!'
theorem BZ:∀a b:List Int,lexLt a b=true\/a=b\/lexLt b a=true
 |[],[]=>.inr (.inl rfl)
 |[],_::_=>.inl (wb _ _)
 |_::_,[]=>.inr (.inr (wb _ _))
 |x::a,y::b=>by
  rw[ro,ro];by_cases e:x=y
  ·subst e;rw[if_pos rfl,if_pos rfl];rcases BZ a b with h|h|h
   ·exact .inl h
   ·exact .inr (.inl (by rw[h]))
   ·exact .inr (.inr h)
  ·rw[if_neg e,if_neg (λz=>e z.symm)];rcases Int.lt_or_gt_of_ne e with h|h
   ·exact .inl (d5 h)
   ·exact .inr (.inr (d5 h))
theorem NB{a b:List Int}(h:lexLt a b=true):lexLt b a=false:=by
 cases e:lexLt b a with
 |false=>rfl
 |true=>have:=CB h e;rw[Ft] at this;cases this
theorem P6(a:∀x,p x=true->q x=true):∀{l:List Nat}{y:Nat},y∈l->q y=true->p y=false->l.countP p<l.countP q
 |[],_,h,_,_=>nomatch h
 |x::l,y,h,h1,h2=>by
  have b:∀l:List Nat,l.countP p<=l.countP q:=λl=>List.countP_mono_left λx _=>a x
  rcases bT.mp h with rfl|h
  ·rw[DU h1,Oz (by rw[h2];decide)];exact Nat.lt_succ_of_le (b l)
  ·have e:=P6 a h h1 h2;by_cases c:p x=true
   ·rw[DU c,DU (a x c)];lia
   ·rw[Oz c];by_cases d:q x=true
    ·rw[DU d];lia
    ·rw[Oz d];exact e
def fO(a:'$') (i:Nat):Nat:=(List.range a.length).countP λk=>lexLt (a.getD k []) (a.getD i [])
theorem EE{ks:'$'}(d:i<ks.length)(f:j<ks.length):lt (fO ks) i j=lexLt (ks.getD i []) (ks.getD j []):=by
 have c:∀{a b:Nat},a<ks.length->lexLt (ks.getD a []) (ks.getD b [])=true->fO ks a<fO ks b:=λ{a b} k h=>
  P6 (λx g=>CB g h) (bO.mpr k) h (Ft _)
 cases e:lexLt (ks.getD i []) (ks.getD j []) with
 |true=>exact d5 (c d e)
 |false=>
  refine dj λh=>?_
  rcases BZ (ks.getD i []) (ks.getD j []) with z|z|z
  ·rw[e] at z;cases z
  ·unfold fO at h;rw[z] at h;exact absurd h (o0 _)
  ·have:=c f z;lia
section
variable {prog:Program}{w:World}{A:Around}{s:Shared}{b:Bool}{Q:Bool->Shared->Prop}
theorem Qf:∀{c a:List Value}{d f:List Int}(i:Nat),IntsAre c d->IntsAre a f->Q (lexLt d f) s->KatLex prog w A b (decide (c.length<a.length)) Q (c.zip a) i s
 |_,_,_,_,_,.nil,.nil,h=>h
 |_,_,_,_,_,.nil,.cons _ _ _,h=>h
 |_,_,_,_,_,.cons _ _ _,.nil,h=>h
 |_,_,_,_,i,.cons x t (vs:=c) (ns:=d) r1,.cons y u (vs:=a) (ns:=f) r2,h=>by
  rw[ro] at h;refine kat_cons (wpAny_eqBool_int (kat_go (λe=>kat_yes ?_) λe=>kat_no ?_))
  ·rw[if_pos (eq_of_beq e)] at h;have q:=Qf (i+1) r1 r2 h;have g:decide ((Value.int x t::c).length<(Value.int y u::a).length)=decide (c.length<a.length):=by
    rw[dm,dm,mf];simp
   rw[g];exact q
  ·rw[if_neg (uP.mp e)] at h;cases hb:(b&&i==0) with
   |true=>exact oneLt_int h
   |false=>exact kat_one _ _ (PyProof.Rows.lt_int h)
end
end Srt
namespace L2
open Spec PyProof.Rows PySem.W
theorem Rh:∀{b:List Addr}{c:List Value},ah (b.map V.ref) c->c=b.map Value.ref
 |[],_,.nil=>rfl
 |a::b,_,.cons r t=>by
  rw[show _=Value.ref a from r,Rh t]
  rfl
def tT(K:Fg) (H:Hp) (a:List (Addr×List Int)):Prop:=∀p∈a,bz K H p.1 (p.2.map V.int)
theorem zo{a b:Type}(f:a->b)(d:b){l:List a}{i:Nat}{x:a}(h:l[i]?=some x):(l.map f).getD i d=f x:=by
 rw[dM,eU,h]
 rfl
end L2
namespace L2
open Spec PyProof.Rows
mutual
inductive my (K:Fg) (H:Hp):V->PyData->Prop
 |non:my K H .non .none
 |bl (b:Bool):my K H (.bl b) (.bool b)
 |int (i:Int):my K H (.int i) (.int i)
 |str (x:Str):my K H (.str x) (.str x)
 |lst {a:Addr}{xs:List V}{ds:List PyData}:da K H a xs->kr K H xs ds->my K H (.ref a) (.list ds)
 |tup {a:Addr}{xs:List V}{ds:List PyData}:bz K H a xs->kr K H xs ds->my K H (.ref a) (.tuple ds)
inductive kr (K:Fg) (H:Hp):List V->List PyData->Prop
 |nil:kr K H [] []
 |cons {x:V}{xs:List V}{d:PyData}{ds:List PyData}:my K H x d->kr K H xs ds->kr K H (x::xs) (d::ds)
end
section
variable {X:Cx}{aW:List (Addr×Obj)}{σ:St}{H:Hp}{s:Shared}
mutual
theorem vC(I:'&'):∀{v:V}{d:PyData}{u:Value},my X.K H v d->RelV v u->∃g,Reads s.heap u d g
 |_,_,_,.non,r=>by cases r;exact⟨_,.none⟩
 |_,_,_,.bl b,r=>by cases r;exact⟨_,.bool b⟩
 |_,_,_,.int i,r=>by obtain⟨t,rfl⟩:=r;exact⟨_,.int i t⟩
 |_,_,_,.str x,r=>by obtain⟨t,rfl⟩:=r;exact⟨_,.str x t⟩
 |_,_,_,.lst h all,r=>by
  cases r;obtain⟨j,f,⟨o,n,e,c,_,a⟩,_⟩:=I.list h;obtain⟨g,q⟩:=Fw I all f;exact⟨_,.list e c a q⟩
 |_,_,_,.tup h all,r=>by
  cases r;obtain⟨j,f,⟨o,e,c,n,a⟩,_⟩:=I.tuple h;obtain⟨g,q⟩:=Fw I all f;exact⟨_,.tuple e c a q⟩
theorem Fw(I:'&'):∀{b:List V}{a:List PyData}{d:List Value},kr X.K H b a->ah b d->∃c,ReadsAll s.heap d a c
 |_,_,_,.nil,.nil=>⟨_,.nil⟩
 |_,_,_,.cons h t,.cons r rs=>by
  obtain⟨c,q⟩:=vC I h r;obtain⟨f,e⟩:=Fw I t rs;exact⟨_,.cons q e⟩
end
end
def tw(K:Fg) (c:Bool):R2:=λx y H Q=>∃a b,my K H x a/\my K H y b/\PySem.SeqAt.shaped a=true/\PySem.SeqAt.shaped b=true/\Q (.bl (if c then !PyData.eqv a b else PyData.eqv a b)) H
section
variable {X:Cx}
theorem ow(f:X.A.units+64<cLine):di X (compareOp .Eq) (tw X.K false):=by
 intro p s m H x y v u Q I g d h;obtain⟨a,l,k,i,c,j,q⟩:=h;obtain⟨o,e⟩:=vC I k g;obtain⟨n,b⟩:=vC I i d;exact eq_dataH e b c j f ⟨.bl (PyData.eqv a l),H,I,rfl,q⟩
theorem vm(f:X.A.units+64<cLine):di X (compareOp .NotEq) (tw X.K true):=by
 intro p s m H x y v u Q I g d h;obtain⟨a,l,k,i,c,j,q⟩:=h;obtain⟨o,e⟩:=vC I k g;obtain⟨n,b⟩:=vC I i d;exact ne_dataH e b c j f ⟨.bl (!PyData.eqv a l),H,I,rfl,q⟩
end
noncomputable def dI(a:List Int):List PyData:=a.map PyData.int
def eD(a:List Int):PyData:=.tuple (dI a)
theorem wM:∀a b:List Int,PyData.eqvAll (dI a) (dI b)=decide (a=b)
 |[],[]=>by rfl
 |[],_::_=>by rfl
 |_::_,[]=>by rfl
 |x::a,y::b=>by
  show(x==y&&PyData.eqvAll (dI a) (dI b))=_;rw[wM a b,mf];simp
theorem Lb(a b:List Int):PyData.eqv (eD a) (eD b)=decide (a=b):=wM a b
theorem QJ:∀a b:List (List Int),PyData.eqvAll (a.map eD) (b.map eD)=decide (a=b)
 |[],[]=>by rfl
 |[],_::_=>by rfl
 |_::_,[]=>by rfl
 |x::a,y::b=>by
  show(PyData.eqv (eD x) (eD y)&&PyData.eqvAll (a.map eD) (b.map eD))=_;rw[QJ a b,Lb,mf];simp
theorem wO:∀a:List Int,PyData.canLayAll0 (dI a)=true/\PyData.depthAll (dI a)=0
 |[]=>⟨rfl,rfl⟩
 |x::a=>by
  obtain⟨c,b⟩:=wO a;refine⟨?_,?_⟩
  ·show(true&&PyData.canLayAll0 (dI a))=true;rw[c];rfl
  ·show max 0 (PyData.depthAll (dI a))=0;rw[b];rfl
theorem QK:∀a:List (List Int),PyData.canLayAll0 (a.map eD)=true/\PyData.depthAll (a.map eD)<=1
 |[]=>⟨rfl,ie _⟩
 |x::a=>by
  obtain⟨b,e⟩:=QK a;obtain⟨c,d⟩:=wO x;refine⟨?_,?_⟩
  ·show(PyData.canLayAll0 (dI x)&&PyData.canLayAll0 (a.map eD))=true;rw[b,c];rfl
  ·show max (PyData.depthAll (dI x)+1) (PyData.depthAll (a.map eD))<=1;rw[d];lia
theorem RO(a:'$'):PySem.SeqAt.shaped (.tuple (a.map eD))=true:=by
 obtain⟨b,c⟩:=QK a;show(PyData.canLayAll0 (a.map eD)&&decide (PyData.depthAll (a.map eD)+1<=64))=true;rw[b,d5 '!'];rfl
theorem Rz:∀{a:List Bool}{c:List Value},ah (a.map V.bl) c->c=a.map Value.bool
 |[],_,.nil=>rfl
 |b::a,_,.cons r t=>by
  rw[show _=Value.bool b from r,Rz t]
  rfl
theorem Td(c:List Bool):((List.range c.length).any λi=>c.getD i false)=c.any id:=by
 rw[mf];simp only[N7,bO];constructor
 ·rintro⟨i,a,h⟩;rw[dM,cV a] at h;exact⟨c[i],lE a,h⟩
 ·rintro⟨b,d,h⟩;obtain⟨i,a,rfl⟩:=oi d;exact⟨i,a,by rw[dM,cV a];exact h⟩
theorem Tc(c:List Bool):((List.range c.length).all λi=>c.getD i false)=c.all id:=by
 rw[mf];simp only[dk,bO];constructor
 ·intro h b d;obtain⟨i,a,rfl⟩:=oi d;have:=h i a;rw[dM,cV a] at this;exact this
 ·intro h i a;rw[dM,cV a];exact h _ (lE a)
def tz(K:Fg) (c:Bool):List V->Hp->VK->Prop:=λb H Q=>∃(l:Addr) (a:List Bool),b=[.ref l]/\da K H l (a.map V.bl)/\Q (.bl (if c then a.all id else a.any id)) H
theorem UP(c:List Bool):TruthOf prog w A (λi v=>(c.map Value.bool).toArray[i]?=some v) (λi=>c.getD i false):=λi v s Q E f d=>by
 have a:(c.map Value.bool)[i]?=some v:=by simpa using f
 rw[eU] at a;cases e:c[i]? with
 |none=>rw[e] at a;cases a
 |some b=>
  rw[e] at a;cases a;dsimp only at d;rw[dM,e] at d;exact mQ d
section
variable {X:Cx}
theorem PX(t:X.calm=true){j:List (Addr×Obj)}{p:St}{H:Hp}{s:Shared}{l:Addr}{c:List Bool}{R:Bool->Prop}(I:Inv X j p H s)(u:da X.K H l (c.map V.bl)){Q:Value->Shared->Prop}{F:(Nat->Bool)->Nat->Bool}
  (v:∀r,Inv X j p H r->Q (.bool (F (λi=>c.getD i false) c.length)) r):
  wpAny '#' X.A.in1 (pyIter (.ref l)) (λw a=>∃I x k n P St q,w=.ref I/\Walks X.prog X.w X.A.in1 I x k n P St/\St 0 a.heap/\TruthOf X.prog X.w X.A.in1 P q /\
   ∀f d,(∀b o,b∉k->a.heap.get? b=some o->f.get? b=some o)->Q (.bool (F q n)) {a with heap:=f,toks:=d}) X.xe s:=by
 obtain⟨E,C,h,S⟩:=I.list u;have e:=Rz C;subst e;have g:l<s.heap.objs.size:=by obtain⟨o,n,e,_⟩:=h;exact cJ e
 refine Ob h.isList ?_;refine⟨s.heap.objs.size,_,[s.heap.objs.size],_,_,_,_,rfl,Walks.list (A:=X.A.in1) (I.ok.hd t) _ l (dY g) (c.map Value.bool).toArray,⟨⟨_,ed _ rfl,rfl,rfl⟩,h.isList.push _⟩,UP c,λf d J=>?_⟩;have G:(c.map Value.bool).toArray.size=c.length:=by simp
 rw[G];refine v _ ?_;refine I.kept (t':=d) λb o e=>J b o ?_ (bX _ e)
 intro z;have y:b=s.heap.objs.size:=by simpa using z
 have m:=cJ e;rw[y] at m;exact absurd m (o0 _)
theorem K8(c:X.calm=true):bF X (.builtin "any") (tz X.K false):=by
 intro m s j H g k Q I r h;obtain⟨l,a,rfl,e,q⟩:=h;obtain⟨u,rfl,b⟩:=vals1 r;cases b;refine call_any_walk (PX (R:=λ_=>True) c I e (F:=λd n=>(List.range n).any d) λo f=>⟨.bl ((List.range a.length).any λi=>a.getD i false),H,f,rfl,?_⟩);rw[Td];exact q
theorem Cd(c:X.calm=true):bF X (.builtin "all") (tz X.K true):=by
 intro m s j H g k Q I r h;obtain⟨l,a,rfl,e,q⟩:=h;obtain⟨u,rfl,b⟩:=vals1 r;cases b;refine call_all_walk (PX (R:=λ_=>True) c I e (F:=λd n=>(List.range n).all d) λo f=>⟨.bl ((List.range a.length).all λi=>a.getD i false),H,f,rfl,?_⟩);rw[Tc];exact q
end
end L2
namespace Dct
open PySem.W PyProof.Rows
noncomputable def kZ(h:Heap) (d:Addr) (c:Array DictEntry) (b:Nat):Prop:=∃a,h.get? d=some a/\a.ExactDict/\a.data=.dict c b
theorem kZ.kept{h':Heap}(x:kZ h d es ep)(k:∀a,h.get? d=some a->h'.get? d=some a):kZ h' d es ep:=
 let ⟨a,e,r⟩:=x;⟨a,k a e,r⟩
theorem kZ.lt(x:kZ h d es ep):d<h.objs.size:=let ⟨_,e,_⟩:=x;cJ e
theorem kZ.is{a:Shared}(x:kZ a.heap d es ep):a.TypeIs (.ref d) "dict":=let ⟨ob,e,c,_⟩:=x; ⟨ob,e,c.1⟩
noncomputable def eX(d:Addr) (n a:Nat):Obj:={ cls:=.type "dict_keyiterator",data:=.fields #[.ref d,.int 0 0,.int n 0,.int a 0] }
theorem EZ{au:Shared}{W:Value->Shared->Prop}(g:(d==sysModules)=false)(x:kZ au.heap d es ep)(b:W (.ref au.heap.objs.size) {au with heap:=au.heap.push (eX d es.size ep)}):wpAny (model P w) B (pyIter (.ref d)) W E au:=by
 obtain⟨h,e,c,f⟩:=id x;have a:=x.is;refine N8 a F.slot_dict_iter (kD F.slot_dict_iter a F.entry_dict_iter ?body (F.args_dict_iter_1 _))
 case body=>
  unfold Builtin.«dict.__iter__» Builtin.Dict.dictSlotNone Builtin.Dict.showsAll;refine ab (ab (wpAny_notOrdered_dict a (am ?_)));show wpAny _ _ ((if(d==sysModules)=true then _ else _) >>= _) _ _ au;rw[if_neg (λz=>og (g.symm.trans z))];refine ab (am (ab (uJ e f (ab (wpAny_dictEpoch e f (ab (jt (am ⟨_,rfl, "dict_keyiterator",_,⟨_,ed _ rfl,rfl⟩,zG.lookup,?_⟩))))))))
  exact b
theorem E2{au:Shared}{b:Array DictEntry}{W:Option Value->Shared->Prop}(a:au.heap.IsKeyIter it d k b.size ep)(x:kZ au.heap d b ep)(m:b[k]?=some en)
  (j:∀g:Heap,g.IsKeyIter it d (k+1) b.size ep->Heap.SameBut it au.heap g->W (some en.key) {au with heap:=g}):wpAny (model P w) B (pyNext (.ref it)) W E au:=by
 obtain⟨p,i,n,h⟩:=id a;obtain⟨q,e,c,l⟩:=id x;have lt:k<b.size:=(OG.mp m).1;unfold pyNext;refine ab (qd (wpAny_callSpecial?_slot (name:=Str.ofString "__next__") a.typeIs zG (kD zG a.typeIs F.entry_dict_keyiterator_next ?body (F.args_dict_keyiterator_next_1 _))))
 case body=>
  refine ab (am (ab (ab (ab (DZ a.typeIs (am (ab (wpAny_fieldsOf i h ?_))))))));simp only[show Builtin.Dict_items.ownsTuple "dict_keyiterator"=false from by decide,kF,ite_false]
  show wpAny _ _ (if(Value.ref d==Value.none)=true then _ else _) _ _ au;have o:¬ (Value.ref d==Value.none)=true:=og;rw[if_neg o];refine ab (am (ab (uJ e l ?_)));rw[if_neg '%'];refine ab (am (ab (wpAny_dictEpoch e l ?_)));rw[if_neg '%'];refine am ?_;simp only[show ¬ ((k:Int)<0) from by lia,ite_false,n0,m];refine ab (ab (DZ a.typeIs (am (ab (wpAny_isOneOf_keyiter a.typeIs ?_)))));show wpAny _ _ (setField (.ref it) 1 (rawInt ((k:Int)+1)) >>= _) _ _ au;refine ab (sE i h '%' ?_);have f:(au.heap.update it (Obj.mapFields (·.setIfInBounds 1 (rawInt ((k:Int)+1))))).IsKeyIter it d (k+1) b.size ep:=
   ⟨_,mS _ i (DF (uO h _)),(Oe ..).trans n,by rw[uO h];simp[rawInt]⟩
  refine ab (jj (ab (wpAny_isOneOf_keyiter (s:={au with heap:=au.heap.update it (Obj.mapFields (·.setIfInBounds 1 (rawInt ((k:Int)+1))))}) f.typeIs ?_)));show wpAny _ _ (pure en.key) _ _ _;exact am (am ⟨_,rfl,am (j _ f (qu ..))⟩)
theorem EF{B:Around}{au:Shared}{i:Array DictEntry}{W:Option Value->Shared->Prop}(p:B.handled=none)(f:au.heap.IsKeyIter it d k i.size ep)(x:kZ au.heap d i ep)(q:i.size<=k)
  (h:∀g:Heap,Heap.ExtBut it au.heap g->W none {au with heap:=g}):wpAny (model P w) B (pyNext (.ref it)) W E au:=by
 obtain⟨s,j,r,n⟩:=id f;obtain⟨t,e,c,l⟩:=id x;unfold pyNext;refine ab (qd (wpAny_callSpecial?_slot (name:=Str.ofString "__next__") f.typeIs zG (kD zG f.typeIs F.entry_dict_keyiterator_next ?body (F.args_dict_keyiterator_next_1 _))))
 case body=>
  refine ab (am (ab (ab (ab (DZ f.typeIs (am (ab (wpAny_fieldsOf j n ?_))))))));simp only[show Builtin.Dict_items.ownsTuple "dict_keyiterator"=false from by decide,kF,ite_false]
  show wpAny _ _ (if(Value.ref d==Value.none)=true then _ else _) _ _ au;have o:¬ (Value.ref d==Value.none)=true:=og;rw[if_neg o];refine ab (am (ab (uJ e l ?_)));rw[if_neg '%'];refine ab (am (ab (wpAny_dictEpoch e l ?_)));rw[if_neg '%'];refine am ?_;simp only[show ¬ ((k:Int)<0) from by lia,ite_false,n0,Ov q];refine ab (ab (DZ f.typeIs (am ?_)));show wpAny _ _ (setField (.ref it) 0 .none >>= _) _ _ au;refine ab (sE j n '%' ?_);show wpAny _ _ (newExc (.type "StopIteration") [] >>= _) _ _ _
  refine ab ?_;simp only[newExc,newTuple];refine ab (jt (ab (m:=firstArgMember _ _) (oY (a:=Value.none) (by first|rfl|(simp only[firstArgMember];rfl)) (jt ?_ (by size_fits)))) (by size_fits));simp only[raiseNew];refine ab (wpAny_handled ?_);rw[show B.in1.handled=none from p];refine ab (am (wpAny_throw ?_));refine ab (Dj (T:="StopIteration") (b:=true) ?_ isSubtype_stop (am (h _ (((qu ..).extBut.push _).push _))))
  exact⟨_,ed _ rfl,rfl⟩
theorem Te{B:Around}(x:B.handled=none)(u:d≠it)(f:Array DictEntry)(n:Nat):
  Walks P w B it [it,d] [it] f.size (λi v=>∃p,f[i]?=some p/\v=p.key) (λi h=>h.IsKeyIter it d i f.size n/\kZ h d f n) where
 sub:=λb t=>bT.mpr (.inl (eY.mp t))
 frame:=λ_ _ _ z m=>⟨z.1.at λo e=>m it eF o e,z.2.kept λo e=>m d (cH _ (eY.mpr rfl)) o e⟩
 item:=λi l A y s z j=>by
  have r:f[i]?=some f[i]:=zE s;exact E2 z.1 z.2 r λg a b=>j f[i].key g l.toks ⟨_,r,rfl⟩ ⟨a,z.2.kept λo e=>b.extBut d o u e⟩ λc o k e=>b.extBut c o (λq=>k (eY.mpr q)) e
 done:=λl A y z j=>EF x z.1 z.2 (aY _) λg b=>j g l.toks λc o k e=>b c o (λq=>k (eY.mpr q)) e
 self:=λ_ _ _ _ z j=>wpAny_pyIter_keyiter z.1 j
theorem Kx(k:(d==sysModules)=false)(a:Array DictEntry)(c:Nat):KdlSrc P w "dict" d d a.size (λi v=>∃ f,a[i]?=some f/\v=f.key) (λh=>kZ h d a c) where
 type:=λ_ x=>x.is
 there:=λ_ x=>⟨x.lt,x.lt⟩
 keep:=λ_ _ x g=>x.kept λo e=>g d (.inl rfl) o e
 notList:=by decide
 notTuple:=by decide
 hint:=λ_ _ _ _ x b=>kdl_hint_dict x.is b
 iter:=λ_ l j x=>⟨_,_,λ_ _ b=>EZ k x b,Te j (dY x.lt) a c,⟨⟨_,ed _ rfl,rfl,rfl⟩,x.kept λo e=>bX _ e⟩⟩
end Dct
namespace Srt
open PySem.W PyProof.Rows
end Srt
namespace L2
open Spec PyProof.Rows
theorem ar.ob(x:ar P w H h a o):∃ob,h.get? a=some ob:=by
 cases o with
 |lst xs=>obtain⟨_,_,_,_,e⟩:=x;exact⟨_,e⟩
 |tup xs=>obtain⟨_,_,_,ob,e,_⟩:=x;exact⟨_,e⟩
 |dK kvs=>obtain⟨_,_,_,_,ob,_,_,e,_⟩:=x;exact⟨_,e⟩
 |dT kvs=>obtain⟨_,_,_,_,ob,_,_,e,_⟩:=x;exact⟨_,e⟩
 |set S n=>obtain⟨ob,_,_,_,e,_⟩:=x;exact⟨_,e⟩
 |ins C dx fs=>obtain⟨_,_,_,e,_⟩:=x;exact⟨_,e⟩
 |own y=>obtain⟨_,e⟩:=x;exact⟨_,e⟩
 |xd fs=>obtain⟨_,⟨_,_,_,e,_⟩,_⟩:=x;exact⟨_,e⟩
 |rng lo hi=>obtain⟨_,_,_,e⟩:=x;exact⟨_,e⟩
 |frz ob u=>obtain⟨e,_⟩:=x;exact⟨_,e⟩
 |tbl ps=>exact⟨_,(show h.get? a=some _ from x)⟩
 |met f y=>exact⟨_,(show h.get? a=some _ from x)⟩
 |ext φ=>obtain⟨_,⟨_,e⟩,_⟩:=x;exact⟨_,e⟩
theorem Inv.away(I:'&') (c:∀b a,s.heap.get? b=some a->b≠q):H q=none:=by
 cases e:H q with
 |none=>rfl
 |some o=>
  obtain⟨a,z⟩:=(I.hok q o e).ob;exact absurd rfl (c q a z)
theorem Inv.laidN{g:Heap}(I:'&')(k:∀b u,s.heap.get? b=some u->g.get? b=some u)(f:∀b h,s.heap.get? b=some h->b≠q)(d:ar X.prog X.w (aq H q o) g q o):
  Inv X aW σ (aq H q o) {s with heap:=g,toks:=t'}:=by
 have j:=I.away f;have a:∀{b:Addr}{u:HO},H b=some u->aq H q o b=some u:=λ{b u} e=>by rw[zq (zr e j)];exact e
 refine I.un ⟨λb u e _ _ _=>k b u e,λb u e _ _ _=>⟨u.slots,k b u e⟩,λb u e n _=>by rw[zq (f b u e)];exact n,λb u e _=>⟨u,k b u e⟩,λb i e=>a e,λb h u e=>a e,λb l e=>⟨#[],by rw[a e];simp⟩⟩ λb u e=>?_
 by_cases hb:b=q
 ·subst hb;rw[zu] at e;cases e;exact d
 ·rw[zq hb] at e;exact(I.hok b u e).stay (λc v _ z=>k c v z) (λc z=>a z) λc i z=>a z
theorem x8(a:List Int):(a.map (Sum.inl:Int->cG)).map kV=a.map V.int:=by rw[fJ];rfl
theorem Fs{P:Program}{w:World}{H:Hp}{a:List (List cG×V)}:∀{c:'$'}{f:List (List cG×Addr×Value)},
  Paired (λ(p:List cG×V) (q:List cG×Addr×Value)=>p.1=q.1/\H q.2.1=some (.tup (p.1.map kV))/\RelV p.2 q.2.2) a f->a.map (·.1)=c.map (λg=>g.map Sum.inl) ->
   ∃d:List (Addr×List Int),d.map (·.2)=c/\(∀p∈d,H p.1=some (.tup (p.2.map V.int)))/\f.map (λq=>(entryOfKey (tupleKind (ay P w)) q).key)=d.map λp=>Value.ref p.1:=by
 induction a with
 |nil=>
  intro c f r e;cases r;cases c with
  |nil=>exact⟨[],rfl,λp h=>(nomatch h),rfl⟩
  |cons x c=>cases e
 |cons kv a ih=>
  intro c f r e;cases r with
  |cons r rs=>
   cases c with
   |nil=>cases e
   |cons g c=>
    rw[bP,bP] at e;injection e with l j
    obtain⟨d,n,m,k⟩:=ih rs j;rename_i b _;obtain⟨s,i,o⟩:=r;refine⟨(b.2.1,g)::d,by rw[bP,n],λp h=>?_,by rw[bP,bP,k];rfl⟩;rcases bT.mp h with z|z
    ·subst z;rw[l,x8] at i;exact i
    ·exact m p z
open PySem.W in
theorem K3{sg:Shared}{a:List (Addr×List Int)}(h2:2<=a.length)
  (b:∀(i:Nat) (p:Addr×List Int),a[i]?=some p->∃(f:List Value) (o:Obj) (n:Nat),IntsAre f p.2/\sg.heap.get? p.1=some o/\o.cls=.type "tuple"/\o.data=.seq f.toArray n/\p.2≠[]):
  Srt.Answers P w B (Srt.fO (a.map (·.2))) (a.map λp=>Value.ref p.1) sg:=by
 refine⟨tuples' true,λR S=>?_,λi j C d q I=>?_⟩
 ·have kt:∀(l:List (Addr×List Int)),(∀p∈l,∃i:Nat,a[i]?=some p)->∃c:List Value,KatTups sg.heap (l.map λp=>Value.ref p.1) c/\c.length=l.length/\∀v∈c,∃i t,v=Value.int i t:=λl=>by
   induction l with
   |nil=>intro _;exact⟨[],KatTups.nil,rfl,λv e=>(nomatch e)⟩
   |cons p l ih=>
    intro g;obtain⟨c,s,J,E⟩:=ih λU H=>g U (cH _ H)
    obtain⟨i,d⟩:=g p eF;obtain⟨f,o,n,m,k,A,h,u⟩:=b i p d;obtain⟨pa,pn⟩:=p;dsimp only at m k A h u;cases m with
    |nil=>exact absurd rfl u
    |cons x t r=>exact⟨Value.int x t::c,KatTups.cons k A h rfl s,by rw[dm,dm,J],λv e=>(bT.mp e).elim (λz=>⟨x,t,z⟩) (E v)⟩
  obtain⟨c,s,J,E⟩:=kt a λp g=>List.mem_iff_getElem?.mp g
  exact kat_kind (T:=.type "int") s '!' (λv e=>by
   obtain⟨i,t,rfl⟩:=E v e
   exact Looks.of_pure rfl) rfl S
 ·rw[av] at d q;have G:a[i]?=some a[i]:=cV d;have y:a[j]?=some a[j]:=cV q;obtain⟨f,o,n,m,k,A,h,u⟩:=b i _ G;obtain⟨Q,o2,n2,c1,Y,c3,X,c5⟩:=b j _ y;unfold kas_ask;rw[zo (λp:Addr×List Int=>Value.ref p.1) _ G,zo (λp:Addr×List Int=>Value.ref p.1) _ y];refine kat_lt k h Y X (Srt.Qf 0 m c1 ?_);rw[Srt.EE (by rw[av];exact d) (by rw[av];exact q),zo (λp:Addr×List Int=>p.2) _ G,zo (λp:Addr×List Int=>p.2) _ y] at I;exact I
theorem Qh{ps:List (Addr×List Int)}{p:Array Nat}(h:p.Perm (List.toArray (List.range ps.length)))(C:Srt.Up (Srt.fO (ps.map (·.2))) p ps.length):
  ∃q:List (Addr×List Int),q.Perm ps/\(q.map (·.2)).Pairwise (λx y=>HT.lexLt y x=false)/\Srt.dz (ps.map λp=>Value.ref p.1) p=(q.map λp=>Value.ref p.1).toArray:=by
 have E:p.size=ps.length:=by rw[h.size_eq];simp
 have n:∀i∈p.toList,i<ps.length:=λi b=>by
  have P:=(h.mem_iff (a:=i)).mp (by rw[←Array.mem_toList_iff];exact b);exact bO.mp (List.mem_toArray.mp P)
 refine⟨p.toList.map λi=>ps.getD i (0,[]),?_,?_,?_⟩
 ·have H:p.toList.Perm (List.range ps.length):=by
   have:=zF.mp h
   simpa using this
  have w:=H.map λi=>ps.getD i (0,[])
  have J:((List.range ps.length).map λi=>ps.getD i (0,[]))=ps:=by
   apply N6
   ·simp
   ·intro i R Q;simp[dM,Q]
  rw[J] at w;exact w
 ·rw[fJ,OE];intro i j b c o;rw[N5,N5];rw[av] at b c;have I:i<p.size:=by simpa using b
  have G:j<p.size:=by simpa using c
  have A:=C i j (dL o) '!';have g:∀k,(d:k<p.toList.length)->p.getD k 0=p.toList[k]:=λk d=>by
   have m:k<p.size:=by simpa using d
   rw[Array.getD_eq_getD_getElem?,zE m];simp
  have r:=n _ (lE b);have t:=n _ (lE c);have l:=Srt.EE (ks:=ps.map (·.2)) (i:=p.toList[j]) (j:=p.toList[i]) (by rw[av];exact t) (by rw[av];exact r);have f:Srt.lt (Srt.fO (ps.map (·.2))) p.toList[j] p.toList[i]=false:=by
   refine dj λz=>?_
   unfold Srt.At at A;rw[g i b,g j c] at A;lia
  rw[f] at l;have v:∀k,k<ps.length->(ps.map (·.2)).getD k []=(ps.getD k (0,[])).2:=λk d=>by
   have s:ps[k]?=some ps[k]:=cV d;rw[zo (λp:Addr×List Int=>p.2) _ s,dM,s]
   rfl
  rw[v _ t,v _ r] at l;exact l.symm
 ·unfold Srt.dz;rw[fJ]
  congr 1
  refine mo λi b=>?_
  have e:=n i b;have u:ps[i]?=some ps[i]:=cV e;rw[zo (λp:Addr×List Int=>Value.ref p.1) _ u];show _=Value.ref (ps.getD i (0,[])).1;rw[dM,u]
  rfl
theorem Inv.freeze(I:'&')(h:H a=some (.dT kvs))(e:s.heap.get? a=some ob):Inv X aW σ (aq H a (.frz ob (.dT kvs))) s:=by
 have d:∀{b:Addr}{u:HO},H b=some u->(∀l,u≠.dT l)->aq H a (.frz ob (.dT kvs)) b=some u:=λ{b u} q n=>by
  rw[zq (by rintro rfl;rw[h] at q;cases q;exact n _ rfl)];exact q
 have z:=I.un (h':=s.heap) (t':=s.toks) (H':=aq H a (.frz ob (.dT kvs))) ⟨λb u q _ _ _=>q,λb u q _ _ _=>⟨u.slots,q⟩,λb u q n _=>by
   rw[zq (by rintro rfl;rw[h] at n;cases n)];exact n,λb u q _=>⟨u,q⟩,λb f q=>d q (λl z=>by cases z),λb o u q=>d q (λl z=>by cases z),λb g q=>⟨#[],by rw[d q (λl z=>by cases z)];simp⟩⟩ (λb u q=>by
   by_cases hb:b=a
   ·subst hb;rw[zu] at q;cases q;exact⟨e,(I.hok b _ h).stay (λc v _ r=>r) (λc r=>d r (λl z=>by cases z)) λc f r=>d r (λl z=>by cases z)⟩
   ·rw[zq hb] at q
    exact(I.hok b u q).stay (λc v _ r=>r) (λc r=>d r (λl z=>by cases z)) λc f r=>d r (λl z=>by cases z))
 exact z
def SX(a:Addr) (d:Obj) (b:List (List cG×V)) (c:List (Addr×List Int)):It:=
 ⟨λi H=>i<c.length/\H a=some (.frz d (.dT b)),λi H x e=>e=H/\∃p,c[i]?=some p/\x=.ref p.1,λi H=>c.length<=i/\H a=some (.frz d (.dT b))⟩
theorem Ts{P:Program}{w:World}{K:Fg}{tg:Expr}{a it:Addr}{t:Obj}{n:List (List cG×V)}{j:List (Addr×List Int)}{m:Array DictEntry}{ep:Nat}(ex:t.ExactDict)(dt:t.data=.dict m ep)
  (hk:m.toList.map (·.key)=j.map λp=>Value.ref p.1):ir P w K tg (SX a t n j) [it] it (λi h=>h.IsKeyIter it a i m.size ep) where
 mem:=eY.mpr rfl
 obj:=λi h f b r=>by
  have e:b=it:=eY.mp r;subst e;obtain⟨o,e,c,d⟩:=f;exact⟨o,e,λv z=>by rw[d] at z;cases z⟩
 keep:=λi h h' f k=>f.at λo e=>k it (eY.mpr rfl) o e
 item:=by
  intro Y X T hK hc i aW s σ H E I C f U;subst X T hK;obtain⟨hi,G⟩:=U;have Q:m.size=j.length:=by
   have:=congrArg List.length hk
   rwa [av,av,gm] at this
  obtain⟨J,_⟩:=(show ar Y.prog Y.w H s.heap a (.frz t (.dT n)) from I.hok a _ G)
  obtain⟨f0,f1,f2,f3,R,S⟩:=C it (eY.mpr rfl);have A:m[i]?=some m[i]:=zE '!';have u:j[i]?=some j[i]:=cV hi;have y:m[i].key=Value.ref j[i].1:=by
   have q:=congrArg (λl=>l[i]?) hk;simp only[eU,iH,A,u] at q;exact fY q
  refine Dct.E2 f ⟨t,J,ex,dt⟩ A λg x sb=>?_
  have I1:Inv Y aW σ H {s with heap:=g}:=I.turned (t':=s.toks) (λb o r e=>sb.extBut b o r e) f0 f1 f3 R S;obtain⟨o,e,c,d⟩:=id x;exact⟨_,rfl,lA (s:={s with heap:=g}) e c d ')' ⟨.ref j[i].1,H,I1,y,⟨rfl,j[i],u,rfl⟩,x,λb r=>(C b r).1⟩⟩
 done:=by
  intro Y X T hK hc i aW s σ H E I C f U;subst X T hK;obtain⟨hi,G⟩:=U;have Q:m.size=j.length:=by
   have:=congrArg List.length hk
   rwa [av,av,gm] at this
  obtain⟨J,_⟩:=(show ar Y.prog Y.w H s.heap a (.frz t (.dT n)) from I.hok a _ G)
  obtain⟨f0,f1,f2,f3,R,S⟩:=C it (eY.mpr rfl);exact Dct.EF (I.ok.hd hc) f ⟨t,J,ex,dt⟩ '!' λg eb=>⟨rfl,I.turned (t':=s.toks) (λb o r e=>eb b o r e) f0 f1 f3 R S⟩
 self:=λ_ _ _ _ _ f h=>wpAny_pyIter_keyiter f h
def Pi(f:TE):TI:=λg H R=>f g H λx H1=>∃(a:Addr) (b:List (List cG×V)) (d:'$'),x=.ref a/\H1 a=some (.dT b)/\b.map (·.1)=d.map (λh=>h.map Sum.inl) /\
 ∀(e:Obj) (c:List (Addr×List Int)),c.map (·.2)=d->(∀p∈c,H1 p.1=some (.tup (p.2.map V.int)))->R (SX a e b c) (aq H1 a (.frz e (.dT b)))
theorem Ki{X:Cx}{tg l:Expr}{k:TE}(S:PE X l k):PI X tg l (Pi k):=by
 intro C s Y H R I h;refine aZ (S C s Y H _ I h) λv c g=>?_
 obtain⟨x,H1,t,Q,G⟩:=g;obtain⟨a,f,ks,rfl,n,ek,q⟩:=G;cases Q;obtain⟨z,T,ys,i,u,E,ep,m,A,r,J,e5⟩:=(show ar X.prog X.w H1 c.heap a (.dT f) from t.hok a _ n)
 obtain⟨y,a1,a2,a3⟩:=Fs (P:=X.prog) (w:=X.w) i ek;have d:E.toList.map (·.key)=y.map λp=>Value.ref p.1:=by rw[J,fJ];exact a3
 refine Dct.EZ T ⟨u,m,A,r⟩ ?_;have j:=t.freeze n m;refine⟨c.heap.objs.size,[c.heap.objs.size],_,_,_,rfl,j.kept (t':=c.toks) λb o e=>bX _ e,Ts A r d,⟨_,ed _ rfl,rfl,rfl⟩,λb U=>?_,q u y a1 a2⟩;have e:b=c.heap.objs.size:=eY.mp U;subst e;exact j.fpOk (aY _) (j.hok.fresh (aY _))
end L2
namespace L2
open Spec PyProof.Rows PySem.W
noncomputable def fV(g:Heap) (b:List (Addr×List Int)):Prop:=∀ p∈b,∃(a:List Value) (o:Obj) (n:Nat),IntsAre a p.2/\g.get? p.1=some o/\o.cls=.type "tuple"/\o.data=.seq a.toArray n
theorem QR{b:Shared}:∀{ps:List (Addr×List Int)},fV b.heap ps->∃a:List (Option Value),a.map Option.isSome=ps.map (λp=>!p.2.isEmpty)/\∀(W:List (Option Value)->Shared->Prop),W a b->wpAny (model P w) B ((ps.map λp=>Value.ref p.1).mapM firstOfTuple') W E b
 |[],_=>⟨[],rfl,λW h=>by rw[C9,List.mapM_nil];exact am h⟩
 |p::ps,h=>by
  obtain⟨a,i,m⟩:=QR (ps:=ps) λq j=>h q (cH _ j)
  obtain⟨g,o,n,d,c,f,k⟩:=h p eF;refine⟨g.toArray[0]?::a,?_,λW l=>?_⟩
  ·rw[bP,bP,i]
   congr 1
   obtain⟨s,u⟩:=p;dsimp only at d ⊢;cases d with
   |nil=>rfl
   |cons x t r=>rfl
  ·rw[bP,List.mapM_cons];have e:Looks (model P w) b.heap (typeOf (.ref p.1)) o.cls:=(Looks.ld c).andThen .now;refine ab ?_;rw[kas_first_eq];refine ab (Looks.here e ?_);rw[f,if_neg (by first|decide|simp)];exact ab (listItems_at c k (am (ab (m _ (am l)))))
theorem T7(x y:Value):keyLt' general' x y=oneLt' false x y:=rfl
theorem K4{B:Around}{sg:Shared}(k:κ=general'\/κ=oneType')(u:B.units<cLine) (z:fV sg.heap [a])(A:fV sg.heap [b]) (q:C (HT.lexLt a.2 b.2) sg):
  wpAny (model P w) B (keyLt' κ (.ref a.1) (.ref b.1)) C E sg:=by
 obtain⟨l,o,n,s,e,d,h⟩:=z a eF;obtain⟨c,r,m,p,t,i,f⟩:=A b eF;rcases k with rfl|rfl
 ·rw[T7];exact kat_one _ _ (HT.Rs (items:=l.toArray) (items2:=c.toArray) ⟨o,e,d,n,h⟩ ⟨r,t,i,m,f⟩ s p u q)
 ·rw[keyLt'_oneType,oneLt'_eq];simp only[ite_true];refine ab (wpAny_cRoomFor u (ab (wpAny_callSpecialIfBound?_slot (T:="tuple") ⟨o,e,d⟩ Ou ?_)))
  obtain⟨H,G,v,y⟩:=o;obtain⟨x,j,data2,g⟩:=r;dsimp only at d h i f;subst d h i f;exact nX Ou ⟨_,e,rfl⟩ F.entry_tuple_lt (F.args_tuple_lt_2 _ _) (HT.R6 a.1 b.1 l.toArray c.toArray n m G j y g a.2 b.2 s p) ⟨e,t,mQ q⟩
theorem K2{B:Around}{sg:Shared}(hu:B.units<cLine)(c:fV sg.heap a)(t:∃p∈a,p.2=[]):Srt.Answers P w B (Srt.fO (a.map (·.2))) (a.map λp=>Value.ref p.1) sg:=by
 obtain⟨A,f1,J⟩:=QR (P:=P) (w:=w) (B:=B) (E:=λ_ _=>False) c;have b:¬ (A.toArray.all λx=>x.isSome)=true:=λz=>by
  have z':A.all (λx=>x.isSome)=true:=by simpa using z
  obtain⟨p,g,he⟩:=t;have m:(!p.2.isEmpty)∈A.map Option.isSome:=by rw[f1];exact On (f:=λp:Addr×List Int=>!p.2.isEmpty) g
  obtain⟨o,ho,e⟩:=cU.mp m;have:=dk.mp z' o ho;rw[e,he] at this;cases this
 have h:∀{G:SortKind},G=general'\/G=oneType'->∀i j C,i<(a.map λp=>Value.ref p.1).length->j<(a.map λp=>Value.ref p.1).length->C (Srt.lt (Srt.fO (a.map (·.2))) i j) sg->kas_ask P w B G (a.map λp=>Value.ref p.1) i j C sg:=λ{G} I i j C u y Q=>by
  rw[av] at u y;have U:a[i]?=some a[i]:=cV u;have S:a[j]?=some a[j]:=cV y;unfold kas_ask;rw[zo (λp:Addr×List Int=>Value.ref p.1) _ U,zo (λp:Addr×List Int=>Value.ref p.1) _ S];rw[Srt.EE (by rw[av];exact u) (by rw[av];exact y),zo (λp:Addr×List Int=>p.2) _ U,zo (λp:Addr×List Int=>p.2) _ S] at Q;have l:∀k,(X:k<a.length)->fV sg.heap [a[k]]:=λk X q Y=>by
   rw[eY.mp Y];exact c _ (lE X)
  exact K4 I hu (l i u) (l j y) Q
 by_cases fst:(A.toArray[0]?.bind id).isSome=true
 ·refine⟨general',λR H=>?_,h (.inl rfl)⟩;rw[kat_kind_eq,Od,N2];refine ab (ab (J _ (am ?_)));rw[if_neg b,if_pos fst];exact am H
 ·refine⟨oneType',λR H=>?_,h (.inr rfl)⟩;rw[kat_kind_eq,Od,N2];refine ab (ab (J _ (am ?_)));rw[if_neg b,if_neg fst,oneTypeOnly'_eq,Od,N2];have ty:∀ v∈(a.map λp=>Value.ref p.1),∀ W:Value->Shared->Prop,W (.type "tuple") sg->wpAny (model P w) B (typeOf v) W (λ_ _=>False) sg:=λv hv W hW=>by
   obtain⟨p,g,rfl⟩:=cU.mp hv;obtain⟨us,o,n,a1,a2,a3,a4⟩:=c p g;have T:Looks (model P w) sg.heap (typeOf (.ref p.1)) o.cls:=(Looks.ld a2).andThen .now;rw[a3] at T;exact T.here hW
  refine ab (ab (ab (kas_mapM (r:=Value.type "tuple") _ ty (am ?_))))
  obtain⟨p,g,_⟩:=t;obtain⟨d,rest,rfl⟩:∃d rest,a=d::rest:=by
   cases a with
   |nil=>exact nomatch g
   |cons d rest=>exact⟨d,rest,rfl⟩
  have all:((List.map (λ_=>Value.type "tuple") ((d::rest).map λp=>Value.ref p.1)).toArray.all λx=>x==Value.type "tuple")=true:=by
   rw[List.all_toArray,dk];intro x hx;obtain⟨_,_,rfl⟩:=cU.mp hx
   rfl
  have s:(List.map (λ_=>Value.type "tuple") ((d::rest).map λp=>Value.ref p.1)).toArray[0]?=some (Value.type "tuple"):=by simp
  rw[s];simp only[all,ite_true];exact am (am H)
theorem xJ{B:Around}{sg:Shared}{a:List (Addr×List Int)}(h:B.units<cLine)(m:2<=a.length)(b:fV sg.heap a):Srt.Answers P w B (Srt.fO (a.map (·.2))) (a.map λp=>Value.ref p.1) sg:=by
 by_cases c:∃p∈a,p.2=[]
 ·exact K2 h b c
 ·refine K3 m λi p e=>?_
  have d:=dF e;obtain⟨g,o,n,l,j,f,k⟩:=b p d;exact⟨g,o,n,l,j,f,k,λz=>c ⟨p,d,z⟩⟩
theorem RW(z:List (Addr×List Int)):ah (z.map λp=>V.ref p.1) (z.map λp=>Value.ref p.1):=by
 induction z with
 |nil=>exact .nil
 |cons x z ih=>exact .cons rfl ih
end L2
namespace TS
open PyProof.Rows
noncomputable def kA(R:Keyed->Nat) (a:Array Keyed) (i:Nat):Nat:=match a[i]? with
 |some p=>R p
 |none=>0
theorem oA{R:Keyed->Nat}(h:xs[i]?=ys[j]?):kA R xs i=kA R ys j:=by unfold kA;rw[h]
theorem jf{R:Keyed->Nat}(h:xs[i]?=some x):kA R xs i=R x:=by unfold kA;rw[h]
def ff(R:Keyed->Nat) (c:Array Keyed) (a b:Nat):Prop:=∀i j,a<=i->i<=j->j<b->kA R c i<=kA R c j
def ud(R:Keyed->Nat) (c:Array Keyed) (a b:Nat):Prop:=∀i j,a<=i->i<=j->j<b->kA R c j<=kA R c i
noncomputable def k6(b:Program) (w:World) (A:Around) (s:Shared) (c:SortKind) (a:Array Keyed) (R:Keyed->Nat):Prop:=
 ∀x,x∈a.toList->∀y,y∈a.toList->∀(C:Bool->Shared->Prop),C (decide (R x<R y)) s->wpAny (model b w) A (keyLt' c x.1 y.1) C (λ_ _=>False) s
structure B (κ:SortKind) (a₀:Array Keyed) (au:SortSt):Prop where
 perm:(arrOf au).Perm a₀
 kind:kindOf au=κ
 failed:failedOf au=none
section
variable {κ:SortKind}{a₀:Array Keyed}
theorem B.size{a:SortSt}(h:B κ a₀ a):(arrOf a).size=a₀.size:=h.perm.size_eq
theorem B.set{a:SortSt}(h:B κ a₀ a){b:Array Keyed}(c:b.Perm (arrOf a)):B κ a₀ (setArr a b):=⟨c.trans h.perm,h.kind,h.failed⟩
theorem B.mem{b:SortSt}(h:B κ a₀ b){i:Nat}(c:i<a₀.size):∃x,(arrOf b)[i]?=some x/\x∈a₀.toList:=by
 have a:i<(arrOf b).size:=by rw[h.size];exact c
 exact⟨_,getElem?_pos _ i a,(zF.mp h.perm).mem_iff.mp '%'⟩
end
section
variable {prog:Program}{w:World}{A:Around}{E:Value->Shared->Prop}{s:Shared}{κ:SortKind}{a₀:Array Keyed}{R:Keyed->Nat}
theorem w_lt{x y:Keyed}{au:SortSt}{Q:Option Bool->SortSt->Prop}(O:k6 prog w A s κ a₀ R)(d:kindOf au=κ)(e:x∈a₀.toList)(g:y∈a₀.toList)(h:Q (some (decide (R x<R y))) au):wpS '*' A E s (lt' x y) Q au:=by
 rw[lt'_eq];refine bf (lC ?_);rw[d];refine bf (p9 (qd (iU (O x e y g (λb a=>a=s/\b=decide (R x<R y)) ⟨rfl,rfl⟩) (λb a c=>?_) λ_ _ f=>f.elim)));obtain⟨rfl,rfl⟩:=c;exact⟨rfl,bm h⟩
end
section
variable {prog:Program}{w:World}{A:Around}{E:Value->Shared->Prop}{s:Shared}
theorem pU{a:Array Keyed}{i:Nat}{x:Keyed}{au:SortSt}{Q:Keyed->SortSt->Prop}(e:a[i]?=some x)(h:Q x au):wpS '*' A E s (elem' a i) Q au:=by
 rw[elem'_eq,e];exact bm h
end
section
variable {prog:Program}{w:World}{A:Around}{E:Value->Shared->Prop}{s:Shared}{κ:SortKind}{a₀:Array Keyed}{R:Keyed->Nat}
theorem qX{i j:Nat}{au:SortSt}{Q:Option Bool->SortSt->Prop}(O:k6 prog w A s κ a₀ R)(b:B κ a₀ au)(d:i<a₀.size)(f:j<a₀.size)(h:Q (some (decide (kA R (arrOf au) i<kA R (arrOf au) j))) au):wpS '*' A E s (ltAt' i j) Q au:=by
 obtain⟨x,c,e⟩:=b.mem d;obtain⟨y,a,g⟩:=b.mem f;rw[jf c,jf a] at h;rw[ltAt'_eq];exact bf (lC (bf (pU c (bf (pU a (w_lt O b.kind e g h))))))
end
section
variable {prog:Program}{w:World}{A:Around}{E:Value->Shared->Prop}{s:Shared}
theorem ou{i j:Nat}{au:SortSt}{Q:Unit->SortSt->Prop}(h:Q () (setArr au (mirror (arrOf au) i j ((j-i)/2)))):wpS '*' A E s (reverseSlice' i j) Q au:=by
 rw[reverseSlice'_eq];exact mI h
theorem II{i j:Nat}{au:SortSt}{Q:Unit->SortSt->Prop}(h:Q () (setArr au (bubble (arrOf au) i (i-j)))):wpS '*' A E s (moveDown' i j) Q au:=by
 rw[moveDown'_eq];exact mI h
end
theorem lq{lo x n N:Nat}(h:x<n)(a:lo+n<=N):lo+x<N:=df (oh h lo) a
theorem lu{lo x n N:Nat}(h:x<n)(a:lo+n<=N):lo+x-1<N:=jv (mJ _ _) (lq h a)
theorem Eo{lo n:Nat}(h:1<=n):lo+n-1<lo+n:=oX (df h (NY _ _)) Nat.one_pos
theorem oO{j lo n:Nat}(h:j<lo+(n+1))(e:¬j=lo+n):j<lo+n:=kb (jT h) e
theorem xa(a:k<j):i<=i+j-1-k:=Nat.le_sub_of_add_le (lF (oh a i))
theorem w9(b:i<=k)(a:k<j):i+j-1-k<j:=jv (zA b _) (by rw[Nat.sub_right_comm,mr];exact oX (Dt a) Nat.one_pos)
theorem Fe{R:Keyed->Nat}{a:Array Keyed}(b:j<=a.size)(k:Nat):kA R (mirror a i j ((j-i)/2)) k=if i<=k/\k<j then kA R a (i+j-1-k) else kA R a k:=by
 have e:=getElem?_mirror_all (i:=i) b k;split
 ·rename_i c;rw[if_pos c] at e;exact oA e
 ·rename_i c;rw[if_neg c] at e;exact oA e
noncomputable def dZ(c d:Array Keyed) (a b:Nat):Prop:=∀k,k<a\/b<=k->c[k]?=d[k]?
theorem dZ.refl(c:Array Keyed)(a b:Nat):dZ c c a b:=λ_ _=>rfl
theorem dZ.trans(e:dZ xs ys a b)(d:dZ ys zs a b):dZ xs zs a b:=λk c=>(e k c).trans (d k c)
theorem dZ.mirror{c:Array Keyed}(g:j<=c.size)(d:a<=i)(e:j<=b):dZ (mirror c i j ((j-i)/2)) c a b:=λk f=>by
 rw[getElem?_mirror_all (i:=i) g k,if_neg λz=>f.elim (λh=>mO (ax d z.1) h) λh=>mO (ax e h) z.2]
theorem dZ.bubble{c:Array Keyed}(i:src<c.size)(j:d<=src)(g:a<=src-d)(e:src<b):dZ (bubble c src d) c a b:=λk f=>by
 rw[getElem?_bubble i d j k,if_neg λz=>f.elim (λh=>mO (ax g (ig z.symm)) h) λh=>mO h (jv (ax (ig z) (mJ _ _)) e),if_neg λz=>f.elim (λh=>mO (ax g (dL z.1)) h) λh=>mO h (jv z.2 e)]
structure Sm (au st':SortSt) (a b:Nat):Prop where
 out:dZ (arrOf st') (arrOf au) a b
 pend:pendingOf st'=pendingOf au
section
variable {prog:Program}{w:World}{A:Around}{E:Value->Shared->Prop}{s:Shared}{κ:SortKind}{a₀:Array Keyed}{R:Keyed->Nat}
theorem mG{lo a d:Nat}{au:SortSt}{Q:Option (Option Nat)×Nat->SortSt->Prop}(O:k6 prog w A s κ a₀ R)(b:B κ a₀ au)(p:lo+d<=a₀.size)(v:1<=a)(l:a<=d)(t:ff R (arrOf au) lo (lo+a))
  (h:∀n,a<=n->n<=d->ff R (arrOf au) lo (lo+n)->(n=d\/kA R (arrOf au) (lo+n)<kA R (arrOf au) (lo+n-1))->Q (none,n) au):
  wpS '*' A E s (forIn [a:d] ((none,a):Option (Option Nat)×Nat) λ_ r=>do
   let x ←ltAt' (lo+r.2) (lo+r.2-1)
   match x with
   |some smaller=>if smaller=true then pure (ForInStep.done (none,r.2)) else pure (ForInStep.yield (none,r.2+1))
   |_=>pure (ForInStep.done (some none,r.2))) Q au:=by
 refine iW (I:=λx c f=>f=au/\c=(none,x)/\ff R (arrOf au) lo (lo+x)) ?_ ?_ ⟨rfl,rfl,t⟩
 ·rintro x c f q m ⟨rfl,rfl,g⟩;dsimp only;refine bf (qX O b (lq m p) (lu m p) ?_);by_cases c:kA R (arrOf f) (lo+x)<kA R (arrOf f) (lo+x-1)
  ·simp only[c,qb,hZ];exact bm (h x q (dL m) g (.inr c))
  ·simp only[c,sk,kF,iB];refine bm ⟨rfl,rfl,λi j o k u=>?_⟩;by_cases e:j=lo+x
   ·subst e;by_cases e2:i=lo+x
    ·rw[e2];exact aY _
    ·exact ax (g i (lo+x-1) o (lF (kb k e2)) (Eo (ax v q))) (fZ c)
   ·exact g i j o k (oO u e)
 ·rintro c f ⟨rfl,rfl,g⟩;rw[N4 l] at g ⊢;exact h d l (aY _) g (.inl rfl)
end
theorem RU{R:Keyed->Nat}{xs:Array Keyed}{i j:Nat}(b:j<=xs.size)(a:∀k,i<=k->k<j->kA R xs k=kA R xs (j-1))(k:Nat):kA R (mirror xs i j ((j-i)/2)) k=kA R xs k:=by
 rw[Fe b];split
 ·rename_i c;rw[a _ (xa c.2) (w9 c.1 c.2),a k c.1 c.2]
 ·rfl
structure Fl (κ:SortKind) (a₀:Array Keyed) (R:Keyed->Nat) (st₀ au:SortSt) (lo n neq b:Nat):Prop where
 base:B κ a₀ au
 same:Sm st₀ au lo b
 dn:ud R (arrOf au) lo (lo+n)
 hq:neq+1<=n
 eqs:∀i,lo+n-(neq+1)<=i->i<lo+n->kA R (arrOf au) i=kA R (arrOf au) (lo+n-1)
section
variable {κ:SortKind}{a₀:Array Keyed}{R:Keyed->Nat}
theorem Fl.turn{c d:SortSt}{lo n a b:Nat}(h:Fl κ a₀ R c d lo n a b)(m:lo+n<=b)(p:b<=a₀.size):
  Fl κ a₀ R c (setArr d (mirror (arrOf d) (lo+n-(a+1)) (lo+n) ((lo+n-(lo+n-(a+1)))/2))) lo n a b/\∀k,kA R (mirror (arrOf d) (lo+n-(a+1)) (lo+n) ((lo+n-(lo+n-(a+1)))/2)) k=kA R (arrOf d) k:=by
 have o:=h.base.size;have r:=h.hq;have f:lo+n<=(arrOf d).size:=by rw[o];exact ax m p
 have e:=RU (R:=R) (xs:=arrOf d) (i:=lo+n-(a+1)) (j:=lo+n) f h.eqs;refine⟨⟨h.base.set (mirror_perm _ _ _ _),⟨(dZ.mirror f (Nat.le_sub_of_add_le (ii r lo)) m).trans h.same.out,h.same.pend⟩,λi j l g q=>?_,h.hq,λi l g=>?_⟩,e⟩
 ·show kA R (mirror _ _ _ _) j<=kA R (mirror _ _ _ _) i;rw[e,e];exact h.dn i j l g q
 ·show kA R (mirror _ _ _ _) i=kA R (mirror _ _ _ _) _;rw[e,e];exact h.eqs i l g
theorem Fl.less{a f:SortSt}{lo n d b:Nat}(h:Fl κ a₀ R a f lo n d b)(c:kA R (arrOf f) (lo+n)<=kA R (arrOf f) (lo+n-1)):ud R (arrOf f) lo (lo+(n+1)):=λi j k g l=>by
 have m:=h.hq;by_cases e:j=lo+n
 ·subst e;by_cases e2:i=lo+n
  ·rw[e2];exact aY _
  ·exact ax c (h.dn i (lo+n-1) k (lF (kb g e2)) (Eo (ax (NY 1 d) m)))
 ·exact h.dn i j k g (oO l e)
theorem Fl.fresh{a d:SortSt}{lo n e b:Nat}(h:Fl κ a₀ R a d lo n e b)(c:kA R (arrOf d) (lo+n)<=kA R (arrOf d) (lo+n-1)):Fl κ a₀ R a d lo (n+1) 0 b:=⟨h.base,h.same,h.less c,mP (ie _),λi f g=>by
 have:i=lo+(n+1)-1:=kC (jT g) f
 rw[this]⟩
theorem Fl.more{a f:SortSt}{lo n d b:Nat}(h:Fl κ a₀ R a f lo n d b)(c:kA R (arrOf f) (lo+n)=kA R (arrOf f) (lo+n-1)):Fl κ a₀ R a f lo (n+1) (d+1) b:=by
 have k:=h.hq;refine⟨h.base,h.same,h.less (ig c),mP k,λi g j=>?_⟩;rw[show lo+(n+1)-1=lo+n from rfl];by_cases e:i=lo+n
 ·rw[e]
 ·rw[c];exact h.eqs i (ax (ig (Nat.succ_sub_succ (lo+n) (d+1)).symm) g) (oO j e)
end
section
variable {prog:Program}{w:World}{A:Around}{E:Value->Shared->Prop}{s:Shared}{κ:SortKind}{a₀:Array Keyed}{R:Keyed->Nat}
theorem KW{lo nrem:Nat}{au:SortSt}{Q:Option Nat->SortSt->Prop}(O:k6 prog w A s κ a₀ R)(b:B κ a₀ au)(p:lo+nrem<=a₀.size)(h1:1<=nrem)
  (h:∀m a,1<=m->m<=nrem->B κ a₀ a->Sm au a lo (lo+nrem)->ff R (arrOf a) lo (lo+m)->Q (some m) a):wpS '*' A E s (countRun' lo nrem) Q au:=by
 have X:Sm au au lo (lo+nrem):=⟨dZ.refl _ _ _,rfl⟩
 have a6:∀P:Array Keyed,ff R P lo (lo+1):=λP i j l g J=>by
  have:i=j:=kC g (ax (jT J) l);subst this;exact aY _
 have a8:∀P:Array Keyed,ud R P lo (lo+1):=λP i j l g J=>by
  have:i=j:=kC g (ax (jT J) l);subst this;exact aY _
 rw[countRun'_eq];dsimp only;refine bf (mG O b p (aY _) h1 (a6 _) λn n1 n2 hu a0=>?_);dsimp only;split
 ·exact bm (h n au n1 n2 b X hu)
 rename_i a5;have U:n≠nrem:=λz=>a5 (by simp[z])
 have y:n<nrem:=kb n2 U;have hl:kA R (arrOf au) (lo+n)<kA R (arrOf au) (lo+n-1):=by
  rcases a0 with z|z
  ·exact absurd z U
  ·exact z
 have hz:=b.size;have G:∀(n:Nat) (o:SortSt),B κ a₀ o->Sm au o lo (lo+nrem)->1<=n->n<=nrem->ud R (arrOf o) lo (lo+n) ->
   B κ a₀ (setArr o (mirror (arrOf o) lo (lo+n) ((lo+n-lo)/2)))/\Sm au (setArr o (mirror (arrOf o) lo (lo+n) ((lo+n-lo)/2))) lo (lo+nrem)/\ff R (mirror (arrOf o) lo (lo+n) ((lo+n-lo)/2)) lo (lo+n):=λn o b1 r T H t=>by
  have hz:=b1.size;have hm:=ii H lo;have u:lo+n<=(arrOf o).size:=by rw[hz];exact ax hm p
  refine⟨b1.set (mirror_perm _ _ _ _),⟨(dZ.mirror u (aY _) hm).trans r.out,r.pend⟩,λi j l g J=>?_⟩;have hi:=jv g J;rw[Fe u,Fe u,if_pos ⟨l,hi⟩,if_pos ⟨ax l g,J⟩];exact t _ _ (xa J) (zA g _) (w9 l hi)
 have S:¬ kA R (arrOf au) lo<kA R (arrOf au) (lo+n-1)->∀k,lo<=k->k<lo+n->kA R (arrOf au) k=kA R (arrOf au) (lo+n-1):=λc k k1 k2=>by
  have g1:=hu lo k (aY _) k1 k2;have g2:=hu k (lo+n-1) k1 (lF k2) (Eo n1);exact kC g2 (ax (fZ c) g1)
 have a4:∀P:Array Keyed,(∀k,kA R P k=kA R (arrOf au) k)->¬ kA R (arrOf au) lo<kA R (arrOf au) (lo+n-1)->ud R P lo (lo+(n+1)):=λP e c i j l g J=>by
  rw[e,e];by_cases e2:j=lo+n
  ·subst e2;by_cases e3:i=lo+n
   ·rw[e3];exact aY _
   ·rw[S c i l (kb g e3)];exact dL hl
  ·have jn:=oO J e2;rw[S c i l (jv g jn),S c j (ax l g) jn];exact aY _
 split
 ·have u:lo+n<=(arrOf au).size:=by rw[hz];exact ax (ii n2 lo) p
  refine bf (qX O b (df (DR h1) p) (lu y p) ?_);by_cases c:kA R (arrOf au) lo<kA R (arrOf au) (lo+n-1)
  ·simp only[c,qb,hZ];exact bm (h n au n1 n2 b X hu)
  ·simp only[c,sk,kF,iB];refine bf (ou ?_);have b1:B κ a₀ (setArr au (mirror (arrOf au) lo (lo+n) ((lo+n-lo)/2))):=b.set (mirror_perm _ _ _ _);have r:Sm au (setArr au (mirror (arrOf au) lo (lo+n) ((lo+n-lo)/2))) lo (lo+nrem):=⟨dZ.mirror u (aY _) (ii n2 lo),rfl⟩
   have t:ud R (arrOf (setArr au (mirror (arrOf au) lo (lo+n) ((lo+n-lo)/2)))) lo (lo+(n+1)):=a4 _ (RU u (S c)) c;generalize (setArr au (mirror (arrOf au) lo (lo+n) ((lo+n-lo)/2)))=o at b1 r t ⊢;refine bf (p9 (mH ⟨rfl,?_⟩));refine bf (ji (iW (I:=λx c a=>∃d,c=(none,x,d)/\Fl κ a₀ R au a lo x d (lo+nrem)) (Q:=λc a=>∃m d,c=(none,m,d)/\n+1<=m/\m<=nrem/\Fl κ a₀ R au a lo m d (lo+nrem)) ?_ ?_ ?_) ?_)
   ·rintro x c a l g ⟨d,rfl,f⟩;dsimp only;refine bf (qX O f.base (lq g p) (lu g p) ?_);by_cases c:kA R (arrOf a) (lo+x)<kA R (arrOf a) (lo+x-1)
    ·simp only[c,qb,hZ];split
     ·obtain⟨v,e⟩:=f.turn (ii (dL g) lo) p;refine bf (ou (bm ⟨0,rfl,v.fresh ?_⟩));refine dL (?_:kA R (mirror _ _ _ _) _<kA R (mirror _ _ _ _) _);rw[e,e];exact c
     ·exact bm ⟨0,rfl,f.fresh (dL c)⟩
    ·simp only[c,sk,kF,iB];refine bf (qX O f.base (lu g p) (lq g p) ?_);by_cases c2:kA R (arrOf a) (lo+x-1)<kA R (arrOf a) (lo+x)
     ·simp only[c2,qb,hZ];exact bm ⟨x,d,rfl,l,dL g,f⟩
     ·simp only[c2,sk,kF,iB];exact bm ⟨d+1,rfl,f.more (kC (fZ c2) (fZ c))⟩
   ·rintro c a ⟨d,rfl,f⟩;rw[N4 y] at f ⊢;exact⟨nrem,d,rfl,y,aY _,f⟩
   ·exact⟨0,rfl,b1,r,t,mP (ie _),λi g1 g2=>by
     have:i=lo+(n+1)-1:=kC (jT g2) g1
     rw[this]⟩
   ·rintro c a ⟨m,d,rfl,l,g,f⟩;dsimp only;split
    ·obtain⟨v,e⟩:=f.turn (ii g lo) p;refine bf (ou (bf (ou ?_)));obtain⟨C,Y,u3⟩:=G m _ v.base v.same (mq l) g v.dn;exact bf (mG O C p (mq l) g u3 λm' T H q _=>bm (h m' _ (ax (mq l) T) H C Y q))
    ·refine bf (ou ?_);obtain⟨C,Y,u3⟩:=G m _ f.base f.same (mq l) g f.dn;exact bf (mG O C p (mq l) g u3 λm' T H q _=>bm (h m' _ (ax (mq l) T) H C Y q))
 ·rename_i a7;have b1:=b;have r:=X
  have t:ud R (arrOf au) lo (lo+(n+1)):=a4 _ (λ_=>rfl) (by
   have:n=1:=kC (fZ a7) n1;subst this
   simp)
  refine bf (p9 (mH ⟨rfl,?_⟩));refine bf (ji (iW (I:=λx c a=>∃d,c=(none,x,d)/\Fl κ a₀ R au a lo x d (lo+nrem)) (Q:=λc a=>∃m d,c=(none,m,d)/\n+1<=m/\m<=nrem/\Fl κ a₀ R au a lo m d (lo+nrem)) ?_ ?_ ?_) ?_)
  ·rintro x c a l g ⟨d,rfl,f⟩;dsimp only;refine bf (qX O f.base (lq g p) (lu g p) ?_);by_cases c:kA R (arrOf a) (lo+x)<kA R (arrOf a) (lo+x-1)
   ·simp only[c,qb,hZ];split
    ·obtain⟨v,e⟩:=f.turn (ii (dL g) lo) p;refine bf (ou (bm ⟨0,rfl,v.fresh ?_⟩));refine dL (?_:kA R (mirror _ _ _ _) _<kA R (mirror _ _ _ _) _);rw[e,e];exact c
    ·exact bm ⟨0,rfl,f.fresh (dL c)⟩
   ·simp only[c,sk,kF,iB];refine bf (qX O f.base (lu g p) (lq g p) ?_);by_cases c2:kA R (arrOf a) (lo+x-1)<kA R (arrOf a) (lo+x)
    ·simp only[c2,qb,hZ];exact bm ⟨x,d,rfl,l,dL g,f⟩
    ·simp only[c2,sk,kF,iB];exact bm ⟨d+1,rfl,f.more (kC (fZ c2) (fZ c))⟩
  ·rintro c a ⟨d,rfl,f⟩;rw[N4 y] at f ⊢;exact⟨nrem,d,rfl,y,aY _,f⟩
  ·exact⟨0,rfl,b1,r,t,mP (ie _),λi g1 g2=>by
    have:i=lo+(n+1)-1:=kC (jT g2) g1
    rw[this]⟩
  ·rintro c a ⟨m,d,rfl,l,g,f⟩;dsimp only;split
   ·obtain⟨v,e⟩:=f.turn (ii g lo) p;refine bf (ou (bf (ou ?_)));obtain⟨C,Y,u3⟩:=G m _ v.base v.same (mq l) g v.dn;exact bf (mG O C p (mq l) g u3 λm' T H q _=>bm (h m' _ (ax (mq l) T) H C Y q))
   ·refine bf (ou ?_);obtain⟨C,Y,u3⟩:=G m _ f.base f.same (mq l) g f.dn;exact bf (mG O C p (mq l) g u3 λm' T H q _=>bm (h m' _ (ax (mq l) T) H C Y q))
end
theorem QV{R:Keyed->Nat}{a:Array Keyed}(f:src<a.size)(g:d<=src)(k:Nat):kA R (bubble a src d) k=if k=src-d then kA R a src else if src-d<k/\k<=src then kA R a (k-1) else kA R a k:=by
 have e:=getElem?_bubble f d g k;split
 ·rename_i c;rw[if_pos c] at e;exact oA e
 ·rename_i c;rw[if_neg c] at e;split
  ·rename_i b;rw[if_pos b] at e;exact oA e
  ·rename_i b;rw[if_neg b] at e;exact oA e
theorem Ff(c:a<=b)(h:b-a<=n-max 0 n):b=a:=by
 rw[Nat.zero_max,uF] at h;exact kC (Nat.le_of_sub_eq_zero (Nat.le_zero.mp h)) c
theorem rH(h:¬l ≥ r):l<=(l+r)/2:=(Nat.le_div_iff_mul_le C7).mpr (by rw[Nat.mul_two];exact ii (dL (qf h)) l)
theorem oN(h:¬l ≥ r):(l+r)/2<r:=(Nat.div_lt_iff_lt_mul C7).mpr (by rw[Nat.mul_two];exact Nat.add_lt_add_right (qf h) r)
theorem Pk(h:¬l ≥ r)(g:r-l<=k-x):(l+r)/2-l<=k-(x+1):=ax (lF (pi (rH h) (oN h))) (sR g 1)
theorem Pj(h:¬l ≥ r)(g:r-l<=k-x):r-((l+r)/2+1)<=k-(x+1):=ax (zA (mP (rH h)) r) (sR g 1)
theorem sd(h:p<j)(a:j<=q):j-1<q:=df (oX (Dt h) Nat.one_pos) a
section
variable {prog:Program}{w:World}{A:Around}{E:Value->Shared->Prop}{s:Shared}{κ:SortKind}{a₀:Array Keyed}{R:Keyed->Nat}
theorem Gx{lo n G:Nat}{au:SortSt}{Q:Bool->SortSt->Prop}(O:k6 prog w A s κ a₀ R)(b:B κ a₀ au)(hn:lo+n<=a₀.size)(h1:1<=G)(h2:G<=n)(up:ff R (arrOf au) lo (lo+G))
  (h:∀a,B κ a₀ a->Sm au a lo (lo+n)->ff R (arrOf a) lo (lo+n)->Q true a):wpS '*' A E s (binarySort' lo n G) Q au:=by
 rw[binarySort'_eq]
 refine bf (ji (iW (I:=λk c a=>c=(none,())/\B κ a₀ a/\Sm au a lo (lo+n)/\ff R (arrOf a) lo (lo+min k n))
  (Q:=λc a=>c=(none,())/\B κ a₀ a/\Sm au a lo (lo+n)/\ff R (arrOf a) lo (lo+n)) ?_ ?_ ?_) ?_)
 ·rintro k c a k1 P ⟨rfl,t,f,up1⟩;rw[j9 (dL P)] at up1;have hz:=t.size;have hk:lo+k<a₀.size:=df (oh P lo) hn
  refine bf (ji (iW (I:=λx c d=>d=a/\∃l r,c=(none,l,r)/\l<=r/\r<=k/\r-l<=k-x/\(∀i,i<l->kA R (arrOf a) (lo+i)<=kA R (arrOf a) (lo+k))/\(∀i,r<=i->i<k->kA R (arrOf a) (lo+k)<=kA R (arrOf a) (lo+i)))
   (Q:=λc d=>d=a/\∃l r,c=(none,l,r)/\l<=k/\(∀i,i<l->kA R (arrOf a) (lo+i)<=kA R (arrOf a) (lo+k))/\(∀i,l<=i->i<k->kA R (arrOf a) (lo+k)<=kA R (arrOf a) (lo+i))) ?_ ?_ ?_) ?_)
  ·rintro x c d x1 x2 ⟨rfl,l,r,rfl,y,o,v,J,H⟩;dsimp only;by_cases hge:l ≥ r
   ·rw[if_pos hge];have e:l=r:=kC y hge;subst e;exact bm ⟨rfl,l,l,rfl,o,J,H⟩
   ·have hm:lo+(l+r)/2<lo+k:=oh (df (oN hge) o) lo;rw[if_neg hge];refine bf (qX O t hk (sw hm hk) ?_);by_cases c:kA R (arrOf d) (lo+k)<kA R (arrOf d) (lo+(l+r)/2)
    ·simp only[c,qb,hZ];exact bm ⟨rfl,l,(l+r)/2,rfl,rH hge,ax (dL (oN hge)) o,Pk hge v,J,λi m g=>ax (dL c) (up1 _ _ (fK _ _) (ii m lo) (oh g lo))⟩
    ·simp only[c,sk,kF,iB];exact bm ⟨rfl,(l+r)/2+1,r,rfl,oN hge,o,Pj hge v,λi m=>ax (up1 (lo+i) (lo+(l+r)/2) (fK _ _) (ii (jT m) lo) hm) (fZ c),H⟩
  ·rintro c d ⟨rfl,l,r,rfl,y,o,v,J,H⟩;have e:=Ff y v;subst e;exact⟨rfl,_,_,rfl,o,J,H⟩
  ·exact⟨rfl,0,k,rfl,ie _,aY _,aY _,λi hi=>absurd hi (Nat.not_lt_zero _),λi m g=>absurd g (mO m)⟩
  ·rintro c d ⟨rfl,l,r,rfl,y,o,v⟩;dsimp only;have hd:lo+k-(lo+k-(lo+l))=lo+l:=Nat.sub_sub_self (ii y lo);have Y:lo+k<(arrOf d).size:=by rw[hz];exact hk
   refine bf (II (bm ⟨rfl,t.set (bubble_perm _ _ _),⟨(dZ.bubble Y (mJ _ _) (by rw[hd];exact fK _ _) (oh P lo)).trans f.out,f.pend⟩,λi j m g S=>?_⟩));show kA R (bubble (arrOf d) (lo+k) (lo+k-(lo+l))) i<=kA R (bubble (arrOf d) (lo+k) (lo+k-(lo+l))) j;rw[QV Y (mJ _ _),QV Y (mJ _ _),hd];rw[j9 P] at S;have p:j<=lo+k:=jT S;have U:∀q,lo<=q->q<lo+l->kA R (arrOf d) q<=kA R (arrOf d) (lo+k):=λq C T=>by
    have:=o (q-lo) (pu C T);rw[iG C] at this;exact this
   have X:∀q,lo+l<=q->q<lo+k->kA R (arrOf d) (lo+k)<=kA R (arrOf d) q:=λq C T=>by
    have q0:=ax (fK _ _) C;have:=v (q-lo) (qx C) (pu q0 T);rw[iG q0] at this;exact this
   by_cases i1:i=lo+l
   ·rw[if_pos i1];by_cases j1:j=lo+l
    ·rw[if_pos j1];exact aY _
    ·have u:=kb (i1 ▸ g) (cO j1);rw[if_neg j1,if_pos ⟨u,p⟩];exact X _ (lF u) (sd u p)
   ·rw[if_neg i1];by_cases i2:lo+l<i/\i<=lo+k
    ·have u:=df i2.1 g;rw[if_pos i2,if_neg (mL u),if_pos ⟨u,p⟩];exact up1 _ _ (ax (fK lo l) (lF i2.1)) (sR g 1) (sd u p)
    ·have il:i<lo+l:=kb (fZ λz=>i2 ⟨z,ax g p⟩) i1;rw[if_neg i2];by_cases j1:j=lo+l
     ·rw[if_pos j1];exact U i m il
     ·rw[if_neg j1];by_cases j2:lo+l<j/\j<=lo+k
      ·rw[if_pos j2];exact up1 _ _ m (lF (sw il j2.1)) (sd j2.1 p)
      ·rw[if_neg j2];exact up1 _ _ m g (df (kb (fZ λz=>j2 ⟨z,p⟩) j1) (ii y lo))
 ·rintro c a ⟨rfl,t,f,up1⟩;rw[yW (Nat.le_max_right _ _)] at up1;exact⟨rfl,t,f,up1⟩
 ·refine⟨rfl,b,⟨dZ.refl _ _ _,rfl⟩,λi j m g S=>up i j m g (df S (ii (ax (uG _ _) (ig (Nat.max_eq_left h1))) lo))⟩
 ·rintro c a ⟨rfl,t,f,up1⟩;exact bm (h a t f up1)
end
noncomputable def pK:Bool->Keyed->Array Keyed->Nat->Nat->Nat->StateT SortSt Sem (Option Nat):=sortPriv% PySem.Builtin.gallop
def ot(left:Bool) (R:Keyed->Nat) (a:Keyed) (b:Array Keyed) (base n h:Nat):Prop:=h<=n/\(∀i,i<h->if left then kA R b (base+i)<R a else kA R b (base+i)<=R a)/\(∀i,h<=i->i<n->if left then R a<=kA R b (base+i) else R a<kA R b (base+i))
def ahead(left:Bool) (R:Keyed->Nat) (a:Keyed) (b:Array Keyed) (base i:Nat):Bool:=if left then decide (kA R b (base+i)<R a) else decide (kA R b (base+i)<=R a)
section
variable {prog:Program}{w:World}{A:Around}{E:Value->Shared->Prop}{s:Shared}{κ:SortKind}{a₀:Array Keyed}{R:Keyed->Nat}
theorem vy{left:Bool}{a:Keyed}{b:Array Keyed}{base i:Nat}{au:SortSt}{Q:Option Bool->SortSt->Prop}(O:k6 prog w A s κ a₀ R)(d:kindOf au=κ)(mk:a∈a₀.toList)(f:∃x,b[base+i]?=some x/\x∈a₀.toList)(h:Q (some (ahead left R a b base i)) au):
  wpS '*' A E s (do
   let x ←elem' b (base+i)
   if left=true then lt' x a else do
    let y ←lt' a x
    pure (Option.map (λx=>!x) y)) Q au:=by
 obtain⟨x,e,m⟩:=f;refine bf (pU e ?_);unfold ahead at h;rw[jf e] at h;cases left with
 |true=>
  rw[if_pos rfl] at h ⊢;exact w_lt O d m mk h
 |false=>
  rw[if_neg ')'] at h ⊢;refine bf (w_lt O d mk m (bm ?_));have q:(!decide (R a<R x))=decide (R x<=R a):=by
   by_cases c:R a<R x
   ·rw[d5 c,dj (Nat.not_le_of_lt c)];rfl
   ·rw[dj c,d5 (fZ c)];rfl
  show Q (some (!decide (R a<R x))) au;rw[q];exact h
end
theorem TH{R:Keyed->Nat}(c:ff R arr base (base+n))(a:i<=j)(b:j<n)(h:ahead left R key arr base j=true):ahead left R key arr base i=true:=by
 have:=c (base+i) (base+j) (fK _ _) (ii a _) (oh b _);unfold ahead at h ⊢;cases left with
 |true=>rw[if_pos rfl] at h ⊢;exact d5 (jv this (iZ h))
 |false=>rw[if_neg ')'] at h ⊢;exact d5 (ax this (iZ h))
theorem wK{R:Keyed->Nat}(c:h<=n)(f:∀i,i<h->ahead left R key arr base i=true)(e:∀i,h<=i->i<n->ahead left R key arr base i=false):ot left R key arr base n h:=by
 refine⟨c,λi a=>?_,λi d b=>?_⟩
 ·have:=f i a;unfold ahead at this;cases left with
  |true=>rw[if_pos rfl] at this ⊢;exact iZ this
  |false=>rw[if_neg ')'] at this ⊢;exact iZ this
 ·have:=e i d b;unfold ahead at this;cases left with
  |true=>rw[if_pos rfl] at this ⊢;exact fZ (of_decide_eq_false this)
  |false=>rw[if_neg ')'] at this ⊢;exact qf (of_decide_eq_false this)
theorem xZ(c:¬a ≥ b):(b-a)/2<b-a:=Nat.div_lt_self (qm (qf c)) (aY 2)
theorem rK(c:¬a ≥ b):a+(b-a)/2<b:=oj (xZ c)
theorem lB(c:¬a ≥ b)(h:b<=n):a+(b-a)/2<n:=df (rK c) h
theorem w6(h:b-a<=n-x):b-(a+(b-a)/2+1)<=n-(x+1):=ax (zA (mP (fK a _)) b) (sR h 1)
theorem w8(c:¬a ≥ b)(h:b-a<=n-x):a+(b-a)/2-a<=n-(x+1):=by
 rw[mr];exact ax (lF (xZ c)) (sR h 1)
theorem wS(o:Nat):o<2*o+1:=Nat.lt_succ_of_le (Nat.le_mul_of_pos_left o C7)
theorem wR(h:x+1<=o):x+1+1<=2*o+1:=mP (ax h (Nat.le_mul_of_pos_left o C7))
theorem xB{a b n:Nat}(h:a+b<n):b<n-a:=Nat.lt_sub_of_add_lt (Nat.add_comm a b ▸ h)
inductive GI (f:Nat->Bool) (n:Nat) (au:SortSt) (x:Nat):Option (Option Nat)×Nat×Nat->SortSt->Prop where
 |mk {a b:Nat}(q1:a<=b) (q2:b<=n) (q3:b-a<=n-x) (q4:∀i,i<a->f i=true) (q5:∀i,b<=i->i<n->f i=false):GI f n au x (none,a,b) au
inductive GE (f:Nat->Bool) (n:Nat) (au:SortSt):Option (Option Nat)×Nat×Nat->SortSt->Prop where
 |mk {b:Nat}(q2:b<=n) (q4:∀i,i<b->f i=true) (q5:∀i,b<=i->i<n->f i=false):GE f n au (none,b,b) au
inductive GU (f:Nat->Bool) (n hint:Nat) (P:Nat->Prop) (au:SortSt):Option (Option Nat)×Nat×Nat->SortSt->Prop where
 |mk {l o:Nat}(g1:l<o) (g2:hint+l<n) (g3:f (hint+l)=true) (g4:P o):GU f n hint P au (none,l,o) au
inductive GD (f:Nat->Bool) (hint:Nat) (P:Nat->Prop) (au:SortSt):Option (Option Nat)×Nat×Nat->SortSt->Prop where
 |mk {l o:Nat}(g1:l<o) (g2:l<=hint) (g3:f (hint-l)=false) (g4:P o):GD f hint P au (none,l,o) au
section
variable {prog:Program}{w:World}{A:Around}{E:Value->Shared->Prop}{s:Shared}{κ:SortKind}{a₀:Array Keyed}{R:Keyed->Nat}
theorem uv{left:Bool}{m:Keyed}{f:Array Keyed}{base n d:Nat}{au:SortSt}{Q:Option Nat->SortSt->Prop}(O:k6 prog w A s κ a₀ R)(hk:kindOf au=κ)(mk:m∈a₀.toList)(ma:∀i,i<n->∃x,f[base+i]?=some x/\x∈a₀.toList)(U:d<n)
  (up:ff R f base (base+n))(h:∀k,ot left R m f base n k->Q (some k) au):wpS '*' A E s (pK left m f base n d) Q au:=by
 have r:∀i j,i<=j->j<n->ahead left R m f base j=true->ahead left R m f base i=true:=λi j u J=>TH up u J
 have q:∀i j,i<=j->j<n->ahead left R m f base i=false->ahead left R m f base j=false:=λi j u J e=>by
  cases c:ahead left R m f base j with
  |false=>rfl
  |true=>rw[r i j u J c] at e;cases e
 refine bf (vy O hk mk (ma d U) ?_);dsimp only;cases hr:ahead left R m f base d with
 |true=>
  rw[if_pos rfl];refine bf (ji (iW (I:=λx=>GU (ahead left R m f base) n d (x+1<=·) au) (Q:=GU (ahead left R m f base) n d (λo=>n-d<=o\/(d+o<n/\ahead left R m f base (d+o)=false)) au) ?_ ?_ ?_) ?_)
  ·rintro x c S x1 x2 @⟨l,o,C,t,y,z⟩;dsimp only;by_cases c:o ≥ n-d
   ·rw[if_pos c];exact bm (.mk C t y (.inl c))
   ·have c3:d+o<n:=oj (qf c);rw[if_neg c];refine bf (vy O hk mk (ma (d+o) c3) ?_);dsimp only;cases c2:ahead left R m f base (d+o) with
    |true=>exact bm (.mk (wS o) c3 c2 (wR z))
    |false=>exact bm (.mk C t y (.inr ⟨c3,c2⟩))
  ·rintro c S @⟨l,o,C,t,y,z⟩;rw[Nat.zero_max] at z;exact .mk C t y (.inl (ax (mJ _ _) (ka z)))
  ·exact .mk Nat.one_pos U hr (aY _)
  ·rintro c S @⟨l,o,C,t,y,z⟩;dsimp only;have f1:∀i,i<d+l+1->ahead left R m f base i=true:=λi H=>r i (d+l) (jT H) t y
   have f2:∀i,d+min o (n-d)<=i->i<n->ahead left R m f base i=false:=λi u J=>by
    rcases z with g|⟨ga,gb⟩
    ·rw[yW g,iG (dL U)] at u;exact absurd J (mO u)
    ·rw[j9 (dL (xB ga))] at u;exact q (d+o) i u J gb
   have f3:d+l+1<=d+min o (n-d):=ii (Nat.le_min.mpr ⟨C,xB t⟩) d;have Y:d+min o (n-d)<=n:=ax (ii (mj _ _) d) (ig (iG (dL U)));generalize d+l+1=lo at f1 f3 ⊢;generalize d+min o (n-d)=H at f2 f3 Y ⊢;refine bf (ji (iW (I:=GI (ahead left R m f base) n au) (Q:=GE (ahead left R m f base) n au) ?_ ?_ (.mk f3 Y (ax (mJ _ _) Y) f1 f2)) ?_)
   ·rintro x c P x1 x2 @⟨a,b,X,p,T,G,v⟩;dsimp only;by_cases c:a ≥ b
    ·rw[if_pos c];have e:b=a:=kC c X;subst e;exact bm (.mk p G v)
    ·rw[if_neg c];refine bf (vy O hk mk (ma (a+(b-a)/2) (lB c p)) ?_);dsimp only;cases c2:ahead left R m f base (a+(b-a)/2) with
     |true=>exact bm (.mk (rK c) p (w6 T) (λi H=>r i (a+(b-a)/2) (jT H) (lB c p) c2) v)
     |false=>exact bm (.mk (fK _ _) (dL (lB c p)) (w8 c T) G λi u J=>q (a+(b-a)/2) i u J c2)
   ·rintro c P @⟨a,b,X,p,T,G,v⟩;have e:=Ff X T;subst e;exact .mk p G v
   ·rintro c P @⟨b,p,G,v⟩;exact bm (h b (wK p G v))
 |false=>
  rw[if_neg ')'];refine bf (ji (iW (I:=λx=>GD (ahead left R m f base) d (x+1<=·) au) (Q:=GD (ahead left R m f base) d (λo=>d+1<=o\/(o<=d/\ahead left R m f base (d-o)=true)) au) ?_ ?_ ?_) ?_)
  ·rintro x c S x1 x2 @⟨l,o,C,t,y,z⟩;dsimp only;by_cases c:o ≥ d+1
   ·rw[if_pos c];exact bm (.mk C t y (.inl c))
   ·rw[if_neg c];refine bf (vy O hk mk (ma (d-o) (jv (mJ _ _) U)) ?_);dsimp only;cases c2:ahead left R m f base (d-o) with
    |true=>exact bm (.mk C t y (.inr ⟨jT (qf c),c2⟩))
    |false=>exact bm (.mk (wS o) (jT (qf c)) c2 (wR z))
  ·rintro c S @⟨l,o,C,t,y,z⟩;rw[Nat.zero_max] at z;exact .mk C t y (.inl (ax U (ka z)))
  ·exact .mk Nat.one_pos (ie _) hr (aY _)
  ·rintro c S @⟨l,o,C,t,y,z⟩;dsimp only;have f1:∀i,i<d+1-min o (d+1)->ahead left R m f base i=true:=λi H=>by
    rcases z with g|⟨ga,gb⟩
    ·rw[yW g,uF] at H;exact absurd H (Nat.not_lt_zero _)
    ·rw[j9 (qk ga),Nat.succ_sub ga] at H;exact r i (d-o) (jT H) (jv (mJ _ _) U) gb
   have f2:∀i,d-l<=i->i<n->ahead left R m f base i=false:=λi u J=>q (d-l) i u J y
   have f3:d+1-min o (d+1)<=d-l:=ax (zA (Nat.le_min.mpr ⟨C,mP t⟩) _) (ig (Nat.succ_sub_succ d l));have Y:d-l<=n:=ax (mJ _ _) (dL U);generalize d+1-min o (d+1)=lo at f1 f3 ⊢;generalize d-l=H at f2 f3 Y ⊢;refine bf (ji (iW (I:=GI (ahead left R m f base) n au) (Q:=GE (ahead left R m f base) n au) ?_ ?_ (.mk f3 Y (ax (mJ _ _) Y) f1 f2)) ?_)
   ·rintro x c P x1 x2 @⟨a,b,X,p,T,G,v⟩;dsimp only;by_cases c:a ≥ b
    ·rw[if_pos c];have e:b=a:=kC c X;subst e;exact bm (.mk p G v)
    ·rw[if_neg c];refine bf (vy O hk mk (ma (a+(b-a)/2) (lB c p)) ?_);dsimp only;cases c2:ahead left R m f base (a+(b-a)/2) with
     |true=>exact bm (.mk (rK c) p (w6 T) (λi H=>r i (a+(b-a)/2) (jT H) (lB c p) c2) v)
     |false=>exact bm (.mk (fK _ _) (dL (lB c p)) (w8 c T) G λi u J=>q (a+(b-a)/2) i u J c2)
   ·rintro c P @⟨a,b,X,p,T,G,v⟩;have e:=Ff X T;subst e;exact .mk p G v
   ·rintro c P @⟨b,p,G,v⟩;exact bm (h b (wK p G v))
end
noncomputable abbrev Ord(R:Keyed->Nat) (l:List Keyed):Prop:=l.Pairwise λx y=>R x<=R y
structure jI (au st':SortSt):Prop where
 arr:arrOf st'=arrOf au
 pend:pendingOf st'=pendingOf au
 kind:kindOf st'=kindOf au
 failed:failedOf st'=failedOf au
theorem jI.refl(au:SortSt):jI au au:=⟨rfl,rfl,rfl,rfl⟩
theorem jI.trans(x:jI a b)(y:jI b c):jI a c:=⟨y.arr.trans x.arr,y.pend.trans x.pend,y.kind.trans x.kind,y.failed.trans x.failed⟩
noncomputable def nr:Array Keyed->Array Keyed->StateT SortSt Sem (Array Keyed):=sortPriv% PySem.Builtin.mergeLo
noncomputable def nt:Array Keyed->Array Keyed->StateT SortSt Sem (Array Keyed):=sortPriv% PySem.Builtin.mergeHi
structure ML (R:Keyed->Nat) (all out rest:List Keyed):Prop where
 perm:(out++rest).Perm all
 ord:Ord R out
 le:∀x∈out,∀y∈rest,R x<=R y
theorem ML.grow{R:Keyed->Nat}{a:List Keyed}(m:ML R all out a)(p:a.Perm (c++rest'))(o:Ord R c)(h:∀x∈c,∀y∈rest',R x<=R y):ML R all (out++c) rest':=by
 refine⟨?_,uT.mpr ⟨m.ord,o,λx hx y b=>m.le x hx y (p.mem_iff.mpr (uU _ b))⟩,λx hx y b=>?_⟩
 ·rw[dE];exact(zC out p.symm).trans m.perm
 ·rcases fh.mp hx with hx|hx
  ·exact m.le x hx y (p.mem_iff.mpr (gE _ b))
  ·exact h x hx y b
theorem ML.fin{R:Keyed->Nat}{b a:List Keyed}(m:ML R all out b)(p:a.Perm b)(o:Ord R a):(out++a).Perm all/\Ord R (out++a):=
 ⟨(zC out p).trans m.perm,uT.mpr ⟨m.ord,o,λx c y d=>m.le x c y (p.mem_iff.mp d)⟩⟩
theorem Ord.at{R:Keyed->Nat}(h:Ord R l){i j:Nat}(e:l[i]?=some x)(f:l[j]?=some y)(a:i<=j):R x<=R y:=by
 obtain⟨k,d⟩:=cK.mp e;obtain⟨g,b⟩:=cK.mp f;by_cases c:i=j
 ·subst c;rw[←d,←b];exact aY _
 ·rw[←d,←b];exact OE.mp h i j k g (kb a c)
theorem Ord.drop{R:Keyed->Nat}(h:Ord R l)(n:Nat):Ord R (l.drop n):=List.Pairwise.sublist (List.drop_sublist _ _) h
theorem Ord.take{R:Keyed->Nat}(h:Ord R l)(n:Nat):Ord R (l.take n):=List.Pairwise.sublist (Du _ _) h
theorem oG{l:List Keyed}(h:y∈l.drop n):∃j,n<=j/\l[j]?=some y:=by
 obtain⟨i,a,e⟩:=oi h;refine⟨n+i,fK _ _,?_⟩;rw[←e,List.getElem_drop];exact cV _
theorem kz{l:List Keyed}(h:y∈l.take n):∃j,j<n/\l[j]?=some y:=by
 obtain⟨i,b,e⟩:=oi h;have a:i<n/\i<l.length:=by rw[gC] at b;exact Nat.lt_min.mp b
 refine⟨i,a.1,?_⟩;rw[←e,List.getElem_take];exact cV _
theorem RP{l:List Keyed}{i:Nat}{x:Keyed}(h:l[i]?=some x):l.drop i=x::l.drop (i+1):=by
 obtain⟨a,rfl⟩:=cK.mp h;exact jU a
theorem Ro(l:List Keyed)(i k:Nat):l.drop i=(l.drop i).take k++l.drop (i+k):=by
 rw[←NT,kG]
structure tS (R:Keyed->Nat) (la lb:List Keyed):Prop where
 oa:Ord R la
 ob:Ord R lb
 last:∀x,la[la.length-1]?=some x->∀y∈lb,R y<=R x
def Fin(R:Keyed->Nat) (b a:List Keyed) (r:Array Keyed):Prop:=r.toList.Perm (b++a)/\Ord R r.toList
section
variable {la:List Keyed}{lb:List Keyed}{out:Array Keyed}{ia:Nat}{ib:Nat}
theorem ML.pushB{R:Keyed->Nat}{all:List Keyed}(T:tS R la lb)(m:ML R all out.toList (la.drop ia++lb.drop ib)){y:Keyed}(a:lb[ib]?=some y)(h:∀z∈la.drop ia,R y<=R z):ML R all (out.push y).toList (la.drop ia++lb.drop (ib+1)):=by
 rw[qj];refine m.grow ?_ (Oy _ _) λx b z hz=>?_
 ·rw[RP a];exact List.perm_middle
 ·simp at b;subst b
  rcases fh.mp hz with hz|hz
  ·exact h z hz
  ·obtain⟨j,c,e⟩:=oG hz;exact T.ob.at a e (ka c)
end
section
variable {w:World}{la:List Keyed}{lb:List Keyed}{out:Array Keyed}{ia:Nat}{ib:Nat}
theorem ML.pushA{R:Keyed->Nat}{all:List Keyed}(T:tS R la lb)(m:ML R all out.toList (la.drop ia++lb.drop ib)){x:Keyed}(b:la[ia]?=some x)(h:∀z∈lb.drop ib,R x<=R z):ML R all (out.push x).toList (la.drop (ia+1)++lb.drop ib):=by
 rw[qj];refine m.grow ?_ (Oy _ _) λw a z hz=>?_
 ·rw[RP b];exact .refl _
 ·simp at a;subst a
  rcases fh.mp hz with hz|hz
  ·obtain⟨j,c,e⟩:=oG hz;exact T.oa.at b e (ka c)
  ·exact h z hz
end
theorem lm(a:Array Keyed)(i j:Nat):(a.extract i j).toList=(a.toList.drop i).take (j-i):=by
 rw[Array.toList_extract,List.extract_eq_take_drop]
theorem BX(a:Array Keyed)(i:Nat):(a.extract i).toList=a.toList.drop i:=by
 rw[lm];exact sT '%'
theorem iQ{R:Keyed->Nat}{a:Array Keyed}(h:a.toList[i]?=some x):kA R a i=R x:=jf (by rw[←iH];exact h)
section
variable {R:Keyed->Nat}{a:Array Keyed}{b:Array Keyed}{out:Array Keyed}{ia:Nat}{ib:Nat}{k:Nat}
theorem ML.galA(T:tS R a.toList b.toList)(m:ML R all out.toList (a.toList.drop ia++b.toList.drop ib))(o:b.toList[ib]?=some y)(c:ot false R y a ia (a.size-ia) k):ML R all (out++a.extract ia (ia+k)).toList (a.toList.drop (ia+k)++b.toList.drop ib)/\∀z∈a.toList.drop (ia+k),R y<=R z:=by
 have l:∀z∈a.toList.drop (ia+k),R y<=R z:=λz d=>by
  obtain⟨j,f,e⟩:=oG d;have i:j<a.size:=by have:=(cK.mp e).1;simpa using this
  have n:=ax (fK _ _) f;have:=c.2.2 (j-ia) (qx f) (pi n i);rw[iG n,iQ e] at this;exact dL this
 have h:∀z∈(a.toList.drop ia).take k,R z<=R y:=λz d=>by
  obtain⟨j,f,e⟩:=kz d;rw[qp] at e;have:=c.2.1 j f;rw[iQ e] at this;exact this
 refine⟨?_,l⟩;rw[mm,lm,mr];refine m.grow ?_ ((T.oa.drop ia).take k) λz d v hv=>?_
 ·conv=>lhs;rw[Ro a.toList ia k]
  rw[dE]
 ·rcases fh.mp hv with hv|hv
  ·exact ax (h z d) (l v hv)
  ·obtain⟨j,f,e⟩:=oG hv;exact ax (h z d) (T.ob.at o e f)
theorem ML.galB(T:tS R a.toList b.toList)(m:ML R all out.toList (a.toList.drop ia++b.toList.drop ib))(o:a.toList[ia]?=some x)(c:ot true R x b ib (b.size-ib) k):ML R all (out++b.extract ib (ib+k)).toList (a.toList.drop ia++b.toList.drop (ib+k))/\∀z∈b.toList.drop (ib+k),R x<=R z:=by
 have l:∀z∈b.toList.drop (ib+k),R x<=R z:=λz d=>by
  obtain⟨j,f,e⟩:=oG d;have i:j<b.size:=by have:=(cK.mp e).1;simpa using this
  have n:=ax (fK _ _) f;have:=c.2.2 (j-ib) (qx f) (pi n i);rw[iG n,iQ e] at this;exact this
 have h:∀z∈(b.toList.drop ib).take k,R z<=R x:=λz d=>by
  obtain⟨j,f,e⟩:=kz d;rw[qp] at e;have:=c.2.1 j f;rw[iQ e] at this;exact dL this
 refine⟨?_,l⟩;rw[mm,lm,mr];refine m.grow ?_ ((T.ob.drop ib).take k) λz d v hv=>?_
 ·conv=>lhs;rw[Ro b.toList ib k]
  rw[←dE,←dE];exact DL _ zB
 ·rcases fh.mp hv with hv|hv
  ·obtain⟨j,f,e⟩:=oG hv;exact ax (h z d) (T.oa.at o e f)
  ·exact ax (h z d) (l v hv)
end
theorem ML.done{R:Keyed->Nat}{a:Array Keyed}{b:Array Keyed}{c:Array Keyed}{d:Nat}{e:Nat}(T:tS R a.toList b.toList)(m:ML R (a.toList++b.toList) c.toList (a.toList.drop d++b.toList.drop e))(h:d=a.size\/e=b.size):Fin R a.toList b.toList (c++a.extract d++b.extract e):=by
 unfold Fin;rw[mm,mm,BX,BX,dE];refine m.fin (.refl _) ?_;rcases h with rfl|rfl
 ·rw[DK '%',o9];exact T.ob.drop _
 ·rw[DK (as:=b.toList) '%',lD];exact T.oa.drop _
theorem ML.lastA{R:Keyed->Nat}{a:Array Keyed}{b:Array Keyed}{c:Array Keyed}{f:Nat}{g:Nat}(T:tS R a.toList b.toList)(m:ML R (a.toList++b.toList) c.toList (a.toList.drop f++b.toList.drop g))(h:f+1=a.size):Fin R a.toList b.toList (c++b.extract g++a.extract f):=by
 unfold Fin;rw[mm,mm,BX,BX,dE];refine m.fin zB (uT.mpr ⟨T.ob.drop _,T.oa.drop _,λv l z k=>?_⟩);obtain⟨j,i,e⟩:=oG k;have d:j<a.size:=by have:=(cK.mp e).1;simpa using this
 have:j=a.toList.length-1:=kC (lF (by rw[gm];exact d)) (by rw[gm,←h];exact i);subst this;exact T.last z e v (qv l)
noncomputable def zR:Nat->StateT SortSt Sem Unit:=sortPriv% PySem.Builtin.setMinGallop
section
variable {prog:Program}{w:World}{A:Around}{E:Value->Shared->Prop}{s:Shared}
theorem BS{g:Nat}{au:SortSt}{Q:Unit->SortSt->Prop}(h:∀a,jI au a->Q () a):wpS '*' A E s (zR g) Q au:=
 mI (h _ ⟨rfl,rfl,rfl,rfl⟩)
end
section
variable {prog:Program}{w:World}{A:Around}{E:Value->Shared->Prop}{s:Shared}{y:Keyed}{x:Keyed}
theorem wy{a:Type}{K:Nat->StateT SortSt Sem a}{Q:a->SortSt->Prop}{au:SortSt}(h:∀v,wpS '*' A E s (K v) Q au):∀y x:Nat,wpS '*' A E s (if y > 1 then K x else K y) Q au:=λy x=>by
 by_cases e:y > 1
 ·rw[if_pos e];exact h x
 ·rw[if_neg e];exact h y
end
section
variable {prog:Program}{w:World}{A:Around}{E:Value->Shared->Prop}{s:Shared}
theorem ww{b:Type}{c a:Prop}[Decidable c][Decidable a]{X Y f:StateT SortSt Sem b}{Q:b->SortSt->Prop}{au:SortSt}(g:¬c->f=Y)(h:c->a->wpS '*' A E s X Q au)(d:(c->¬a)->wpS '*' A E s Y Q au):wpS '*' A E s (if c then(if a then X else Y) else f) Q au:=by
 by_cases e:c
 ·rw[if_pos e];by_cases e2:a
  ·rw[if_pos e2];exact h e e2
  ·rw[if_neg e2];exact d λ_=>e2
 ·rw[if_neg e,g e];exact d λz=>absurd z e
theorem xD{f:Type}{c b a:Prop}[Decidable c][Decidable b][Decidable a]{X d Y h:StateT SortSt Sem f}{Q:f->SortSt->Prop}{au:SortSt}(j:¬c->h=Y)(k:c->b->wpS '*' A E s X Q au)(i:c->a->wpS '*' A E s d Q au)(g:(c->¬b/\¬a)->wpS '*' A E s Y Q au):wpS '*' A E s (if c then(if b then X else if a then d else Y) else h) Q au:=by
 by_cases e:c
 ·rw[if_pos e];by_cases e2:b
  ·rw[if_pos e2];exact k e e2
  ·rw[if_neg e2];by_cases e3:a
   ·rw[if_pos e3];exact i e e3
   ·rw[if_neg e3];exact g λ_=>⟨e2,e3⟩
 ·rw[if_neg e,j e];exact g λz=>absurd z e
theorem wx{d:Type}{c a:Prop}[Decidable c][Decidable a]{X b Y:StateT SortSt Sem d}{Q:d->SortSt->Prop}{au:SortSt}(h:c->wpS '*' A E s X Q au)(g:a->wpS '*' A E s b Q au)(f:¬c->¬a->wpS '*' A E s Y Q au):wpS '*' A E s (if c then X else if a then b else Y) Q au:=by
 by_cases e:c
 ·rw[if_pos e];exact h e
 ·rw[if_neg e];by_cases e2:a
  ·rw[if_pos e2];exact g e2
  ·rw[if_neg e2];exact f e e2
theorem fM{a:Type}{c:Prop}[Decidable c]{X Y:StateT SortSt Sem a}{Q:a->SortSt->Prop}{au:SortSt}(d:c->wpS '*' A E s X Q au)(b:¬c->wpS '*' A E s Y Q au):wpS '*' A E s (if c then X else Y) Q au:=by
 by_cases e:c
 ·rw[if_pos e];exact d e
 ·rw[if_neg e];exact b e
theorem eZ{b:Type}{a:Array Keyed}{i:Nat}{x:Keyed}{f:Keyed->StateT SortSt Sem b}{Q:b->SortSt->Prop}{au:SortSt}(e:a[i]?=some x)(h:wpS '*' A E s (f x) Q au):wpS '*' A E s (elem' a i >>= f) Q au:=bf (pU e h)
end
section
variable {prog:Program}{w:World}{A:Around}{E:Value->Shared->Prop}{s:Shared}{κ:SortKind}{a₀:Array Keyed}{R:Keyed->Nat}
theorem xE{a:Type}{x y:Keyed}{f:Option Bool->StateT SortSt Sem a}{Q:a->SortSt->Prop}{au:SortSt}(O:k6 prog w A s κ a₀ R)(b:kindOf au=κ)(d:x∈a₀.toList)(e:y∈a₀.toList)(h:R x<R y->wpS '*' A E s (f (some true)) Q au)(g:R y<=R x->wpS '*' A E s (f (some false)) Q au):wpS '*' A E s (lt' x y >>= f) Q au:=by
 refine bf (w_lt O b d e ?_);by_cases c:R x<R y
 ·rw[d5 c];exact h c
 ·rw[dj c];exact g (fZ c)
end
inductive Dn {β:Type}(R:Keyed->Nat) (a b:Array Keyed) (au:SortSt):Option (Array Keyed)×β->SortSt->Prop where
 |mk {r:Array Keyed}{z:β}{st':SortSt}(sm:jI au st') (f:Fin R a.toList b.toList r):Dn R a b au (some r,z) st'
section
variable {out:Array Keyed}{ia:Nat}{ib:Nat}
inductive L1 (R:Keyed->Nat) (a b:Array Keyed) (au:SortSt) (x:Nat):Option (Array Keyed)×Array Keyed×Nat×Nat×Nat->SortSt->Prop where
 |mk {out:Array Keyed}{ia ib g:Nat}{st':SortSt}(sm:jI au st') (m:ML R (a.toList++b.toList) out.toList (a.toList.drop ia++b.toList.drop ib)) (ha:ia+1<a.size) (hb:ib<b.size) (hx:x<ia+ib):L1 R a b au x (none,out,ia,ib,g) st'
inductive PK (R:Keyed->Nat) (a b:Array Keyed) (au:SortSt) (x:Nat):Option (Array Keyed)×Array Keyed×Nat×Nat×Nat×Nat->SortSt->Prop where
 |mk {out:Array Keyed}{ia ib ac bc:Nat}{st':SortSt}(sm:jI au st') (m:ML R (a.toList++b.toList) out.toList (a.toList.drop ia++b.toList.drop ib)) (ha:ia+1<a.size) (hb:ib<b.size) (hx:x<=ia+ib):PK R a b au x (none,out,ia,ib,ac,bc) st'
inductive L3 (R:Keyed->Nat) (a b:Array Keyed) (au:SortSt) (x:Nat):Option (Array Keyed)×Array Keyed×Nat×Nat×Nat×Nat×Nat->SortSt->Prop where
 |mk {out:Array Keyed}{ia ib g ac bc:Nat}{st':SortSt}(sm:jI au st') (m:ML R (a.toList++b.toList) out.toList (a.toList.drop ia++b.toList.drop ib)) (ha:ia+1<a.size) (hb:ib<b.size) (hx:x<=ia+ib):L3 R a b au x (none,out,ia,ib,g,ac,bc) st'
end
section
variable {prog:Program}{w:World}{A:Around}{E:Value->Shared->Prop}{s:Shared}{κ:SortKind}{a₀:Array Keyed}{R:Keyed->Nat}{a:Array Keyed}{b:Array Keyed}{out:Array Keyed}{ia:Nat}{ib:Nat}{k:Nat}{y:Keyed}{x:Keyed}
theorem TB{au:SortSt}{Q:Array Keyed->SortSt->Prop}(O:k6 prog w A s κ a₀ R)(hk:kindOf au=κ)(ma:∀x∈a.toList,x∈a₀.toList)(mb:∀x∈b.toList,x∈a₀.toList)(T:tS R a.toList b.toList)(ha:1<=a.size)(hb:1<=b.size)
  (b7:∀y,b.toList[0]?=some y->∀x∈a.toList,R y<=R x)(h:∀r C,jI au C->Fin R a.toList b.toList r->Q r C):wpS '*' A E s (nr a b) Q au:=by
 have u:∀(i:Nat) (J:i<a.size),a[i]?=some a[i]/\a.toList[i]?=some a[i]/\a[i]∈a₀.toList:=λi J=>⟨getElem?_pos a i J,by rw[iH];exact getElem?_pos a i J,ma _ '%'⟩
 have o:∀(i:Nat) (J:i<b.size),b[i]?=some b[i]/\b.toList[i]?=some b[i]/\b[i]∈a₀.toList:=λi J=>⟨getElem?_pos b i J,by rw[iH];exact getElem?_pos b i J,mb _ '%'⟩
 have c0:∀i,ff R a i (i+(a.size-i)):=λi p q a1 a2 a3=>by
  have hq:q<a.size:=by lia
  have e1:=(u p '!').2.1;have e2:=(u q hq).2.1;rw[iQ e1,iQ e2];exact T.oa.at e1 e2 a2
 have b6:∀i,ff R b i (i+(b.size-i)):=λi p q a1 a2 a3=>by
  have hq:q<b.size:=by lia
  have e1:=(o p '!').2.1;have e2:=(o q hq).2.1;rw[iQ e1,iQ e2];exact T.ob.at e1 e2 a2
 obtain⟨y0,f0,f1⟩:∃x,b[0]?=some x/\b.toList[0]?=some x:=⟨_,(o 0 hb).1,(o 0 hb).2.1⟩
 have start:ML R (a.toList++b.toList) (#[y0]:Array Keyed).toList (a.toList.drop 0++b.toList.drop 1):=by
  have z:ML R (a.toList++b.toList) (#[]:Array Keyed).toList (a.toList.drop 0++b.toList.drop 0):=⟨by simp,List.Pairwise.nil,by simp⟩
  exact z.pushB T f1 λx hx=>b7 y0 f1 x (qv hx)
 refine bf (p9 (mH ⟨rfl,bf (pU f0 (wx (λc1=>?_) (λc2=>?_) λc1 c2=>?_))⟩))
 ·exact bm (h _ _ (.refl _) (start.done T (.inr (by simpa using c1))))
 ·exact bm (h _ _ (.refl _) (start.lastA T (by simpa using c2)))
 simp only[me] at c1 c2;refine bf (lC ?_);refine bf (ji (iW (I:=L1 R a b au) (Q:=Dn R a b au) ?_ ?_ (.mk (.refl _) start '!' '!' '!')) ?_)
 ·rintro x c a0 x1 x2 @⟨out,ia,ib,g,a0,a4,m,b0,b5,hx⟩;dsimp only;refine bf (ji (iW (I:=λ_=>PK R a b au (ia+ib)) (Q:=λc C=>Dn R a b au c C\/PK R a b au (ia+ib) c C) ?_ ?_ (.mk a4 m b0 b5 (aY _))) ?_)
  ·rintro x' c a5 _ _ @⟨out,l,ib',ac,bc,a5,t,m,n,d,hp⟩;dsimp only;have ea:=(u l (ph n)).1;have H:=(u l (ph n)).2.1;have a8:=(u l (ph n)).2.2;have eb:=(o ib' d).1;have P:=(o ib' d).2.1;have a7:=(o ib' d).2.2;refine eZ eb (eZ ea (xE O (t.kind.trans hk) a7 a8 (λcw=>eZ eb ?_) λcw=>eZ ea ?_))
   ·skip
    have m2:=m.pushB T P λz hz=>by
     obtain⟨j,hj,e⟩:=oG hz;exact ax (dL cw) (T.oa.at H e hj)
    refine fM (λc5=>bm (.inl (.mk t (m2.done T (.inr (eq_of_beq c5)))))) λc5=>?_
    rw[me] at c5;have b1:ib'+1<b.size:=kb d c5;have X:ia+ib<=l+(ib'+1):=qk hp;exact fM (λ_=>bm (.inr (.mk t m2 n b1 X))) λ_=>bm (.mk t m2 n b1 X)
   ·skip
    have m2:=m.pushA T H λz hz=>by
     obtain⟨j,hj,e⟩:=oG hz;exact ax cw (T.ob.at P e hj)
    refine fM (λc5=>bm (.inl (.mk t (m2.lastA T (eq_of_beq c5))))) λc5=>?_
    rw[me] at c5;have b2:l+1+1<a.size:=kb n c5;have X:ia+ib<=l+1+ib':=Nat.succ_add l ib' ▸ qk hp
    exact fM (λ_=>bm (.inr (.mk t m2 b2 d X))) λ_=>bm (.mk t m2 b2 d X)
  ·exact λc a5 k=>.inr k
  ·rintro c a5 (⟨t,f⟩|@⟨out,l,ib',ac,bc,a5,t,m,n,d,hp⟩)
   ·exact bm (.mk t f)
   ·dsimp only;refine bf (p9 (mH ⟨rfl,?_⟩));refine bf (ji (iW (I:=λx'=>L3 R a b au (ia+ib+x')) (Q:=λc C=>Dn R a b au c C\/L3 R a b au (ia+ib+1) c C) ?_ ?_ (.mk t m n d hp)) ?_)
    ·rintro x' c a6 _ c3 @⟨out,l,ib',g',ac,bc,a6,G,m,n,d,hp⟩;dsimp only;have eb:=(o ib' d).1;have P:=(o ib' d).2.1;have a7:=(o ib' d).2.2;generalize g'-1=g1;generalize g'=y;revert g1;revert y
     refine wy ?_;intro gg;refine bf (BS λb9 sg=>?_);have v:=G.trans sg;refine eZ eb (bf (uv O (v.kind.trans hk) a7 (λi J=>⟨_,(u (l+i) (oj J)).1,(u (l+i) (oj J)).2.2⟩) (qm (ph n)) (c0 l) λk1 S=>?_));have m5:=(m.galA T P S).1;have u5:=(m.galA T P S).2;have d1:=S.1;dsimp only;refine xD (λc6=>?_) (λc6 c7=>?_) (λc6 c8=>?_) λhh=>?_
     ·have z:k1=0:=Nat.le_zero.mp (fZ c6);subst z;simp only[uE,OH (uG _ _),Oi]
     ·exact bm (.inl (.mk v (m5.lastA T (eq_of_beq c7))))
     ·exact bm (.inl (.mk v (m5.done T (.inl (eq_of_beq c8)))))
     have Y:l+k1+1<a.size:=by
      by_cases c6:k1 > 0
      ·have:=hh c6;simp at this;lia
      ·lia
     have b8:ia+ib+x'<=l+k1+ib':=ax hp (Nat.add_le_add_right (fK _ _) _);clear hh;generalize l+k1=ia5 at m5 u5 Y b8 ⊢;generalize out++a.extract l ia5=out5 at m5 ⊢;have m6:=m5.pushB T P u5;have ea:=(u _ (ph Y)).1;have H:=(u _ (ph Y)).2.1;have a8:=(u _ (ph Y)).2.2;refine eZ eb (fM (λc9=>bm (.inl (.mk v (m6.done T (.inr (eq_of_beq c9)))))) λc9=>eZ ea ?_);rw[me] at c9;refine bf (uv O (v.kind.trans hk) a8 (λi J=>⟨_,(o (ib'+1+i) (oj J)).1,(o (ib'+1+i) (oj J)).2.2⟩) (qm (kb d c9)) (b6 (ib'+1)) λk2 U=>?_);have m7:=(m6.galB T H U).1;have u7:=(m6.galB T H U).2;have c4:=U.1;dsimp only;refine ww (λd6=>?_) (λd6 d7=>?_) λhh=>?_
     ·have z2:k2=0:=Nat.le_zero.mp (fZ d6);subst z2;simp only[uE,OH (uG _ _),Oi]
     ·exact bm (.inl (.mk v (m7.done T (.inr (eq_of_beq d7)))))
     have d0:ib'+1+k2≠b.size:=by
      by_cases d6:k2 > 0
      ·have:=hh d6;simp at this;lia
      ·lia
     have m8:=m7.pushA T H u7;refine eZ ea (fM (λd8=>bm (.inl (.mk v (m8.lastA T (eq_of_beq d8))))) λd8=>?_);rw[me] at d8;have b4:ia5+1+1<a.size:=kb Y d8;have a9:ib'+1+k2<b.size:=by lia
     have b3:ia+ib+(x'+1)<=ia5+1+(ib'+1+k2):=by lia
     exact fM (λ_=>bm (.inr (.mk v m8 b4 a9 (ax (ii (NY 1 x') _) b3)))) λ_=>bm (.mk v m8 b4 a9 b3)
    ·rintro c a6 ⟨G,m,n,d,hp⟩;exact .inr (.mk G m n d '!')
    ·rintro c a6 (⟨G,f⟩|⟨G,m,n,d,hp⟩)
     ·exact bm (.mk G f)
     ·exact bf (BS λb9 sg=>bm (.mk (G.trans sg) m n d (df (Nat.succ_lt_succ hx) hp)))
 ·rintro c a0 ⟨a4,m,b0,b5,hx⟩;lia
 ·rintro c a0 ⟨a4,f⟩;exact bm (h _ a0 a4 f)
end
structure MH (R:Keyed->Nat) (all out rest:List Keyed):Prop where
 perm:(rest++out.reverse).Perm all
 ord:Ord R out.reverse
 le:∀x∈rest,∀y∈out,R x<=R y
theorem MH.grow{R:Keyed->Nat}{a b:List Keyed}(m:MH R all out a)(p:a.Perm (rest'++b.reverse))(o:Ord R b.reverse)(h:∀x∈rest',∀y∈b,R x<=R y):MH R all (out++b) rest':=by
 refine⟨?_,?_,λx c y hy=>?_⟩
 ·rw[Dz,←dE];exact(DL _ p.symm).trans m.perm
 ·rw[Dz];exact uT.mpr ⟨o,m.ord,λx c y hy=>m.le x (p.mem_iff.mpr (gE _ c)) y (Dl.mp hy)⟩
 ·rcases fh.mp hy with hy|hy
  ·exact m.le x (p.mem_iff.mpr (uU _ c)) y hy
  ·exact h x c y hy
theorem MH.fin{R:Keyed->Nat}{b a:List Keyed}(m:MH R all out b)(p:a.Perm b)(o:Ord R a):(a++out.reverse).Perm all/\Ord R (a++out.reverse):=
 ⟨(DL _ p).trans m.perm,uT.mpr ⟨o,m.ord,λx c y d=>m.le x (p.mem_iff.mp c) y (Dl.mp d)⟩⟩
theorem RV{l:List Keyed}{i:Nat}{x:Keyed}(h:l[i]?=some x):l.take (i+1)=l.take i++[x]:=by
 obtain⟨a,rfl⟩:=cK.mp h;exact OI a
structure km (R:Keyed->Nat) (la lb:List Keyed):Prop where
 oa:Ord R la
 ob:Ord R lb
 first:∀y,lb[0]?=some y->∀x∈la,R y<=R x
section
variable {R:Keyed->Nat}{la:List Keyed}{lb:List Keyed}{all:List Keyed}{out:Array Keyed}{na:Nat}{nb:Nat}
theorem MH.pushB(T:km R la lb)(m:MH R all out.toList (la.take na++lb.take (nb+1))){y:Keyed}(b:lb[nb]?=some y)(h:∀z∈la.take na,R z<=R y):MH R all (out.push y).toList (la.take na++lb.take nb):=by
 rw[qj];refine m.grow ?_ '%' λz hz w a=>?_
 ·rw[RV b];simp
 ·simp at a;subst a
  rcases fh.mp hz with hz|hz
  ·exact h z hz
  ·obtain⟨j,c,e⟩:=kz hz;exact T.ob.at e b '!'
theorem MH.pushA(T:km R la lb)(m:MH R all out.toList (la.take (na+1)++lb.take nb)){x:Keyed}(b:la[na]?=some x)(h:∀z∈lb.take nb,R z<=R x):MH R all (out.push x).toList (la.take na++lb.take nb):=by
 rw[qj];refine m.grow ?_ '%' λz hz w a=>?_
 ·rw[RV b];simp only[List.reverse_singleton,dE];exact zC _ zB
 ·simp at a;subst a
  rcases fh.mp hz with hz|hz
  ·obtain⟨j,c,e⟩:=kz hz;exact T.oa.at e b '!'
  ·exact h z hz
end
theorem P8(l:List Keyed) (h:k<=n):l.take n=l.take k++(l.drop k).take (n-k):=by
 conv=>lhs;rw[show n=k+(n-k) by lia,List.take_add]
section
variable {R:Keyed->Nat}{a:Array Keyed}{b:Array Keyed}{out:Array Keyed}{na:Nat}{nb:Nat}{k:Nat}
theorem MH.galA(T:km R a.toList b.toList)(m:MH R all out.toList (a.toList.take na++b.toList.take (nb+1)))(l:b.toList[nb]?=some y)(n:na<=a.size)(c:ot false R y a 0 na k):MH R all (out++(a.extract k na).reverse).toList (a.toList.take k++b.toList.take (nb+1))/\∀z∈a.toList.take k,R z<=R y:=by
 have g:∀z∈a.toList.take k,R z<=R y:=λz d=>by
  obtain⟨j,h,e⟩:=kz d;have:=c.2.1 j h;rw[jS,iQ e] at this;exact this
 have i:∀z∈(a.toList.drop k).take (na-k),R y<=R z:=λz d=>by
  obtain⟨j,h,e⟩:=kz d;rw[qp] at e;have:=c.2.2 (k+j) '!' '!';rw[jS,iQ e] at this;exact dL this
 refine⟨?_,g⟩;rw[mm,DD,lm];refine m.grow ?_ (by rw[sQ];exact(T.oa.drop k).take _) λv hv z d=>?_
 ·rw[sQ,P8 a.toList c.1,dE,dE];exact zC _ zB
 ·have d:=i z (Dl.mp d);rcases fh.mp hv with hv|hv
  ·exact ax (g v hv) d
  ·obtain⟨j,h,e⟩:=kz hv;exact ax (T.ob.at e l '!') d
theorem MH.galB(T:km R a.toList b.toList)(m:MH R all out.toList (a.toList.take (na+1)++b.toList.take nb))(l:a.toList[na]?=some x)(n:nb<=b.size)(c:ot true R x b 0 nb k):MH R all (out++(b.extract k nb).reverse).toList (a.toList.take (na+1)++b.toList.take k)/\∀z∈b.toList.take k,R z<=R x:=by
 have g:∀z∈b.toList.take k,R z<=R x:=λz d=>by
  obtain⟨j,h,e⟩:=kz d;have:=c.2.1 j h;rw[jS,iQ e] at this;exact dL this
 have i:∀z∈(b.toList.drop k).take (nb-k),R x<=R z:=λz d=>by
  obtain⟨j,h,e⟩:=kz d;rw[qp] at e;have:=c.2.2 (k+j) '!' '!';rw[jS,iQ e] at this;exact this
 refine⟨?_,g⟩;rw[mm,DD,lm];refine m.grow ?_ (by rw[sQ];exact(T.ob.drop k).take _) λv hv z d=>?_
 ·rw[sQ,P8 b.toList c.1,dE]
 ·have d:=i z (Dl.mp d);rcases fh.mp hv with hv|hv
  ·obtain⟨j,h,e⟩:=kz hv;exact ax (T.oa.at e l '!') d
  ·exact ax (g v hv) d
end
theorem Ck(a:Array Keyed)(n:Nat):(a.extract 0 n).toList=a.toList.take n:=by
 rw[lm,List.drop_zero,Nat.sub_zero]
theorem MH.done{R:Keyed->Nat}{a:Array Keyed}{b:Array Keyed}{c:Array Keyed}{d:Nat}{nb:Nat}(T:km R a.toList b.toList)(m:MH R (a.toList++b.toList) c.toList (a.toList.take d++b.toList.take nb))(h:d=0\/nb=0):Fin R a.toList b.toList (a.extract 0 d++b.extract 0 nb++c.reverse):=by
 unfold Fin;rw[mm,mm,Ck,Ck,DD];refine m.fin (.refl _) ?_;rcases h with rfl|rfl
 ·rw[List.take_zero,o9];exact T.ob.take _
 ·rw[List.take_zero,lD];exact T.oa.take _
theorem MH.firstB{R:Keyed->Nat}{a:Array Keyed}{b:Array Keyed}{c:Array Keyed}{d:Nat}{nb:Nat}(T:km R a.toList b.toList)(m:MH R (a.toList++b.toList) c.toList (a.toList.take d++b.toList.take nb))(h:nb=1):Fin R a.toList b.toList (b.extract 0 nb++a.extract 0 d++c.reverse):=by
 unfold Fin;rw[mm,mm,Ck,Ck,DD];refine m.fin zB (uT.mpr ⟨T.ob.take _,T.oa.take _,λv g z f=>?_⟩);obtain⟨j,i,e⟩:=kz g;have:j=0:=by lia
 subst this;exact T.first v e z (mR f)
section
variable {out:Array Keyed}{na:Nat}{nb:Nat}
inductive H1 (R:Keyed->Nat) (a b:Array Keyed) (au:SortSt) (x:Nat):Option (Array Keyed)×Nat×Nat×Array Keyed×Nat->SortSt->Prop where
 |mk {na nb:Nat}{out:Array Keyed}{g:Nat}{st':SortSt}(sm:jI au st') (m:MH R (a.toList++b.toList) out.toList (a.toList.take na++b.toList.take nb)) (a1:1<=na) (a2:na<=a.size) (b1:2<=nb) (b2:nb<=b.size) (hx:x+na+nb<a.size+b.size):H1 R a b au x (none,na,nb,out,g) st'
inductive H2 (R:Keyed->Nat) (a b:Array Keyed) (au:SortSt) (x:Nat):Option (Array Keyed)×Nat×Nat×Array Keyed×Nat×Nat->SortSt->Prop where
 |mk {na nb:Nat}{out:Array Keyed}{ac bc:Nat}{st':SortSt}(sm:jI au st') (m:MH R (a.toList++b.toList) out.toList (a.toList.take na++b.toList.take nb)) (a1:1<=na) (a2:na<=a.size) (b1:2<=nb) (b2:nb<=b.size) (hx:na+nb<=x):H2 R a b au x (none,na,nb,out,ac,bc) st'
inductive H3 (R:Keyed->Nat) (a b:Array Keyed) (au:SortSt) (x y:Nat):Option (Array Keyed)×Nat×Nat×Array Keyed×Nat×Nat×Nat->SortSt->Prop where
 |mk {na nb:Nat}{out:Array Keyed}{g ac bc:Nat}{st':SortSt}(sm:jI au st') (m:MH R (a.toList++b.toList) out.toList (a.toList.take na++b.toList.take nb)) (a1:1<=na) (a2:na<=a.size) (b1:2<=nb) (b2:nb<=b.size) (hx:y+na+nb<=x):H3 R a b au x y (none,na,nb,out,g,ac,bc) st'
end
section
variable {prog:Program}{w:World}{A:Around}{E:Value->Shared->Prop}{s:Shared}{κ:SortKind}{a₀:Array Keyed}{R:Keyed->Nat}{a:Array Keyed}{b:Array Keyed}{out:Array Keyed}{na:Nat}{nb:Nat}{k:Nat}{y:Keyed}{x:Keyed}
theorem Tz{au:SortSt}{Q:Array Keyed->SortSt->Prop}(O:k6 prog w A s κ a₀ R)(hk:kindOf au=κ)(ma:∀x∈a.toList,x∈a₀.toList)(mb:∀x∈b.toList,x∈a₀.toList)(T:km R a.toList b.toList)(ha:1<=a.size)(hb:1<=b.size)
  (c0:∀x,a.toList[a.size-1]?=some x->∀y∈b.toList,R y<=R x)(h:∀r v,jI au v->Fin R a.toList b.toList r->Q r v):wpS '*' A E s (nt a b) Q au:=by
 have d:∀(i:Nat) (hi:i<a.size),a[i]?=some a[i]/\a.toList[i]?=some a[i]/\a[i]∈a₀.toList:=λi hi=>⟨getElem?_pos a i hi,by rw[iH];exact getElem?_pos a i hi,ma _ '%'⟩
 have o:∀(i:Nat) (hi:i<b.size),b[i]?=some b[i]/\b.toList[i]?=some b[i]/\b[i]∈a₀.toList:=λi hi=>⟨getElem?_pos b i hi,by rw[iH];exact getElem?_pos b i hi,mb _ '%'⟩
 have c3:∀n,n<=a.size->ff R a 0 (0+n):=λn hn p q a1 a2 X=>by
  have hq:q<a.size:=df X (ax (ig (jS n)) hn);have e1:=(d p (jv a2 hq)).2.1;have e2:=(d q hq).2.1;rw[iQ e1,iQ e2];exact T.oa.at e1 e2 a2
 have b7:∀n,n<=b.size->ff R b 0 (0+n):=λn hn p q a1 a2 X=>by
  have hq:q<b.size:=df X (ax (ig (jS n)) hn);have e1:=(o p (jv a2 hq)).2.1;have e2:=(o q hq).2.1;rw[iQ e1,iQ e2];exact T.ob.at e1 e2 a2
 obtain⟨x0,f0,f1⟩:∃x,a[a.size-1]?=some x/\a.toList[a.size-1]?=some x:=⟨_,(d (a.size-1) (oX ha Nat.one_pos)).1,(d (a.size-1) (oX ha Nat.one_pos)).2.1⟩
 have start:MH R (a.toList++b.toList) (#[x0]:Array Keyed).toList (a.toList.take (a.size-1)++b.toList.take b.size):=by
  have z:MH R (a.toList++b.toList) (#[]:Array Keyed).toList (a.toList.take (a.size-1+1)++b.toList.take b.size):=by
   refine⟨?_,List.Pairwise.nil,by simp⟩;rw[uN ha,sT '%',sT '%'];simp
  exact z.pushA T f1 λy hy=>c0 x0 f1 y (mR hy)
 refine bf (p9 (mH ⟨rfl,bf (pU f0 (wx (λc1=>?_) (λc2=>?_) λc1 c2=>?_))⟩))
 ·exact bm (h _ _ (.refl _) (start.done T (.inl (by simpa using c1))))
 ·exact bm (h _ _ (.refl _) (start.firstB T (by simpa using c2)))
 simp only[me] at c1 c2;refine bf (lC ?_);refine bf (ji (iW (I:=H1 R a b au) (Q:=Dn R a b au) ?_ ?_ (.mk (.refl _) start '!' '!' '!' (aY _) '!')) ?_)
 ·rintro x c a8 x1 x2 @⟨na,nb,out,g,a8,a9,m,a1,a2,b1,b2,hx⟩;dsimp only;refine bf (ji (iW (I:=λ_=>H2 R a b au (na+nb)) (Q:=λc v=>Dn R a b au c v\/H2 R a b au (na+nb) c v) ?_ ?_ (.mk a9 m a1 a2 b1 b2 (aY _))) ?_)
  ·rintro x' c b0 _ _ @⟨na',C,out,ac,bc,b0,l,m,Y,G,U,t,hp⟩;obtain⟨p,rfl⟩:∃p,na'=p+1:=⟨na'-1,(uN Y).symm⟩
   obtain⟨q,rfl⟩:∃q,C=q+1:=⟨C-1,(uN (ka U)).symm⟩
   dsimp only;have ea:=(d p G).1;have P:=(d p G).2.1;have b4:=(d p G).2.2;have eb:=(o q t).1;have S:=(o q t).2.1;have b3:=(o q t).2.2;refine eZ eb (eZ ea (xE O (l.kind.trans hk) b3 b4 (λcw=>eZ ea ?_) λcw=>eZ eb ?_))
   ·skip
    have m2:=m.pushA T P λz hz=>by
     obtain⟨j,hj,e⟩:=kz hz;exact ax (T.ob.at e S (jT hj)) (dL cw)
    refine fM (λc5=>bm (.inl (.mk l (m2.done T (.inl (eq_of_beq c5)))))) λc5=>?_
    rw[me] at c5;have X:1<=p:=Oh c5;have a4:p<=a.size:=ka G;have a5:p+(q+1)<=na+nb:=ax (Nat.add_le_add_right (sj p) _) hp;exact fM (λ_=>bm (.inr (.mk l m2 X a4 U t a5))) λ_=>bm (.mk l m2 X a4 U t a5)
   ·skip
    have m2:=m.pushB T S λz hz=>by
     obtain⟨j,hj,e⟩:=kz hz;exact ax (T.oa.at e P (jT hj)) cw
    refine fM (λc5=>bm (.inl (.mk l (m2.firstB T (eq_of_beq c5))))) λc5=>?_
    rw[me] at c5;have X:2<=q:=kb (Nat.le_of_succ_le_succ U) (cO c5);have a4:q<=b.size:=ka t;have a5:p+1+q<=na+nb:=ka hp;exact fM (λ_=>bm (.inr (.mk l m2 Y G X a4 a5))) λ_=>bm (.mk l m2 Y G X a4 a5)
  ·exact λc b0 k=>.inr k
  ·rintro c b0 (⟨l,f⟩|@⟨na',C,out,ac,bc,b0,l,m,Y,G,U,t,hp⟩)
   ·exact bm (.mk l f)
   ·dsimp only;refine bf (p9 (mH ⟨rfl,?_⟩));refine bf (ji (iW (I:=H3 R a b au (na+nb)) (Q:=λc v=>Dn R a b au c v\/H3 R a b au (na+nb) 1 c v) ?_ ?_ (.mk l m Y G U t (by rw[jS];exact hp))) ?_)
    ·rintro x' c a7 _ c4 @⟨na',C,out,g',ac,bc,a7,H,m,Y,G,U,t,hp⟩;obtain⟨q,rfl⟩:∃q,C=q+1:=⟨C-1,(uN (ka U)).symm⟩
     dsimp only;have eb:=(o q t).1;have S:=(o q t).2.1;have b3:=(o q t).2.2;generalize g'-1=Y;generalize g'=y;revert Y;revert y
     refine wy ?_;intro gg;refine bf (BS λb9 sg=>?_);have u:=H.trans sg;refine eZ eb (bf (uv O (u.kind.trans hk) b3 (λi hi=>⟨_,(d (0+i) '!').1,(d (0+i) '!').2.2⟩) '!' (c3 na' G) λk1 J=>?_));have m5:=(m.galA T S G J).1;have u5:=(m.galA T S G J).2;have b6:=J.1;dsimp only;refine ww (λc6=>?_) (λc6 c7=>?_) λhh=>?_
     ·have z:k1=na':=by lia
      subst z;rw[show out++(a.extract k1 k1).reverse=out by simp[uG]]
     ·exact bm (.inl (.mk u (m5.done T (.inl (eq_of_beq c7)))))
     have g5:1<=k1:=by
      by_cases c6:na'-k1 > 0
      ·have:=hh c6;simp at this;lia
      ·lia
     have g6:k1<=a.size:=ax b6 G;have c8:x'+k1+(q+1)<=na+nb:=by lia
     clear hh b6 J;generalize out++(a.extract k1 na').reverse=out5 at m5 ⊢;obtain⟨p,rfl⟩:∃p,k1=p+1:=⟨k1-1,(uN g5).symm⟩
     simp only[Og];have m6:=m5.pushB T S u5;have ea:=(d p g6).1;have P:=(d p g6).2.1;have b4:=(d p g6).2.2;refine eZ eb (fM (λc9=>bm (.inl (.mk u (m6.firstB T (eq_of_beq c9))))) λc9=>eZ ea ?_);rw[me] at c9;refine bf (uv O (u.kind.trans hk) b4 (λi hi=>⟨_,(o (0+i) '!').1,(o (0+i) '!').2.2⟩) '!' (b7 q (ka t)) λk2 a0=>?_);have m7:=(m6.galB T P (ka t) a0).1;have u7:=(m6.galB T P (ka t) a0).2;have b8:=a0.1;dsimp only;refine xD (λd6=>?_) (λd6 d7=>?_) (λd6 d9=>?_) λhh=>?_
     ·have z2:k2=q:=by lia
      subst z2;simp only[OH (ax (uG _ _) (aY _)),Array.reverse_empty,Oi]
     ·exact bm (.inl (.mk u (m7.firstB T (eq_of_beq d7))))
     ·exact bm (.inl (.mk u (m7.done T (.inr (eq_of_beq d9)))))
     have b5:2<=k2:=by
      by_cases d6:q-k2 > 0
      ·have:=hh d6;simp at this;lia
      ·lia
     have m8:=m7.pushA T P u7;refine eZ ea (fM (λd8=>bm (.inl (.mk u (m8.done T (.inl (eq_of_beq d8)))))) λd8=>?_);rw[me] at d8;have X:1<=p:=Oh d8;have a4:p<=a.size:=ka g6;have a5:k2<=b.size:=ax b8 (ka t);have a6:x'+1+p+k2<=na+nb:=by lia
     exact fM (λ_=>bm (.inr (.mk u m8 X a4 b5 a5 '!'))) λ_=>bm (.mk u m8 X a4 b5 a5 a6)
    ·rintro c a7 ⟨H,m,Y,G,U,t,hp⟩;exact .inr (.mk H m Y G U t '!')
    ·rintro c a7 (⟨H,f⟩|@⟨na',C,out,g',ac,bc,a7,H,m,Y,G,U,t,hp⟩)
     ·exact bm (.mk H f)
     ·have h9:x+1+na'+C<a.size+b.size:=by lia
      exact bf (BS λb9 sg=>bm (.mk (H.trans sg) m Y G U t h9))
 ·rintro c a8 ⟨a9,m,a1,a2,b1,b2,hx⟩;lia
 ·rintro c a8 ⟨a9,f⟩;exact bm (h _ a8 a9 f)
end
theorem ED:∀(l:List Keyed) (n b:Nat) (d:Array Keyed),b+n+l.length<=d.size->∀i,((l.zipIdx n).foldl (λa p=>a.setIfInBounds (b+p.2) p.1) d)[i]?=if b+n<=i/\i<b+n+l.length then l[i-(b+n)]? else d[i]?
 |[],n,b,d,h,i=>by
  rw[if_neg '%']
  rfl
 |x::l,n,b,d,h,i=>by
  rw[List.zipIdx_cons,sJ];rw[dm] at h;have e:b+(n+1)+l.length=b+n+(l.length+1):=Nat.succ_add_eq_add_succ (b+n) l.length;rw[ED l (n+1) b _ (by rw[Array.size_setIfInBounds];exact ax (ig e) h) i];rw[dm];by_cases c:b+(n+1)<=i/\i<b+(n+1)+l.length
  ·rw[if_pos c,if_pos ⟨ka c.1,sP c.2 e⟩,show i-(b+n)=i-(b+(n+1))+1 from(uN (qm c.1)).symm,u4]
  ·rw[if_neg c];by_cases c2:i=b+n
   ·rw[if_pos ⟨ig c2.symm,jv (ig c2) (DR (Nat.succ_pos _))⟩,c2,uF,Ox];exact Array.getElem?_setIfInBounds_self_of_lt (df (DR (Nat.succ_pos l.length)) h)
   ·rw[if_neg λz=>c ⟨kb z.1 (cO c2),sP z.2 e.symm⟩];exact Array.getElem?_setIfInBounds_ne (λz=>c2 z.symm)
theorem MB{m b:Array Keyed}(h:off+m.size<=b.size):(m.toList.zipIdx.foldl (λa p=>a.setIfInBounds (off+p.2) p.1) b).toList=b.toList.take off++m.toList++b.toList.drop (off+m.size):=by
 apply Ds;intro i;rw[iH,ED m.toList 0 off b (by simpa using h) i];simp only[uE,gm];have d:(b.toList.take off).length=off:=by rw[gC,gm];exact j9 (ax (fK _ _) h)
 by_cases c:off<=i/\i<off+m.size
 ·rw[if_pos c,dE,mw (ax (ig d) c.1),d,h8 (by rw[gm];exact pu c.1 c.2)]
 ·rw[if_neg c];by_cases c2:i<off
  ·rw[dE,h8 (sP c2 d.symm),List.getElem?_take,if_pos c2,iH]
  ·have e:off+m.size<=i:=fZ λz=>c ⟨fZ c2,z⟩
   rw[mw (by rw[dq,d,gm];exact e),qp];simp only[dq,d,gm];rw[iG e,iH]
theorem yr{R:Keyed->Nat}(d:ff R xs i j)(e:j<=xs.size):Ord R (xs.extract i j).toList:=by
 rw[lm];refine OE.mpr λp q c a b=>?_
 simp only[gC,qg,gm] at c a;simp only[List.getElem_take,List.getElem_drop,Array.getElem_toList];have:=d (i+p) (i+q) (fK _ _) (ii (dL b) i) (oj (df a (uG _ _)));rw[jf (getElem?_pos xs (i+p) (oj (df c (mj _ _)))),jf (getElem?_pos xs (i+q) (oj (df a (mj _ _))))] at this;exact this
theorem ul{a:Array Keyed}(h:x∈(a.extract i j).toList):∃q,i<=q/\q<j/\a[q]?=some x:=by
 rw[lm] at h;obtain⟨q,b,e⟩:=kz h;rw[qp,iH] at e;exact⟨i+q,fK _ _,oj b,e⟩
theorem wU{a:Array Keyed}(h:q<j-i):(a.extract i j).toList[q]?=a[i+q]?:=by
 rw[lm,List.getElem?_take,if_pos h,qp,iH]
structure Mg (R:Keyed->Nat) (xs ys:Array Keyed) (lo hi:Nat):Prop where
 perm:ys.Perm xs
 out:dZ ys xs lo hi
 up:ff R ys lo hi
theorem NE{R:Keyed->Nat}{d:Array Keyed}{b sb ea k nb':Nat}(a4:sb<=ea)(s:ea<=d.size)(x:b+k<sb)(l:sb+nb'<=ea)(a5:1<=nb')(I:ff R d b sb)(E:ff R d sb ea)
  (e0:d[sb]?=some y0)(el:d[sb-1]?=some xl)(c1:ot false R y0 d b (sb-b) k)(c2:ot true R xl d sb (ea-sb) nb')
  (f:Fin R (d.extract (b+k) sb).toList (d.extract sb (sb+nb')).toList m):Mg R d (m.toList.zipIdx.foldl (λa p=>a.setIfInBounds (b+k+p.2) p.1) d) b ea:=by
 have lx:(d.extract (b+k) sb).toList.length=sb-(b+k):=by rw[lm,gC,qg,gm];exact j9 (sR (ax a4 s) _)
 have ly:(d.extract sb (sb+nb')).toList.length=nb':=by rw[lm,gC,qg,gm,mr];exact j9 (qx (ax l s))
 have P:m.size=sb+nb'-(b+k):=by
  have:=f.1.length_eq;rw[dq,lx,ly,gm] at this;exact this.trans (Nat.sub_add_comm (dL x)).symm
 have he:b+k+m.size=sb+nb':=by rw[P];exact iG (ax (dL x) (fK _ _))
 have C:b+k+m.size<=d.size:=by rw[he];exact ax l s
 have G:=lF x;have s1:sb-1<sb:=oX (Dt x) Nat.one_pos;have g:∀i,(m.toList.zipIdx.foldl (λa p=>a.setIfInBounds (b+k+p.2) p.1) d)[i]?=if b+k<=i/\i<sb+nb' then m.toList[i-(b+k)]? else d[i]?:=λi=>by
  have:=ED m.toList 0 (b+k) d (by simpa using C) i;simp only[uE,gm] at this;rw[he] at this;exact this
 have J:∀v∈m.toList,R y0<=R v/\R v<=R xl:=λv hv=>by
  rcases fh.mp (f.1.mem_iff.mp hv) with hv|hv
  ·obtain⟨q,w,y,e⟩:=ul hv;have q0:=ax (fK _ _) w;have o:=c1.2.2 (q-b) (qx w) (pi q0 y);rw[iG q0,jf e] at o;have t:=I q (sb-1) q0 (lF y) s1;rw[jf e,jf el] at t;have Y:R y0<R v:=o;exact⟨dL Y,t⟩
  ·obtain⟨q,w,y,e⟩:=ul hv;have o:=E sb q (aY _) w (df y l);rw[jf e,jf e0] at o;have t:=c2.2.1 (q-sb) (pu w y);rw[iG w,jf e] at t;have a0:R v<R xl:=t;exact⟨o,dL a0⟩
 have T:∀i,b<=i->i<b+k->kA R d i<=R y0:=λi r n=>by
  have:=c1.2.1 (i-b) (pu r n);rw[iG r] at this;exact this
 have H:∀i,sb+nb'<=i->i<ea->R xl<=kA R d i:=λi r n=>by
  have i0:=ax (fK _ _) r;have:=c2.2.2 (i-sb) (qx r) (pi i0 n);rw[iG i0] at this;exact this
 have kk:∀i,kA R (m.toList.zipIdx.foldl (λa p=>a.setIfInBounds (b+k+p.2) p.1) d) i=if b+k<=i/\i<sb+nb' then kA R m (i-(b+k)) else kA R d i:=λi=>by
  have:=g i;split
  ·rename_i c;rw[if_pos c,iH] at this;exact oA this
  ·rename_i c;rw[if_neg c] at this;exact oA this
 have U:∀i,i<m.size->∃v,m.toList[i]?=some v/\v∈m.toList:=λi S=>⟨m.toList[i]'(by simpa using S),cV _,lE _⟩
 refine⟨?_,λi S=>?_,λi j r n X=>?_⟩
 ·refine zF.mpr ?_;rw[MB C,he];have split:d.toList=d.toList.take (b+k)++((d.extract (b+k) sb).toList++(d.extract sb (sb+nb')).toList)++d.toList.drop (sb+nb'):=by
   rw[lm,lm];rw[mr]
   conv=>lhs;rw[←kG (b+k) d.toList,←kG (sb-(b+k)) (d.toList.drop (b+k)),NT,iG (dL x),←kG nb' (d.toList.drop sb),NT]
   simp only[dE]
  conv=>rhs;rw[split]
  exact DL _ (zC _ f.1)
 ·rw[g i,if_neg λz=>S.elim (λh=>mO (ax (fK b k) z.1) h) λh=>mO h (df z.2 l)]
 ·rw[kk,kk];by_cases ci:b+k<=i/\i<sb+nb'
  ·rw[if_pos ci];obtain⟨v,ev,mv⟩:=U (i-(b+k)) (by rw[P];exact pi ci.1 ci.2);rw[iQ ev];by_cases cj:b+k<=j/\j<sb+nb'
   ·rw[if_pos cj];obtain⟨u,Q,mu⟩:=U (j-(b+k)) (by rw[P];exact pi cj.1 cj.2);rw[iQ Q];exact f.2.at ev Q (sR n _)
   ·rw[if_neg cj];exact ax (J v mv).2 (H j (fZ λz=>cj ⟨ax ci.1 n,z⟩) X)
  ·rw[if_neg ci];by_cases ci2:i<b+k
   ·have o:=T i r ci2;by_cases cj:b+k<=j/\j<sb+nb'
    ·rw[if_pos cj];obtain⟨u,Q,mu⟩:=U (j-(b+k)) (by rw[P];exact pi cj.1 cj.2);rw[iQ Q];exact ax o (J u mu).1
    ·rw[if_neg cj];by_cases cj2:j<b+k
     ·exact I i j r n (sw cj2 x)
     ·have t:=H j (fZ λz=>cj ⟨fZ cj2,z⟩) X;have h3:R y0<=R xl:=by
       have s0:=ax (fK _ _) G;have h4:=c1.2.2 (sb-1-b) (qx G) (pi s0 s1);rw[iG s0,jf el] at h4;exact dL h4
      exact ax o (ax h3 t)
   ·have A:sb+nb'<=i:=fZ λz=>ci ⟨fZ ci2,z⟩
    rw[if_neg λz=>mO (ax A n) z.2];exact E i j (ax (fK _ _) A) n X
section
variable {prog:Program}{w:World}{A:Around}{E:Value->Shared->Prop}{s:Shared}
theorem Gy{x au:SortSt}{Q:Unit->SortSt->Prop}(h:Q () x):wpS '*' A E s (set x:StateT SortSt Sem PUnit) Q au:=by
 unfold wpS;rw[StateT.run_set];exact am ⟨rfl,h⟩
end
section
variable {prog:Program}{w:World}{A:Around}{E:Value->Shared->Prop}{s:Shared}{κ:SortKind}{a₀:Array Keyed}{R:Keyed->Nat}
theorem Tx{i d S pw sb nb b3:Nat}{au:SortSt}{Q:Bool->SortSt->Prop}(O:k6 prog w A s κ a₀ R)(b:B κ a₀ au)(p1:(pendingOf au)[i]?=some (d,S,pw))(p2:(pendingOf au)[i+1]?=some (sb,nb,b3))(j:sb=d+S)(b5:1<=S)(a5:1<=nb)(hz:sb+nb<=a₀.size)
  (t:ff R (arrOf au) d sb)(o:ff R (arrOf au) sb (sb+nb))
  (h:∀v,B κ a₀ v->pendingOf v=((pendingOf au).setIfInBounds i (d,S+nb,pw)).eraseIdxIfInBounds (i+1)->dZ (arrOf v) (arrOf au) d (sb+nb)->ff R (arrOf v) d (sb+nb)->Q true v):wpS '*' A E s (mergeAt' i) Q au:=by
 have a4:=b.size;have bs:sb<a₀.size:=df (DR a5) hz;refine bf (lC ?_);dsimp only;have H:(sortPriv% PySem.Builtin.SortState.pending) au=pendingOf au:=rfl;rw[H,p1,p2];dsimp only;refine bf (Gy ?_);obtain⟨y0,e0,b4⟩:=b.mem (i:=sb) bs;have u:∀q,q<a₀.size->∃x,(arrOf au)[q]?=some x/\x∈a₀.toList:=λq hq=>b.mem hq
 refine bf (pU e0 ?_);refine bf (uv O b.kind b4 (λq hq=>u (d+q) (sw (sP (oh hq d) j.symm) bs)) b5 (by rw[←j];exact t) λk c1=>?_);dsimp only;have hk:=c1.1;have b2:ot false R y0 (arrOf au) d (sb-d) k:=by rw[show sb-d=S from by rw[j,mr]];exact c1
 by_cases d1:S-k=0
 ·rw[if_pos (by simpa using d1)];refine bm (h _ ⟨b.perm,b.kind,b.failed⟩ rfl (dZ.refl _ _ _) λp q G r I=>?_);by_cases z1:q<sb
  ·exact t p q G r z1
  ·by_cases z2:p<sb
   ·have h1:=c1.2.1 (p-d) (df (pu G (sP z2 j)) (Nat.le_of_sub_eq_zero d1));rw[iG G] at h1;have h2:=o sb q (aY _) (fZ z1) I;rw[jf e0] at h2;exact ax h1 h2
   ·exact o p q (fZ z2) r I
 ·rw[if_neg (by simpa using d1)];have l:d+k<sb:=sP (oh (qf λz=>d1 (Nat.sub_eq_zero_of_le z)) d) j.symm;have s1:sb-1<sb:=oX (Dt l) Nat.one_pos;obtain⟨xl,el,b1⟩:=u (sb-1) (sw s1 bs);have a8:(arrOf au)[d+k+(S-k)-1]?=some xl:=by rw[Nat.add_assoc,iG hk,←j];exact el
  refine bf (pU a8 ?_);refine bf (uv O b.kind b1 (λq hq=>u (sb+q) (df (oh hq sb) hz)) (oX a5 Nat.one_pos) o λnb' c2=>?_);dsimp only;have b0:=c2.1;have a9:ot true R xl (arrOf au) sb (sb+nb-sb) nb':=by rw[mr];exact c2
  by_cases d2:nb'=0
  ·rw[if_pos (by simpa using d2)];refine bm (h _ ⟨b.perm,b.kind,b.failed⟩ rfl (dZ.refl _ _ _) λp q G r I=>?_);subst d2;by_cases z1:q<sb
   ·exact t p q G r z1
   ·by_cases z2:p<sb
    ·have h1:=t p (sb-1) G (lF z2) s1;rw[jf el] at h1;have h2:=c2.2.2 (q-sb) (ie _) (pu (fZ z1) I);rw[iG (fZ z1)] at h2;exact ax h1 h2
    ·exact o p q (fZ z2) r I
  ·rw[if_neg (by simpa using d2)];have P:1<=nb':=Oh d2;have a6:sb<=(arrOf au).size:=by rw[a4];exact dL bs
   have Y:sb+nb<=(arrOf au).size:=by rw[a4];exact hz
   have C:sb+nb'<=sb+nb:=ii b0 sb;have oa:Ord R ((arrOf au).extract (d+k) sb).toList:=yr (λp q G r I=>t p q (ax (fK _ _) G) r I) a6;have ob:Ord R ((arrOf au).extract sb (sb+nb')).toList:=yr (λp q G r I=>o p q G r (df I C)) (ax C Y);have ma:∀x∈((arrOf au).extract (d+k) sb).toList,x∈a₀.toList:=λx n=>by
    obtain⟨q,H,U,e⟩:=ul n;obtain⟨x',e',m'⟩:=u q (sw U bs);rw[e] at e';cases e';exact m'
   have mb:∀x∈((arrOf au).extract sb (sb+nb')).toList,x∈a₀.toList:=λx n=>by
    obtain⟨q,H,U,e⟩:=ul n;obtain⟨x',e',m'⟩:=u q (df U (ax C hz));rw[e] at e';cases e';exact m'
   have sx:((arrOf au).extract (d+k) sb).size=sb-(d+k):=by rw[Array.size_extract,j9 a6]
   have sy:((arrOf au).extract sb (sb+nb')).size=nb':=by rw[Array.size_extract,j9 (ax C Y),mr]
   have a7:∀y,((arrOf au).extract sb (sb+nb')).toList[0]?=some y->∀x∈((arrOf au).extract (d+k) sb).toList,R y<=R x:=λy hy x n=>by
    rw[wU (by rw[mr];exact P),uE,e0] at hy;cases hy;obtain⟨q,H,U,e⟩:=ul n;have q0:=ax (fK _ _) H;have:=c1.2.2 (q-d) (qx H) (pu q0 (sP U j));rw[iG q0,jf e] at this;exact dL this
   have a0:∀x,((arrOf au).extract (d+k) sb).toList[sb-(d+k)-1]?=some x->∀y∈((arrOf au).extract sb (sb+nb')).toList,R y<=R x:=λx n y hy=>by
    rw[wU (oX (qm l) Nat.one_pos),show d+k+(sb-(d+k)-1)=sb-1 from by rw[←Nat.add_sub_assoc (qm l),iG (dL l)],el] at n;cases n;obtain⟨q,H,U,e⟩:=ul hy;have:=c2.2.1 (q-sb) (pu H U);rw[iG H,jf e] at this;exact dL this
   have T:∀m g,jI au g\/True->Fin R ((arrOf au).extract (d+k) sb).toList ((arrOf au).extract sb (sb+nb')).toList m->Mg R (arrOf au) (m.toList.zipIdx.foldl (λa p=>a.setIfInBounds (d+k+p.2) p.1) (arrOf au)) d (sb+nb):=λm _ _ f=>
    NE (fK _ _) Y l C P t o e0 el b2 a9 f
   by_cases d3:S-k<=nb'
   ·rw[if_pos d3];refine bf (TB O b.kind ma mb ⟨oa,ob,λx n=>a0 x (by rw[gm,sx] at n;exact n)⟩ (by show 1<=((arrOf au).extract (d+k) sb).size;rw[sx];exact qm l) (by show 1<=((arrOf au).extract sb (sb+nb')).size;rw[sy];exact P) a7 λm g J f=>?_);have X:=T m g (.inr trivial) f;refine bf (mI (bf (lC ?_)));have r:arrOf g=arrOf au:=J.arr;have f2:failedOf g=none:=J.failed.trans b.failed;refine bm (?_:Q ((failedOf g).isNone) (setArr g (m.toList.zipIdx.foldl (λa p=>a.setIfInBounds (d+k+p.2) p.1) (arrOf g))));rw[f2,r];exact h _ ⟨X.perm.trans b.perm,J.kind.trans b.kind,f2⟩ J.pend X.out X.up
   ·rw[if_neg d3];refine bf (Tz O b.kind ma mb ⟨oa,ob,a7⟩ (by show 1<=((arrOf au).extract (d+k) sb).size;rw[sx];exact qm l) (by show 1<=((arrOf au).extract sb (sb+nb')).size;rw[sy];exact P) (λx n=>a0 x (by rw[sx] at n;exact n)) λm g J f=>?_);have X:=T m g (.inr trivial) f;refine bf (mI (bf (lC ?_)));have r:arrOf g=arrOf au:=J.arr;have f2:failedOf g=none:=J.failed.trans b.failed;refine bm (?_:Q ((failedOf g).isNone) (setArr g (m.toList.zipIdx.foldl (λa p=>a.setIfInBounds (d+k+p.2) p.1) (arrOf g))));rw[f2,r];exact h _ ⟨X.perm.trans b.perm,J.kind.trans b.kind,f2⟩ J.pend X.out X.up
end
def bq(R:Keyed->Nat) (a:Array Keyed):Nat->List (Nat×Nat×Nat)->Nat->Prop
 |s,[],e=>s=e
 |s,p::r,e=>p.1=s/\1<=p.2.1/\ff R a s (s+p.2.1)/\bq R a (s+p.2.1) r e
theorem bq.le{R:Keyed->Nat}:∀{l:List (Nat×Nat×Nat)}{s e:Nat},bq R xs s l e->s+l.length<=e
 |[],s,e,h=>by cases h;simp
 |p::r,s,e,h=>by
  have:=bq.le h.2.2.2;have:=h.2.1;simp;lia
theorem bq.append{R:Keyed->Nat}:∀{l m:List (Nat×Nat×Nat)}{s e:Nat},bq R xs s (l++m) e↔∃k,bq R xs s l k/\bq R xs k m e
 |[],m,s,e=>⟨λh=>⟨s,rfl,h⟩,λ⟨k,b,a⟩=>by cases b;exact a⟩
 |p::r,m,s,e=>by
  constructor
  ·rintro⟨b,a,d,f⟩;obtain⟨k,g,c⟩:=bq.append.mp f;exact⟨k,⟨b,a,d,g⟩,c⟩
  ·rintro⟨k,⟨b,a,d,f⟩,c⟩;exact⟨b,a,d,bq.append.mpr ⟨k,f,c⟩⟩
theorem ff.same{R:Keyed->Nat}(h:ff R xs a b)(e:∀i,a<=i->i<b->ys[i]?=xs[i]?):ff R ys a b:=λi j c f d=>by
 rw[oA (e i c (jv f d)),oA (e j (ax c f) d)];exact h i j c f d
theorem bq.same{R:Keyed->Nat}:∀{l:List (Nat×Nat×Nat)}{s e:Nat},bq R xs s l e->(∀i,s<=i->i<e->ys[i]?=xs[i]?)->bq R ys s l e
 |[],s,e,h,_=>h
 |p::r,s,e,h,k=>by
  have:=bq.le h.2.2.2;exact⟨h.1,h.2.1,h.2.2.1.same λi a b=>k i a (df b (ax (fK _ _) this)),bq.same h.2.2.2 λi a b=>k i (ax (fK _ _) a) b⟩
theorem bq.power{R:Keyed->Nat}:∀{l m:List (Nat×Nat×Nat)},l.map (λp=>(p.1,p.2.1))=m.map (λp=>(p.1,p.2.1))->bq R xs s l e->bq R xs s m e:=by
 intro l
 induction l generalizing s with
 |nil=>intro m h k;cases m with
  |nil=>exact k
  |cons=>cases h
 |cons p r ih=>intro m h k;cases m with
  |nil=>cases h
  |cons q t=>
   rw[bP,bP] at h;obtain⟨j,i⟩:=List.cons.inj h;obtain⟨d,f⟩:=Prod.mk.inj j;obtain⟨g,a,c,b⟩:=k;rw[f] at a c b;exact⟨d.symm.trans g,a,c,ih i b⟩
theorem LV{l:List (Nat×Nat×Nat)}(h:i+1<l.length):∃b p q a,l=b++p::q::a/\b.length=i:=by
 refine⟨l.take i,l[i],l[i+1],l.drop (i+2),?_,by rw[gC];exact j9 (dL (ph h))⟩
 conv=>lhs;rw[←kG i l,jU (ph h),jU h]
section
variable {prog:Program}{w:World}{A:Around}{E:Value->Shared->Prop}{s:Shared}{κ:SortKind}{a₀:Array Keyed}{R:Keyed->Nat}
theorem sV{i e:Nat}{au:SortSt}{Q:Bool->SortSt->Prop}(O:k6 prog w A s κ a₀ R)(b:B κ a₀ au)(G:bq R (arrOf au) 0 (pendingOf au).toList e)(he:e<=a₀.size)(S:i+1<(pendingOf au).size)
  (h:∀a,B κ a₀ a->bq R (arrOf a) 0 (pendingOf a).toList e->(pendingOf a).size+1=(pendingOf au).size->(∀k,e<=k->(arrOf a)[k]?=(arrOf au)[k]?)->Q true a):wpS '*' A E s (mergeAt' i) Q au:=by
 obtain⟨r,p,q,post,m,f⟩:=LV (l:=(pendingOf au).toList) (i:=i) (by simpa using S);obtain⟨d,g,y⟩:=p;obtain⟨o,nb,u⟩:=q;rw[m] at G;obtain⟨k,x,g2⟩:=bq.append.mp G;obtain⟨v,P,J,n,z,I,t⟩:=g2;dsimp only at v P J n z I t;subst v;have l7:=bq.le t;have l1:=bq.le x;have p1:(pendingOf au)[i]?=some (d,g,y):=by rw[←iH,m,mw (ig f),f,uF];rfl
 have T:(pendingOf au)[i+1]?=some (o,nb,u):=by rw[←iH,m,mw (ax (ig f) (fK i 1)),f,mr];rfl
 refine Tx O b p1 T n P z '!' (by rw[n];exact J) (by rw[n];exact I) λa Y X U up=>?_
 have H:(pendingOf a).toList=r++(d,g+nb,y)::post:=by
  rw[X];rw[Array.toList_eraseIdxIfInBounds,Array.toList_setIfInBounds,m];rw[List.set_append_right _ _ (ig f),f,uF,List.set_cons_zero,List.eraseIdx_append_of_length_le (ax (ig f) (fK i 1)),f,mr]
  rfl
 have c:∀j,j<d\/o+nb<=j->(arrOf a)[j]?=(arrOf au)[j]?:=U
 refine h a Y ?_ ?_ λj hj=>c j (.inr '!')
 ·rw[H];refine bq.append.mpr ⟨d,x.same λj a1 C=>c j (.inl C),rfl,by show 1<=g+nb;lia,?_,?_⟩
  ·show ff R (arrOf a) d (d+(g+nb));rw[show d+(g+nb)=o+nb by lia];exact up
  ·show bq R (arrOf a) (d+(g+nb)) post e;rw[show d+(g+nb)=d+g+nb by lia];exact t.same λj a1 C=>c j (.inr '!')
 ·have e1:(pendingOf a).size=(pendingOf a).toList.length:=by simp
  have e2:(pendingOf au).size=(pendingOf au).toList.length:=by simp
  rw[e1,e2,H,m];simp only[dq,dm];lia
end
theorem HC [Decidable c] (e:a+1<n)(d:b+1<n):(if c then a else b)+1<n:=by split<;>assumption
theorem yd(h:∀x,g (f x)=g x):∀(l:List (Nat×Nat×Nat)) (i:Nat),(l.modify i f).map g=l.map g
 |[],i=>by simp
 |x::l,0=>by simp[h]
 |x::l,i+1=>by simp[yd h l i]
theorem bq.mod{R:Keyed->Nat}(h:bq R xs s l e)(i c:Nat):bq R xs s (l.modify i λx=>(x.1,x.2.1,c)) e:=
 h.power (yd (g:=λp=>(p.1,p.2.1)) (f:=λx=>(x.1,x.2.1,c)) (λ_=>rfl) l i).symm
section
variable {prog:Program}{w:World}{A:Around}{E:Value->Shared->Prop}{s:Shared}{κ:SortKind}{a₀:Array Keyed}{R:Keyed->Nat}
theorem IJ{au:SortSt}{Q:Unit->SortSt->Prop}(O:k6 prog w A s κ a₀ R)(b:B κ a₀ au)(pe:pendingOf au=#[])(h2:2<=a₀.size)
  (h:∀a,B κ a₀ a->ff R (arrOf a) 0 a₀.size->Q () a):wpS '*' A E s sortRuns' Q au:=by
 have hz:=b.size;rw[sortRuns'_eq];refine bf (lC ?_);dsimp only;rw[hz]
 refine bf (ji (iW (I:=λx c a=>∃lo,c=(none,lo)/\B κ a₀ a/\bq R (arrOf a) 0 (pendingOf a).toList lo/\lo<=a₀.size/\x<=lo)
  (Q:=λc a=>c=(none,a₀.size)/\B κ a₀ a/\bq R (arrOf a) 0 (pendingOf a).toList a₀.size) ?_ ?_ ⟨0,rfl,b,by rw[pe];rfl,by lia,by lia⟩) ?_)
 ·rintro x c T x1 x2 ⟨lo,rfl,J,t,H,hx⟩;dsimp only;by_cases c1:lo ≥ a₀.size
  ·rw[if_pos c1];have:lo=a₀.size:=by lia
   subst this;exact bm ⟨rfl,J,t⟩
  rw[if_neg c1];refine bf (KW O J '!' '!' λm f m1 m2 z P S=>?_);dsimp only;have e:bq R (arrOf f) 0 (pendingOf f).toList lo:=by
   rw[P.pend];exact t.same λi X U=>P.out i (.inl U)
  by_cases c2:m<minRun' a₀.size a₀.size 0
  ·rw[if_pos c2];refine bf (p9 (mH ⟨rfl,?_⟩));refine bf (Gx O z '!' m1 '!' S λk y G l=>?_);have o:bq R (arrOf k) 0 (pendingOf k).toList lo:=by
    rw[G.pend];exact e.same λi X U=>G.out i (.inl U)
   have v:1<=min (a₀.size-lo) (minRun' a₀.size a₀.size 0):=by lia
   have u:lo+min (a₀.size-lo) (minRun' a₀.size a₀.size 0)<=a₀.size:=by lia
   simp only[Bool.not_true,kF,iB];generalize min (a₀.size-lo) (minRun' a₀.size a₀.size 0)=n at l v u G ⊢;refine bf (lC ?_);cases hb:(pendingOf k).back? with
   |none=>
    dsimp only;refine bf (mI (bm ⟨lo+n,rfl,⟨y.perm,y.kind,y.failed⟩,?_,u,by lia⟩));show bq R (arrOf k) 0 ((pendingOf k).push (lo,n,0)).toList (lo+n);rw[qj];exact bq.append.mpr ⟨lo,o,rfl,v,l,rfl⟩
   |some p=>
    obtain⟨s1,n1,p1⟩:=p;dsimp only;refine bf (ji (iW (I:=λ_ c a=>c=(none,())/\B κ a₀ a/\bq R (arrOf a) 0 (pendingOf a).toList lo/\ff R (arrOf a) lo (lo+n)) (Q:=λc a=>c=(none,())/\B κ a₀ a/\bq R (arrOf a) 0 (pendingOf a).toList lo/\ff R (arrOf a) lo (lo+n)) ?_ (λ_ _ hh=>hh) ⟨rfl,y,o,l⟩) ?_)
    ·rintro x' c d _ _ ⟨rfl,q,g,j⟩;refine bf (lC ?_);by_cases hs:(pendingOf d).size > 1
     ·rw[if_pos hs,getElem?_pos (pendingOf d) ((pendingOf d).size-2) '!'];obtain⟨s2,n2,p2⟩:=(pendingOf d)[(pendingOf d).size-2]' '!';dsimp only;split
      ·exact bm ⟨rfl,q,g,j⟩
      ·refine bf (sV O q g H '!' λa3 b5 C _ k5=>?_);exact bm ⟨rfl,b5,C,j.same λi X U=>k5 i X⟩
     ·rw[if_neg hs];exact bm ⟨rfl,q,g,j⟩
    ·rintro c d ⟨rfl,q,g,j⟩;dsimp only;refine bf (mI (bf (mI (bm ⟨lo+n,rfl,⟨q.perm,q.kind,q.failed⟩,?_,u,by lia⟩))));refine(?_:bq R (arrOf d) 0 (((pendingOf d).modify ((pendingOf d).size-1) λx=>(x.1,x.2.1,_)).push (lo,n,0)).toList (lo+n));rw[qj,Array.toList_modify];exact bq.append.mpr ⟨lo,g.mod _ _,rfl,v,j,rfl⟩
  ·rw[if_neg c2];have y:=z;have o:=e;have l:=S;have v:=m1;have u:lo+m<=a₀.size:=by lia
   generalize f=k at y o l ⊢;generalize m=n at l v u ⊢;refine bf (lC ?_);cases hb:(pendingOf k).back? with
   |none=>
    dsimp only;refine bf (mI (bm ⟨lo+n,rfl,⟨y.perm,y.kind,y.failed⟩,?_,u,by lia⟩));show bq R (arrOf k) 0 ((pendingOf k).push (lo,n,0)).toList (lo+n);rw[qj];exact bq.append.mpr ⟨lo,o,rfl,v,l,rfl⟩
   |some p=>
    obtain⟨s1,n1,p1⟩:=p;dsimp only;refine bf (ji (iW (I:=λ_ c a=>c=(none,())/\B κ a₀ a/\bq R (arrOf a) 0 (pendingOf a).toList lo/\ff R (arrOf a) lo (lo+n)) (Q:=λc a=>c=(none,())/\B κ a₀ a/\bq R (arrOf a) 0 (pendingOf a).toList lo/\ff R (arrOf a) lo (lo+n)) ?_ (λ_ _ hh=>hh) ⟨rfl,y,o,l⟩) ?_)
    ·rintro x' c d _ _ ⟨rfl,q,g,j⟩;refine bf (lC ?_);by_cases hs:(pendingOf d).size > 1
     ·rw[if_pos hs,getElem?_pos (pendingOf d) ((pendingOf d).size-2) '!'];obtain⟨s2,n2,p2⟩:=(pendingOf d)[(pendingOf d).size-2]' '!';dsimp only;split
      ·exact bm ⟨rfl,q,g,j⟩
      ·refine bf (sV O q g H '!' λa3 b5 C _ k5=>?_);exact bm ⟨rfl,b5,C,j.same λi X U=>k5 i X⟩
     ·rw[if_neg hs];exact bm ⟨rfl,q,g,j⟩
    ·rintro c d ⟨rfl,q,g,j⟩;dsimp only;refine bf (mI (bf (mI (bm ⟨lo+n,rfl,⟨q.perm,q.kind,q.failed⟩,?_,u,by lia⟩))));refine(?_:bq R (arrOf d) 0 (((pendingOf d).modify ((pendingOf d).size-1) λx=>(x.1,x.2.1,_)).push (lo,n,0)).toList (lo+n));rw[qj,Array.toList_modify];exact bq.append.mpr ⟨lo,g.mod _ _,rfl,v,j,rfl⟩
 ·rintro c T ⟨lo,rfl,J,t,H,hx⟩;have:lo=a₀.size:=by lia
  subst this;exact⟨rfl,J,t⟩
 ·rintro c T ⟨rfl,J,t⟩;dsimp only
  refine bf (ji (iW (I:=λx c a=>c=(none,())/\B κ a₀ a/\bq R (arrOf a) 0 (pendingOf a).toList a₀.size/\(pendingOf a).size+x<=a₀.size)
   (Q:=λc a=>c=(none,())/\B κ a₀ a/\bq R (arrOf a) 0 (pendingOf a).toList a₀.size/\(pendingOf a).size<=1) ?_ ?_ ⟨rfl,J,t,by have:=t.le;simp at this;lia⟩) ?_)
  ·rintro x c f x1 x2 ⟨rfl,z,e,Y⟩;refine bf (lC ?_);by_cases c1:(pendingOf f).size<=1
   ·rw[if_pos c1];exact bm ⟨rfl,z,e,c1⟩
   rw[if_neg c1];refine bf (sV O z e (aY _) ?_ λk y o p3 _=>bm ⟨rfl,y,o,by lia⟩);exact HC '!' '!'
  ·rintro c f ⟨rfl,z,e,Y⟩;exact⟨rfl,z,e,by lia⟩
  ·rintro c f ⟨rfl,z,e,Y⟩;refine bm (h f z ?_);cases hl:(pendingOf f).toList with
   |nil=>rw[hl] at e;have:0=a₀.size:=e;lia
   |cons p r=>
    have:r=[]:=by
     have e2:(pendingOf f).size=(pendingOf f).toList.length:=by simp
     rw[e2,hl,dm] at Y;exact DQ.mp '!'
    subst this;rw[hl] at e;obtain⟨_,_,g3,g4⟩:=e;have a0:0+p.2.1=a₀.size:=g4;rw[a0] at g3;exact g3
end
end TS
namespace Srt
open PySem.W PyProof.Rows
theorem UL{k n:Type}(f:k->n):∀{l g:List n},l.Perm g->∀m:List k,g=m.map f->∃p:List k,p.Perm m/\l=p.map f:=by
 intro l g h
 induction h with
 |nil=>exact λm e=>⟨[],by rw[List.map_eq_nil_iff.mp e.symm],rfl⟩
 |cons x _ ih=>
  intro m e;cases m with
  |nil=>cases e
  |cons y m=>
   rw[bP] at e;injection e with i c
   obtain⟨p,j,d⟩:=ih m c;exact⟨y::p,j.cons y,by rw[bP,←d,i]⟩
 |swap x y l=>
  intro m e
  match m,e with
  |a::b::m,e=>
   rw[bP,bP] at e;injection e with i c
   injection c with c o
   exact⟨b::a::m,.swap _ _ _,by rw[bP,bP,i,c,o]⟩
 |trans _ _ ih1 ih2=>
  intro m e;obtain⟨p,j,d⟩:=ih2 m e;obtain⟨q,s,r⟩:=ih1 p d;exact⟨q,s.trans j,r⟩
noncomputable def vd(r:Nat->Nat) (a:List Value):Prop:=∀i j,i<a.length->j<a.length->a.getD i Value.none=a.getD j Value.none->r i=r j
open Classical in
noncomputable def kL(r:Nat->Nat) (a:List Value) (x:Keyed):Nat:=if h:∃i,i<a.length/\a.getD i Value.none=x.1 then r h.choose else 0
theorem EY(a:vd r xs) (b:i<xs.length)(e:xs.getD i Value.none=x.1):kL r xs x=r i:=by
 have h:∃i,i<xs.length/\xs.getD i Value.none=x.1:=⟨i,b,e⟩
 unfold kL;rw[dif_pos h];exact a _ _ h.choose_spec.1 b (h.choose_spec.2.trans e.symm)
theorem Qy(a:List Value):(a.toArray.zip a.toArray).toList=(List.range a.length).map λi=>((a.getD i Value.none,a.getD i Value.none):Keyed):=by
 rw[Array.toList_zip];apply N6
 ·simp
 ·intro i d c;have b:i<a.length:=by simpa using c
  simp[dM,b]
theorem LW{xs:List Value}(R:2<=xs.length)(f:vd r xs)
  (n:∀i j C,i<xs.length->j<xs.length->C (lt r i j) sg->kas_ask P w B κ xs i j C sg):
  wpAny (model P w) B ((sortRuns').run (SortSt.mk' κ (xs.toArray.zip xs.toArray) #[] 7 none)) (λy z=>∃p:Array Nat,(p.Perm (List.toArray (List.range xs.length))/\Up r p xs.length)/\(arrOf y.2).map (·.2)=dz xs p/\failedOf y.2=none/\z=sg) E sg:=by
 have u:(xs.toArray.zip xs.toArray).size=xs.length:=by simp
 have O:TS.k6 P w B sg κ (xs.toArray.zip xs.toArray) (kL r xs):=λx G y A C v=>by
  rw[Qy] at G A;obtain⟨i,m,rfl⟩:=cU.mp G;obtain⟨j,g,rfl⟩:=cU.mp A;rw[bO] at m g;rw[EY f m rfl,EY f g rfl] at v;exact n i j C m g v
 have run:=TS.IJ (E:=E) (Q:=λ_ y=>∃p:Array Nat,(p.Perm (List.toArray (List.range xs.length))/\Up r p xs.length)/\(arrOf y).map (·.2)=dz xs p/\failedOf y=none) O (au:=SortSt.mk' κ (xs.toArray.zip xs.toArray) #[] 7 none) ⟨.refl _,rfl,rfl⟩ rfl (by rw[u];exact R) λy b J=>by
  obtain⟨l,q,H⟩:=UL (λi=>((xs.getD i Value.none,xs.getD i Value.none):Keyed)) (zF.mp b.perm) _ (Qy xs);have S:l.length=xs.length:=by rw[q.length_eq,nZ]
  have t:∀k,(o:k<l.length)->l[k]<xs.length:=λk o=>bO.mp (q.mem_iff.mp (lE o))
  have h:∀k,k<xs.length->TS.kA (kL r xs) (arrOf y) k=At r l.toArray k:=λk o=>by
   have d:k<l.length:=by lia
   have e:(arrOf y)[k]?=some (xs.getD l[k] Value.none,xs.getD l[k] Value.none):=by
    rw[←iH,H,eU,cV d]
    rfl
   rw[TS.jf e,EY f (t k d) rfl];unfold At;simp[d]
  refine⟨l.toArray,⟨?_,λi j s g=>?_⟩,?_,b.failed⟩
  ·exact zF.mpr (by simpa using q)
  ·rw[←h i '!',←h j g];exact J i j (ie _) s (by rw[u];exact g)
  ·unfold dz;apply Array.toList_inj.mp;rw[Array.toList_map,H,fJ]
   rfl
 exact iU run (λy z I=>by
  obtain⟨rfl,p,a,b,c⟩:=I
  exact⟨p,a,b,c,rfl⟩) λ_ _ x=>x
theorem Ry{au:Shared}(r:Nat->Nat) {a:List Value}{W:Fin->Shared->Prop}(n:au.heap.get? d=some (seqObj "list" a.toArray k))(b:a.length<=sizeLine)(q:vd r a)
  (ask:2<=a.length->Answers P w B r a {au with heap:=eW au.heap d a})
  (g:∀p:Array Nat,p.Perm (List.toArray (List.range a.length))->Up r p a.length->W (.done (.ret .none)) {au with heap:=sortedHeap au.heap d a (dz a p)}):
  wpAny (model P w) B (Builtin.«list.sort» ⟨[.ref d],[]⟩) W E au:=by
 obtain⟨c,v⟩:∃ c,(au.heap.update d (Obj.mapSeq λ_=>(#[]:Array Value))).get? d=some (seqObj "list" #[] c):=⟨_,get?_update_seq n λ_=>#[]⟩
 have h:(eW au.heap d a).get? d=some (seqObj "list" #[] c):=bX _ (bX _ v)
 have f:a.toArray.size=a.length:=dH;rw[list_sort_plain];refine ab (listItems_at n rfl (ab (listUpdate_at n rfl (ab (seqEpoch_at v rfl (ab (wpAny_newTuple (ab (wpAny_newList (jj ?_) (ie _))) (b))))) (by rw[f];exact b) (ie _))));show wpAny (model P w) B _ W E {au with heap:=eW au.heap d a};dsimp only;by_cases two:a.toArray.size<2
 ·rw[if_pos two,if_pos two];rw[f] at two;have t:((arrOf (SortSt.mk' general' (a.toArray.zip a.toArray) #[] 7 none)).map (·.2))=dz a (List.toArray (List.range a.length)):=Tn two
  refine ab (am (by
   rw[StateT.run_pure];refine ab (am (ab (seqEpoch_at h rfl (ab (listUpdate_at h rfl ?_ (ie _) ?_)))))
   ·rw[if_neg '%'];refine am ?_;rw[t];exact g _ (.refl _) λi j H I=>ig (congrArg (At r _) '!')
   ·rw[t];refine qk (ax (ig ?_) (b));unfold dz
    simp))
 ·rw[if_neg two,if_neg two];rw[f] at two;obtain⟨A,C,o⟩:=ask '!';refine ab (iU (C (λe z=>e=A/\z={au with heap:=eW au.heap d a}) ⟨rfl,rfl⟩) (λe z l=>?_) λ_ _ x=>x.elim);obtain⟨rfl,rfl⟩:=l;have run:=LW (E:=E) (r:=r) (xs:=a) (κ:=e) (sg:={au with heap:=eW au.heap d a}) '!' q o;refine ab (iU run (λG z l=>?_) λ_ _ x=>x);obtain⟨⟨⟩,y⟩:=G;obtain⟨p,m,s,u,rfl⟩:=l;dsimp only at s u ⊢;refine ab (seqEpoch_at h rfl (ab (listUpdate_at h rfl ?_ (ie _) ?_)))
  ·rw[u,if_neg '%',s];exact am (g p m.1 m.2)
  ·rw[s];refine qk (ax (ig ?_) (b));unfold dz;rw[dH,av,gm,m.1.size_eq];simp
theorem U8{B:Around}{au:Shared}(r:Nat->Nat) {a:List Value}{W:Value->Shared->Prop}(j:au.heap.IsList d a.toArray)(c:a.length<=sizeLine)(h:vd r a)
  (ask:2<=a.length->∀g:Heap,(∀b ob,au.heap.get? b=some ob->g.get? b=some ob)->Answers P w B.in1.in1 r a {au with heap:=g})
  (i:∀p:Array Nat,p.Perm (List.toArray (List.range a.length))->Up r p a.length->W (.ref (au.heap.objs.size+1)) {au with heap:=sortedAll au.heap a (dz a p)}):
  wpAny (model P w) B (call (.builtin "sorted") [.ref d]) W E au:=by
 let g0:Heap:=(au.heap.push (seqObj "list" #[] 0)).update au.heap.objs.size (Obj.mapSeq (·++a.toArray))
 have k:g0.objs.size=au.heap.objs.size+1:=(Heap.size_update ..).trans (size_push' _ _);have f:(g0.push (seqObj "list" a.toArray 0)).get? (au.heap.objs.size + 1)=some (seqObj "list" a.toArray 0):=by
  have z:=ed g0 (o:=seqObj "list" a.toArray 0) rfl
  rw[k] at z;exact z
 have l:∀ b ob,au.heap.get? b=some ob->(g0.push (seqObj "list" a.toArray 0)).get? b=some ob:=λb ob e=>by
  have lt:=cJ e;exact bX _ ((Heap.get?_update_ne _ _ _ _ (dY lt)).trans (bX _ e))
 have s:argsOk "sorted" ⟨[.ref d],[]⟩:=args_sorted1 _
 refine Calls.call_function_entry kind_sorted plain_sorted entry_sorted s ?_;unfold Builtin.«sorted»;refine ab (m:=checkCount "sorted" 1 1 _) (am (ab (collect_list j (ab (wpAny_newList ?_ (c))) (c))))
 show wpAny _ _ _ _ _ { au with heap:=g0.push (seqObj "list" a.toArray 0) }
 have n:(Value.ref g0.objs.size)=Value.ref (au.heap.objs.size+1):=by rw[k]
 rw[show((au.heap.push (seqObj "list" #[] 0)).update au.heap.objs.size (Obj.mapSeq (·++a.toArray))).objs.size=au.heap.objs.size + 1 from k]
 refine ab (jj (kD slot_list_sort ⟨_,f,rfl⟩ entry_list_sort (Ry r (au:={ au with heap:=g0.push (seqObj "list" a.toArray 0) }) f c h (λtwo=>?_) λp t q=>⟨_,rfl,am ⟨_,rfl,i p t q⟩⟩) (args_list_sort _)))
 exact ask two _ λb ob e=>RI (dY (Dr (cJ e))) (l b ob e)
theorem UO{B:Around}{au:Shared}{T:String}{It:Nat->Value->Prop}(S:KdlSrc P w T a d n It OK)(z:B.handled=none)(C:OK au.heap)(o:n<=sizeLine){W:Value->Shared->Prop}
  (ask:∀s:List Value,s.length=n->(∀(j:Nat) (v:Value),s[j]?=some v->It j v)->∃r:Nat->Nat,vd r s/\(2<=n->∀(g:Heap) (i:Nat),(∀b ob,au.heap.get? b=some ob->g.get? b=some ob)->Answers P w B.in1.in1 r s {au with heap:=g,toks:=i}) /\
   ∀(p:Array Nat) (q:Addr) (g:Heap) (i c:Nat),p.Perm (List.toArray (List.range s.length))->Up r p s.length->(∀ b ob,au.heap.get? b=some ob->g.get? b=some ob)->(∀ b ob,au.heap.get? b=some ob->b≠q)->g.get? q=some (seqObj "list" (dz s p) c)->W (.ref q) { au with heap:=g,toks:=i }):
  wpAny (model P w) B (call (.builtin "sorted") [.ref a]) W E au:=by
 have G:argsOk "sorted" ⟨[.ref a],[]⟩:=args_sorted1 _
 refine Calls.call_function_entry kind_sorted plain_sorted entry_sorted G ?_;unfold Builtin.«sorted»;refine ab (m:=checkCount "sorted" 1 1 _) (am (ab (kdu_collect (A:=B.in1) S z C (o) λg i f k h=>?_)))
 have len:f.toList.length=n:=by rw[gm];exact h.1
 obtain⟨r,u,I,x⟩:=ask f.toList len (λj v e=>h.2 j v (by rw[←iH];exact e));refine ab (wpAny_newList ?_ (by rw[len];exact o));have l:(g.push (seqObj "list" f.toList.toArray 0)).get? g.objs.size=some (seqObj "list" f.toList.toArray 0):=ed g rfl
 have t:∀ b ob,au.heap.get? b=some ob->(g.push (seqObj "list" f.toList.toArray 0)).get? b=some ob:=λb ob e=>bX _ (k b ob e)
 have lt:∀b ob,au.heap.get? b=some ob->b≠g.objs.size:=λb ob e=>dY (cJ (k b ob e))
 show wpAny _ _ _ _ _ { au with heap:=g.push (seqObj "list" f.toList.toArray 0),toks:=i }
 refine ab (jj (kD slot_list_sort ⟨_,l,rfl⟩ entry_list_sort (Ry r (au:={ au with heap:=g.push (seqObj "list" f.toList.toArray 0),toks:=i }) l (by rw[len]; exact o) u (λtwo=>?_) λp H y=>⟨_,rfl,am ⟨_,rfl,?_⟩⟩) (args_list_sort _)))
 ·exact I '!' _ i λb ob e=>RI (lt b ob e) (t b ob e)
 ·obtain⟨c,J⟩:=sortedHeap_at (n:=0) (vs:=f.toList) (out:=dz f.toList p) l;refine x p g.objs.size _ i c H y (λb ob e=>?_) ?_ J
  ·rw[sortedHeap_old (lt b ob e) (cJ (t b ob e))];exact t b ob e
  ·exact lt
end Srt
namespace L2
open Spec PyProof.Rows PySem.W
theorem ef(h:n<=1000000):n<=sizeLine:=ax h (by rw[iC];lia)
theorem RE:∀{c:List Value}{a b:List Int},IntsAre c a->IntsAre c b->a=b
 |_,_,_,.nil,.nil=>rfl
 |_,_,_,.cons x t r,.cons _ _ r'=>by rw[RE r r']
theorem P5(a:fV g ps):Srt.vd (Srt.fO (ps.map (·.2))) (ps.map λp=>Value.ref p.1):=λi j f h e=>by
 rw[av] at f h;have l:ps[i]?=some ps[i]:=cV f;have m:ps[j]?=some ps[j]:=cV h;rw[zo (λp:Addr×List Int=>Value.ref p.1) _ l,zo (λp:Addr×List Int=>Value.ref p.1) _ m] at e;injection e with e
 obtain⟨us,o,n,t,b,v,c⟩:=a _ (lE f);obtain⟨k,x,w,s,q,y,r⟩:=a _ (lE h);rw[e,q] at b;injection b with b
 subst b;rw[r] at c;injection c with c _
 have u:k=us:=by simpa using c
 subst u;have d:=RE t s;unfold Srt.fO;rw[zo (λp:Addr×List Int=>p.2) _ l,zo (λp:Addr×List Int=>p.2) _ m,d]
def gc(K:Fg):List V->Hp->VK->Prop:=λe H Q=>∃(l:Addr) (c:List (Addr×List Int)),e=[.ref l]/\da K H l (c.map λp=>V.ref p.1)/\c.length<=1000000/\tT K H c /\
 ∀(q:Addr) (d:List (Addr×List Int)),H q=none->d.Perm c->(d.map (·.2)).Pairwise (λa b=>HT.lexLt b a=false)->Q (.ref q) (aq H q (.lst (d.map λp=>V.ref p.1)))
def fx:List V->Hp->VK->Prop:=λe H Q=>∃(a:Addr) (b:List (List cG×V)) (d:'$'),e=[.ref a]/\Rd H a (.dT b)/\b.map (·.1)=d.map (λf=>f.map Sum.inl)/\d.length<=1000000 /\
 ∀(q:Addr) (c:List (Addr×List Int)),H q=none->(c.map (·.2)).Perm d->(c.map (·.2)).Pairwise (λx y=>HT.lexLt y x=false)->(∀p∈c,H p.1=some (.tup (p.2.map V.int)))->Q (.ref q) (aq H q (.lst (c.map λp=>V.ref p.1)))
theorem Vd{X:Cx}(hu:X.A.units + 64<cLine):bF X (.builtin "sorted") (gc X.K):=by
 intro aW s σ H xs t Q I r h;obtain⟨l,ps,rfl,R,i,E,q⟩:=h;obtain⟨u,rfl,U⟩:=vals1 r;cases U;obtain⟨j,x,T,hz⟩:=I.list R;have f:j=ps.map λp=>Value.ref p.1:=by
  have e:(ps.map λp=>V.ref p.1)=(ps.map (·.1)).map V.ref:=by rw[fJ];rfl
  rw[e] at x;rw[Rh x,fJ]
  rfl
 subst f;have d:∀g:Heap,(∀b o,s.heap.get? b=some o->g.get? b=some o)->fV g ps:=λg c p G=>by
  obtain⟨t,k,⟨o,Y,S,n,J⟩,_⟩:=I.tuple (E p G);exact⟨t,o,n,uy k,c _ _ Y,S,J⟩
 refine Srt.U8 (Srt.fO (ps.map (·.2))) T.isList (by rw[av];exact ef i) (P5 (d s.heap λ_ _ z=>z)) (λC g c=>xJ (by show X.A.units+1+1<cLine;lia) (by rw[av] at C;exact C) (d g c)) (λp w m=>?_);rw[av] at w m;obtain⟨A,v,P,q3⟩:=Qh w m;obtain⟨e,y⟩:=sortedAll_at s.heap (ps.map λp=>Value.ref p.1) (Srt.dz (ps.map λp=>Value.ref p.1) p);rw[q3] at y ⊢;refine⟨.ref (s.heap.objs.size+1),_,I.laid (a:=s.heap.objs.size+1) (o:=.lst (A.map λp=>V.ref p.1)) (t':=s.toks) (λ_ _ z=>sortedAll_old z) (sj _) ⟨?_,_,e,RW A,y⟩,rfl,q _ _ (I.hok.fresh (sj _)) v P⟩;rw[av,v.length_eq];exact ef '!'
theorem Vo{X:Cx}(hc:X.calm=true)(hu:X.A.units + 64<cLine):bF X (.builtin "sorted") fx:=by
 intro aW s σ H xs G Q I r h;obtain⟨a,m,ks,rfl,hd,ek,a5,q⟩:=h;obtain⟨u,rfl,ru⟩:=vals1 r;cases ru;obtain⟨z,ns,ys,y,ob,j,ep,e1,e2,e3,e4,e5⟩:=(show ar X.prog X.w H s.heap a (.dT m) from hd.ok I.hok)
 obtain⟨ps,U,T,a3⟩:=Fs (P:=X.prog) (w:=X.w) y ek;have a4:ps.length=ks.length:=by rw[←U,av]
 have e:j.toList.map (·.key)=ps.map λp=>Value.ref p.1:=by rw[e4,fJ];exact a3
 have a0:j.size=ps.length:=by
  have:=congrArg List.length e;rw[av,av,gm] at this;exact this
 have f:∀g:Heap,(∀b o,s.heap.get? b=some o->g.get? b=some o)->fV g ps:=λg d p l=>by
  obtain⟨G,rv,⟨o,b2,b3,n,b4⟩,_⟩:=I.tuple (bz.of (T p l));exact⟨G,o,n,uy rv,d _ _ b2,b3,b4⟩
 refine Srt.UO (Dct.Kx ns j ep) (I.ok.hd hc) ⟨ob,e1,e2,e3⟩ (ef '!') λk hl hv=>?_
 have x:k=ps.map λp=>Value.ref p.1:=by
  rw[←e];apply Ds;intro i;by_cases hi:i<j.size
  ·have R:k[i]?=some k[i]:=cV '!';obtain⟨en,Y,h3⟩:=hv i _ R;rw[R,h3,eU,iH,Y]
   rfl
  ·rw[qw '!',qw (by rw[av,gm];lia)]
 subst x;refine⟨Srt.fO (ps.map (·.2)),P5 (f s.heap λ_ _ z=>z),λY g tk d=>xJ (by show X.A.units+1+1<cLine;lia) '!' (f g d),λp t g tk c J C d E S=>?_⟩;rw[av] at J C;obtain⟨A,v,q2,q3⟩:=Qh J C;rw[q3] at S;refine⟨.ref t,_,I.laidN (o:=.lst (A.map λp=>V.ref p.1)) d E ⟨?_,_,c,RW A,S⟩,rfl,q t A (I.away E) ((v.map _).trans (by rw[U])) q2 λp l=>T p (v.mem_iff.mp l)⟩;rw[av,v.length_eq];exact ef '!'
end L2
namespace L2
open Spec PyProof.Rows
theorem RQ{b d:Type}[DecidableEq b]{k:b}:∀{a:List (b×d)}{j:Nat}{p:d},(a.map (·.1)).Nodup->a[j]?=some (k,p)->a.eraseIdx j=a.filter λx=>decide (x.1≠k)
 |[],_,_,_,e=>by simp at e
 |x::r,0,p,nd,e=>by
  simp at e;subst e;rw[bP,iE] at nd;rw[List.eraseIdx_cons_zero,mU '%']
  symm
  rw[Om];intro y g;refine d5 λz=>nd.1 ?_
  rw[←z];exact cU.mpr ⟨y,g,rfl⟩
 |x::r,j+1,p,nd,e=>by
  rw[bP,iE] at nd;have c:r[j]?=some (k,p):=by simpa using e
  have f:x.1≠k:=λz=>nd.1 (by rw[z];exact cU.mpr ⟨_,dF c,rfl⟩)
  rw[DX,mT (by simpa using f),RQ nd.2 c]
theorem QP{a b:Type}(f:a->b):∀(l:List a) (j:Nat),(l.map f).eraseIdx j=(l.eraseIdx j).map f
 |[],_=>rfl
 |_::_,0=>rfl
 |x::l,j+1=>by rw[bP,DX,DX,bP,QP f l j]
section
variable {κ:Type}[DecidableEq κ]
section
variable {prog:Program}{w:World}{knd:HeapKind prog w κ}{A:Around}{E:Value->Shared->Prop}{s:Shared}{d:Addr}{a:Addr}{k:κ}{xs:List (κ×Addr×Value)}{p:Addr×Value}
theorem Tr{W:Option DictEntry->Shared->Prop}(C:knd.room A)(b:knd.is s.heap k a)(P:s.heap.DictOfH knd d xs)(r:atKey xs k=some p)(I:xs.length<=sizeLine)
  (n:∀e u,e.val=p.2->u.DictOfH knd d (xs.filter λx=>decide (x.1≠k))->Heap.SameBut d s.heap u->W (some e) {s with heap:=u,toks:=s.toks+knd.draws k}):
  wpAny '*' A (Builtin.Dict.takeOut d (.ref a)) W E s:=by
 obtain⟨o,y,J,g,G,c,h,f,i⟩:=P;unfold Builtin.Dict.takeOut;refine jj ?_;refine ab (knd.pyHash C b ?_);refine ab (wpAny_dictFind_heap (s:={s with toks:=s.toks+knd.draws k}) C b g c h f i (λz=>?_) λj q v=>?_)
 ·rw[atKey_none_of_get z] at r;cases r
 ·have H:q=p:=by
   have z:=atKey_of_get i v;rw[r] at z;exact(fY z).symm
  subst H;refine ab (uJ (s:={s with toks:=s.toks+knd.draws k}) g c ?_);rw[entry_at h j,v];have m:y.size<=sizeLine:=by have:=size_of_entries h;lia
  refine ab (wpAny_updateDictKeys (hz:=m) (s:={s with toks:=s.toks+knd.draws k}) g c (am (n _ _ rfl ⟨_,_,J+1,mS _ g (Obj.isFreed_of_dict (Obj.data_mapDictKeys c _)),G.mapDictKeys _,Obj.data_mapDictKeys c _,?_,λx Q=>?_,?_⟩ (qu ..))))
  ·rw[←RQ i v];obtain⟨l⟩:=y;have t:l=xs.map (entryOfKey knd):=h;subst t;simp[QP]
  ·exact knd.keeps (f x (gA.mp Q).1) g c (qu ..)
  ·exact List.Sublist.nodup (List.Sublist.map (λx:κ×Addr×Value=>x.1) Dy) i
end
theorem Mw{b:HeapKind prog w κ}{A:Around}{s:Shared}{W:Value->Shared->Prop}(P:b.room A.in1)(f:b.is s.heap k a)(h:s.heap.DictOfH b d xs)(m:atKey xs k=some p)(j:xs.length<=sizeLine)
  (i:∀c,c.DictOfH b d (xs.filter λx=>decide (x.1≠k))->Heap.SameBut d s.heap c->W p.2 {s with heap:=c,toks:=s.toks+b.draws k}):
  wpAny '*' A (call (.builtin "dict.pop") [.ref d,.ref a]) W E s:=by
 have M:MeetsIn prog w (Builtin.«dict.pop» ⟨[.ref d,.ref a],[]⟩) (λB R g=>B=A/\g=s/\∀c,c.DictOfH b d (xs.filter λx=>decide (x.1≠k))->Heap.SameBut d s.heap c->R (.ok (.ret p.2)) {s with heap:=c,toks:=s.toks+b.draws k}):=
  .of_wp λB R g l=>by
   obtain⟨t,C,q⟩:=l;subst t C;unfold Builtin.«dict.pop» Builtin.Dict.keyAndDefault;refine ab (ab (wpAny_notOrdered_dict h.typeIs (am ?_)));obtain⟨o,u,T,J,S,y,I,v,U⟩:=id h;have n:u.isEmpty=false:=by
    have:=size_of_entries I;cases xs with
    |nil=>cases m
    |cons x r=>
     rw[dm] at this;rw[Array.isEmpty_eq_false_iff];intro z;rw[z] at this;simp at this
   simp only[keyPart,Option.isSome_none,kF,iB];refine ab (uJ J y (ab (am ?_)));rw[n];simp only[kF,iB];refine ab (Tr P f h m j λe c Q H G=>?_);simp only[Option.isNone_some,kF,iB];exact ab (qa (am ⟨e.val,rfl,by rw[Q];exact q c H G⟩))
 exact uB DH h.typeIs F.entry_dict_pop (F.args_dict_pop_2 _ _) M ⟨rfl,rfl,i⟩
end
theorem KT.drop(r:KT H kvs xs)(k:List cG):KT H (dB kvs k) (xs.filter λx=>decide (x.1≠k)):=by
 unfold dB
 induction r with
 |nil=>exact .nil
 |@cons p q ps qs h t ih=>
  by_cases e:p.1=k
  ·rw[mU (by simp[e]),mU (by simp[←h.1,e])];exact ih
  ·rw[mT (by simp[e]),mT (by simp[←h.1,e])];exact .cons h ih
theorem G1{X:Cx}{k:List cG}(R:X.A.units+1<cLine)(I:'&')(e:H a=some (.dT kvs))(G:H b=some (.tup (k.map kV)))(l:cr kvs k=some v)
  (h:∀ w' t,Inv X aW σ (aq H a (.dT (dB kvs k))) t->RelV v w'->Q w' t):wpAny '#' X.A (call (.builtin "dict.pop") [.ref a,.ref b]) Q E s:=by
 obtain⟨z,x,n,d,J⟩:=wd I.hok e;obtain⟨w',f,g⟩:=fE.some_of (v:=v) (o:=(atKey n k).map (·.2)) (by rw[←l];exact d.val k);cases hp:atKey n k with
 |none=>rw[hp] at f;cases f
 |some p=>
  rw[hp] at f;have j:p.2=w':=fY f;subst j;refine Mw (yY R) (uf I.hok G) J hp (by rw[←sC d];exact z) λT i A=>h _ _ ?_ g
  obtain⟨q,u,w,m,y,P,S,_,C⟩:=i;refine vp I (by rw[e];exact True.intro) A ⟨q,m⟩ ⟨ax (uW _ _) z,x,_,(d.drop k).keeps λc U r=>?_,q,u,w,m,y,P,S,C⟩;rw[zq (wo r e (λz=>nomatch z))];exact r
def sX(e f:TE):TE:=λd H Q=>e d H λx H1=>∃a,x=.ref a/\Eb H1 a/\f d H1 λy H2=>∃c k v b,H2 a=some (.dT c)/\y=.ref b/\H2 b=some (.tup (k.map kV))/\cr c k=some v/\Q v (aq H2 a (.dT (dB c k)))
theorem Mo{X:Cx}(T:X.A.units + 1<cLine)(S:PE X o td)(R:PE X e ty)(m:M1 X o "pop" apos e cpos):PE X (.Call (.Attribute o "pop" apos) [e] [] cpos) (sX td ty):=by
 intro g s i H Q I h;refine wpAny_Call_method m.base m.few m.line DV DH F.type_dict_pop (aZ (S g s i H _ I h) λu n f=>?_);obtain⟨x,H1,j,z,a,J,d,t⟩:=f;subst J;obtain rfl:u=Value.ref a:=z;obtain⟨E,C,_⟩:=wX j d;refine⟨E,C,?_⟩;rw[m.trees];refine DM rfl (Oq (qq (aZ (R g n i H1 _ j t) λA s2 ⟨y,H2,U,Y,r,k,v,b,G,p,P,l,q⟩=>sN ?_)));subst p;cases(show A=Value.ref b from Y);exact G1 T U G P l λw' s3 w c=>⟨v,_,w,c,q⟩
def qE(K:Fg):R2:=λx y H Q=>∃a b c d,x=.ref a/\y=.ref b/\bz K H a c/\bz K H b d/\c.length+d.length<=sizeLine /\
 (c=[]->Q (.ref b) H)/\(c≠[]->d=[]->Q (.ref a) H)/\(c≠[]->d≠[]->∀p,H p=none->Q (.ref p) (aq H p (.tup (c++d))))
theorem J5:di X (binaryOp .Add) (qE X.K):=by
 intro P s σ H x y v u Q I m A h;obtain⟨a,b,r,ys,rfl,rfl,p,q,G,q0,R,J⟩:=h;by_cases hx:r=[]
 ·cases m;cases A;obtain⟨f,Y,U,_⟩:=I.tuple p;obtain⟨d,r2,E,_⟩:=I.tuple q;obtain⟨⟨a0,dd,w,S⟩,t,l,n,o⟩:=id U;obtain⟨⟨C,k,data2,j⟩,i,g,T,c⟩:=id E;simp only at l o g c;subst l o g c;have e:f=[]:=Y.nil_iff.mpr hx;exact concat_meets ⟨_,t,rfl⟩ ⟨_,i,rfl⟩ noFill_tuple_add seq_tuple_add Ow OA (OC _ _)
   (tuple_addW0 a b f.toArray d.toArray n T dd k S j (by simp[e])) ⟨t,i,⟨.ref b,H,I,rfl,q0 hx⟩⟩
 ·exact J6 P s σ H _ _ v u Q I m A ⟨a,b,r,ys,rfl,rfl,p,q,hx,G,λz=>R hx z,λz=>J hx z⟩
theorem Ni{s:Shared}{lo b:Option Int}{W:Value->Shared->Prop}(a:IsTup s.heap t its)(h:s.heap.IsSliceOf sl vl vu .none)(l:IsPart vl lo)(j:IsPart vu b)
  (k:HT.bY its.size 0 lo=0)(m:HT.bY its.size its.size b=its.size)(e:W (.ref t) s):wpAny '*' A (getItem (.ref t) (.ref sl)) W E s:=by
 obtain⟨os,g,d,i⟩:=id h;unfold getItem
 try with_reducible refine jj ?_
 first|refine ab (am ?_)|skip
 refine ab (Oa a.typeIs ')' ?_);refine ab (wpAny_callSpecial?_slot (name:=Str.ofString "__getitem__") a.typeIs Dv (kD Dv a.typeIs entry_tuple_getitem ?_ (args_tuple_getitem _ _)))
 show wpAny _ _ (Builtin.Tuple.tupleItemsOf (.ref t) >>= _) _ _ s;refine ab (tupleItemsOf_ a ?_);have f:s.TypeIs (.ref sl) "slice":=⟨os,g,d⟩
 refine ab (uC f ?_);rw[if_pos ')'];refine ab (HT.Sv h l j ?_);have c:(((HT.bY its.size 0 lo:Nat):Int)==0&&(1:Int)==1&&(HT.bY its.size its.size b-HT.bY its.size 0 lo)==its.size)=true:=by
  rw[k,m];simp
 show wpAny _ _ (if(((HT.bY its.size 0 lo:Nat):Int)==0&&(1:Int)==1&&(HT.bY its.size its.size b-HT.bY its.size 0 lo)==its.size)=true then _ else _) _ _ s;rw[if_pos c];refine ab (?_:wpAny _ _ (Builtin.Tuple.tupleIsExact (.ref t)) _ _ s);unfold Builtin.Tuple.tupleIsExact;refine ab (uC a.typeIs (am ?_));rw[if_pos ')'];exact ab (mH (am ⟨_,rfl,am e⟩))
def O4(K:Fg):V->Option Int->Option Int->Hp->VK->Prop:=λx lo c H Q=>∃a b,x=.ref a/\bz K H a b/\(hJ b lo c=b->Q (.ref a) H)/\∀p,H p=none->Q (.ref p) (aq H p (.tup (hJ b lo c)))
theorem KE:qP X (O4 X.K):=by
 intro t s o H x v n q lo f m Q I g i l j h;obtain⟨a,c,rfl,k,u,p⟩:=h;by_cases hw:HT.bY c.length 0 lo=0/\HT.bY c.length c.length f=c.length
 ·cases g;obtain⟨d,r,e,w⟩:=I.tuple k;have b:d.toArray.size=c.length:=by rw[dH];exact r.length.symm
  refine⟨"tuple",_,Dv.lookup,e.typeIs,?_⟩
  refine Ni e i l j (by rw[b];exact hw.1) (by rw[b];exact hw.2) ⟨.ref a,H,I,rfl,u ?_⟩;unfold hJ;rw[hw.1,hw.2];simp
 ·exact Iz t s o H _ v n q lo f m Q I g i l j ⟨a,c,rfl,k,hw,p⟩
theorem RJ(a:List Int):∀k,k<=a.length->preSum (λi=>a.getD i 0) k=(a.take k).sum
 |0,_=>rfl
 |k+1,h=>by
  show preSum (λi=>a.getD i 0) k+a.getD k 0=_;rw[RJ a k '!',OI '!',js,dM,cV '!'];simp
theorem Em:∀{a:List Int}{b:List Value}{i:Nat}{v:Value},ah (a.map V.int) b->b[i]?=some v->∃t,v=.int (a.getD i 0) t
 |[],_,_,_,.nil,e=>by simp at e
 |n::a,_,0,_,.cons r _,e=>by
  simp at e;subst e
  obtain⟨t,rfl⟩:=r;exact⟨t,rfl⟩
 |n::a,_,i+1,v,.cons _ t,e=>by
  have:=Em (i:=i) t (by simpa using e)
  simpa using this
def zT(K:Fg):List V->Hp->VK->Prop:=λc H Q=>∃(a:Addr) (b:List Int),c=[.ref a]/\(da K H a (b.map V.int)\/bz K H a (b.map V.int))/\Q (.int b.sum) H
theorem QH{X:Cx}(hc:X.calm=true):bF X (.builtin "sum") (zT X.K):=by
 intro aW s σ H xs us Q I r h;obtain⟨a,ns,rfl,hs,q⟩:=h;obtain⟨u,rfl,ru⟩:=vals1 r;cases ru;have key:∀{its:List Value}(h':Heap) (tk:Nat) (t':Tok) (nn:Nat),nn=ns.length->(∀b o,b≠s.heap.objs.size->s.heap.get? b=some o->h'.get? b=some o) ->
   EP X aW σ Q (.int (preSum (λi=>ns.getD i 0) nn) t') {s with heap:=h',toks:=tk}:=λh' tk t' nn hn hk=>by
  subst hn;rw[RJ ns _ (aY _),fi];exact⟨.int ns.sum,H,I.kept (t':=tk) λb o e=>hk b o (dY (cJ e)) e,⟨_,rfl⟩,q⟩
 refine call_sum_walkG ?_;rcases hs with hs|hs
 ·obtain⟨its,rv,pl,hz⟩:=I.list hs;have hlt:a<s.heap.objs.size:=by obtain⟨o,n,e,_⟩:=pl;exact cJ e
  have hl:=rv.length;rw[av] at hl;refine Ob pl.isList ?_;refine⟨s.heap.objs.size,_,[s.heap.objs.size],_,_,_,λi=>ns.getD i 0,rfl,Walks.list (A:=X.A.in1) (I.ok.hd hc) _ a (dY hlt) its.toArray,⟨⟨_,ed _ rfl,rfl,rfl⟩,pl.isList.push _⟩,?_,λi v e=>Em rv (by simpa using e),λh' tk t' hk=>?_⟩
  ·intro b hb;show b<(s.heap.push _).objs.size;rw[show ∀o:Obj,(s.heap.push o).objs.size=s.heap.objs.size+1 from λo=>by simp[Heap.push]];rcases bT.mp hb with rfl|hb
   ·exact yV _
   ·rcases bT.mp hb with rfl|hb
    ·exact Dr hlt
    ·cases hb
  ·exact key (its:=its) h' tk t' _ (by simp[hl]) λb o hb e=>hk b o (by simpa using hb) (bX _ e)
 ·obtain⟨its,rv,pl,hz⟩:=I.tuple hs;have hlt:a<s.heap.objs.size:=pl.lt;have hl:=rv.length;rw[av] at hl;have pt:s.heap.IsTuple a its.toArray:=pl;refine uL pt ?_;refine⟨s.heap.objs.size,_,[s.heap.objs.size],_,_,_,λi=>ns.getD i 0,rfl,Walks.tuple (A:=X.A.in1) (I.ok.hd hc) _ a (dY hlt) its.toArray,⟨⟨_,ed _ rfl,rfl,rfl⟩,pt.push _⟩,?_,λi v e=>Em rv (by simpa using e),λh' tk t' hk=>?_⟩
  ·intro b hb;show b<(s.heap.push _).objs.size;rw[show ∀o:Obj,(s.heap.push o).objs.size=s.heap.objs.size+1 from λo=>by simp[Heap.push]];rcases bT.mp hb with rfl|hb
   ·exact yV _
   ·rcases bT.mp hb with rfl|hb
    ·exact Dr hlt
    ·cases hb
  ·exact key (its:=its) h' tk t' _ (by simp[hl]) λb o hb e=>hk b o (by simpa using hb) (bX _ e)
theorem vD{A:Around}{s:Shared}(j:A.handled=none)(f:s.heap.IsTupleIter it t i)(h:s.heap.IsTuple t items)
  (q:∀x,items[i]?=some x->∀a,a.IsTupleIter it t (i+1)->Heap.SameBut it s.heap a->Q x {s with heap:=a})
  (r:items[i]?=none->∀ a e,Heap.ExtBut it s.heap a->(∃ o,a.get? e=some o/\o.cls=.type "StopIteration")->E (.ref e) { s with heap:=a }):wpAny '*' A (Builtin.SmallTypes.nextOf (.ref it)) Q E s:=by
 rcases f with⟨o,b,d,c⟩
 rcases h with⟨u,p,_,n,k⟩
 refine ab (wpAny_callSpecial?_slot (name:=Str.ofString "__next__") ⟨o,b,d⟩ F.slot_tuple_iterator_next (kD F.slot_tuple_iterator_next ⟨o,b,d⟩ F.entry_tuple_iterator_next ?_ (F.args_tuple_iterator_next_1 _)))
 have l:(#[Value.ref t,.int i 0]:Array Value)[0]?=some (.ref t):=rfl;have m:(#[Value.ref t,.int i 0]:Array Value)[1]?=some (.int i 0):=rfl
 wp_walk using iV b c l,iV b c m,sD p k
 rw[n0];cases hx:items[i]? with
 |some x=>
  exact ab (sE b c '%' (am ⟨x,rfl,am (q x hx _ ⟨_,mS _ b (DF (uO c _)),(Oe ..).trans d,by rw[uO c];simp[rawInt]⟩ (.update ..))⟩))
 |none=>
  have g:A.in1.handled=none:=j
  wp_walk using sE b c '%'
  unfold raiseNew;refine ab (wpAny_handled ?_);rw[g];exact ab (am (wpAny_throw (r hx _ _ ((qu ..).extBut.push _ |>.push _) ⟨_,ed _ rfl,rfl⟩)))
theorem tL{A:Around}(p:A.handled=none)(f t:Addr)(k:t≠f)(c:Array Value):
  Draws prog w A f [f,t] (c.size+1) (λj v=>∃i,j=i+1/\c[i]?=some v) (λj h=>∃i,j=i+1/\h.IsTupleIter f t i/\h.IsTuple t c) where
 live:=λ_ _ ⟨_,_,⟨o,r,_⟩,_⟩=>⟨o,r⟩
 frame:=λ_ _ _ ⟨i,e,a,b⟩ n=>⟨i,e,a.at λo e=>n f '%' o e,b.at λo e=>n t '%' o e⟩
 item:=λj s Q E G m u=>by
  obtain⟨i,e,a,b⟩:=m;have C:i<c.size:=by lia
  refine vD p a b (λx l q d g=>?_) λz=>absurd z (by simp;lia)
  exact u _ q s.toks ⟨i,e,l⟩ ⟨i+1,by lia,d,b.extBut g.extBut k⟩ g
 done:=λs Q E ⟨i,e,a,b⟩ y=>vD p a b (λx l=>absurd l (by rw[Ov '!'];simp)) λ_=>y
theorem tM{A:Around}(k:A.handled=none)(d t:Addr)(c:Array Value)(i:Nat)(g:c.size<=i):
  Draws prog w A d [d,t] (i+1) (λ_ _=>False) (λj h=>j=i+1/\h.IsTupleIter d t i/\h.IsTuple t c) where
 live:=λ_ _ ⟨_,⟨o,l,_⟩,_⟩=>⟨o,l⟩
 frame:=λ_ _ _ ⟨e,a,b⟩ f=>⟨e,a.at λo e=>f d '%' o e,b.at λo e=>f t '%' o e⟩
 item:=λj s Q E p ⟨e,_⟩ _=>absurd e '!'
 done:=λs Q E ⟨_,a,b⟩ n=>vD k a b (λx m=>absurd m (by rw[Ov g];simp)) λ_=>n
theorem Inv.turned2{h':Heap}(I:Inv X g σ H s)(k:∀b o,b≠e->b≠it->s.heap.get? b=some o->h'.get? b=some o)(Q:H it=none)(h:it≠X.env.locals)
  (A:it∈X.ex\/X.s₀.heap.objs.size<=it)(R:∀x c,X.env.cells.lookup x=some c->c≠it)(J:∀p∈X.pn++g,p.1≠it)(w:H e=none)(gL:e≠X.env.locals)
  (C:e∈X.ex\/X.s₀.heap.objs.size<=e)(j:∀x c,X.env.cells.lookup x=some c->c≠e)(l:∀p∈X.pn++g,p.1≠e):Inv X g σ H {s with heap:=h',toks:=t'}:=by
 have d:∀b u,H b=some u->b≠it:=λb u e z=>by rw[z,Q] at e;cases e
 have f:∀b u,H b=some u->b≠e:=λb u q z=>by rw[z,w] at q;cases q
 refine I.step (g':=s.gens) (d':=s.drawn) (ch:=[e,it]) (λb G=>?_) (λb o _ _ a e _=>k b o (λz=>a (by simp[z])) (λz=>a (by simp[z])) e) (λb o _ _ a e _=>⟨o.slots,k b o (λz=>a (by simp[z])) (λz=>a (by simp[z])) e⟩) (λ_ _ _ _ n=>n)
  (λb o a e=>⟨o,k b o (λz=>a (by simp[z])) (λz=>a (by simp[z])) e⟩) (λ_ _ e=>e) (λ_ _ _ e=>e) (λb S e=>⟨#[],by rw[e];simp⟩) (λm y=>?_) (λb u e=>?_) I.bare
 ·rcases bT.mp G with z|z
  ·subst z;exact⟨C,gL,j,l⟩
  ·have E:b=it:=by simpa using z
   subst E;exact⟨A,h,R,J⟩
 ·obtain⟨o,i,t,P,r⟩:=y;exact⟨o,i,t,k _ o (cO gL) (cO h) P,r⟩
 ·refine(I.hok b u e).stay (λc v a q=>k c v ?_ ?_ q) (λ_ q=>q) λ_ _ q=>q
  ·rcases a with z|z
   ·rw[z];exact f b u e
   ·exact f c _ z
  ·rcases a with z|z
   ·rw[z];exact d b u e
   ·exact d c _ z
def SW(K:Fg) (a:Addr):It:=
 ⟨λi H=>∃b x,bz K H a b/\b[i]?=some x,λi H y c=>∃p,H p=none/\y=.ref p/\∀b x,bz K H a b->b[i]?=some x->c=aq H p (.tup [.int ((i+1:Nat):Int),x]),λi H=>∃b,bz K H a b/\b.length<=i⟩
theorem Uq{P:Program}{w:World}{K:Fg}{a2:List Expr}{k:Nat}{U:Pos}(e it a:Addr)(t:e≠it):
  ir P w K (.Tuple a2 k U) (SW K a) [e,it] e (λi h=>(∃f,IsEnum h e it ((i+1:Nat):Int) f)/\h.IsTupleIter it a i) where
 mem:=by simp
 obj:=λi h m b hb=>by
  obtain⟨⟨f,l⟩,o,e',c,d⟩:=m;rcases bT.mp hb with rfl|hb
  ·exact⟨_,l,λv z=>by
    have z':Data.fields _=Data.cell v:=z
    cases z'⟩
  ·have:b=it:=by simpa using hb
   subst this;exact⟨o,e',λv z=>by rw[d] at z;cases z⟩
 keep:=λi h h' m k=>⟨let ⟨f,l⟩:=m.1;⟨f,k e '%' _ l⟩,m.2.at λo z=>k it '%' o z⟩
 item:=by
  intro X hP hw hK hc i aW s σ H E I hf m hg;subst hP hw hK;obtain⟨xs,x,hq,hx⟩:=hg;obtain⟨⟨f,l⟩,j⟩:=m;obtain⟨g,rv,p,hz⟩:=I.tuple hq;have T:s.heap.IsTuple a g.toArray:=p;obtain⟨u,hu,ru⟩:=rv.get hx;have a6:a≠e:=λz=>by
   obtain⟨o,R,n,_⟩:=T;rw[z,l] at R;cases R;simp at n
  have a8:a≠it:=λz=>by
   obtain⟨o,R,n,_⟩:=T;obtain⟨o',C,a0,_⟩:=j;rw[z,C] at R;cases R;rw[a0] at n;simp at n
  have hi:i<g.length:=(cK.mp hu).1;have D:=tL (prog:=X.prog) (w:=X.w) (A:=X.A.in1) (I.ok.hd hc) it a a8 g.toArray;refine wpAny_pyNext_enum_itemD D (i:=i+1) l ⟨i,rfl,j,T⟩ (by simp;lia) t (by simp;exact⟨t,λz=>a6 z.symm⟩) λS h' r hP R a4 hT a9 hk=>?_
  obtain⟨i',e1,e2⟩:=hP;cases(show i'=i by lia);have eu:S=u:=by
   rw[uV,hu] at e2;exact(fY e2).symm
  subst eu;refine⟨_,rfl,wpAny_letOwnedTupleGo_enum R λh2 a5 J=>?_⟩;obtain⟨f0,f1,f2,f3,f4,f5⟩:=hf e '%';obtain⟨g0,g1,g2,g3,g4,g5⟩:=hf it '%';have G:e<s.heap.objs.size:=cJ l;have a1:it<s.heap.objs.size:=by obtain⟨o',C,_⟩:=j;exact cJ C
  have I1:Inv X aW σ (aq H s.heap.objs.size (.tup [.int ((i + 1:Nat):Int),x])) { s with heap:=s.heap.push { cls:=.type "tuple",data:=.seq #[.int ((i + 1:Nat):Int) r,S] },toks:=s.toks }:=
   I.laid (λ_ _ q=>bX _ q) (aY _) ⟨by simp;decide,[.int ((i+1:Nat):Int) r,S],.cons ⟨r,rfl⟩ (.cons ru .nil),⟨_,ed _ rfl,rfl,_,rfl⟩⟩
  have T2:h2.get? s.heap.objs.size=some { cls:=.type "tuple",data:=.seq #[.int ((i + 1:Nat):Int) r,S] }:=(J.2 _ (mL G)).trans hT
  have I2:Inv X aW σ (aq H s.heap.objs.size (.tup [.int ((i+1:Nat):Int),x])) {s with heap:=h2,toks:=r+1}:=by
   refine Inv.turned2 (s:={ s with heap:=s.heap.push { cls:=.type "tuple",data:=.seq #[.int ((i + 1:Nat):Int) r,S] },toks:=s.toks }) (h':=h2) (t':=r + 1) (e:=e) (it:=it) I1 (λb o Y a7 q=>?_) (by rw[zq (dY a1)]; exact g0) g1 g3 g4 g5 (by rw[zq (dY G)]; exact f0) f1 f3 f4 f5
   have q':(s.heap.push { cls:=.type "tuple",data:=.seq #[.int ((i + 1:Nat):Int) r,S] }).get? b=some o:=q
   rcases Heap.get?_push_cases q' with⟨z,z2⟩|z
   ·rw[z,z2];exact T2
   ·exact(J.2 _ Y).trans (hk b o Y a7 z)
  refine⟨.ref s.heap.objs.size,_,I2,rfl,⟨s.heap.objs.size,I.fresh,rfl,λys y hy e'=>?_⟩,⟨⟨S,?_⟩,?_⟩,λb hb=>?_⟩
  ·rw[I.tuple_inj hy hq,hx] at e';cases e'
   rfl
  ·have:(((i+1+1:Nat)):Int)=(((i+1:Nat)):Int)+1:=by push_cast;rfl
   rw[this];exact a5
  ·obtain⟨i',e3,e4,_⟩:=a4;cases(show i'=i+1 by lia);exact e4.at λo q=>(J.2 it (cO t)).trans q
  ·rcases bT.mp hb with rfl|hb
   ·rw[zq (dY G)];exact f0
   ·have:b=it:=by simpa using hb
    subst this;rw[zq (dY a1)];exact g0
 done:=by
  intro X hP hw hK hc i aW s σ H E I hf m hg;subst hP hw hK;obtain⟨xs,hq,hx⟩:=hg;obtain⟨⟨f,l⟩,j⟩:=m;obtain⟨g,rv,p,hz⟩:=I.tuple hq;have T:s.heap.IsTuple a g.toArray:=p;have hl:=rv.length;obtain⟨g0,g1,g2,g3,g4,g5⟩:=hf it '%';have D:=tM (prog:=X.prog) (w:=X.w) (A:=X.A.in1) (I.ok.hd hc) it a g.toArray i (by simp;lia);exact wpAny_pyNext_enum_endD D l ⟨rfl,j,T⟩ λh' a3=>⟨rfl,I.turned (t':=s.toks) (λb o hb e=>a3 b o hb e) g0 g1 g3 g4 g5⟩
 self:=λA i s Q E m h=>let ⟨f,l⟩:=m.1;wpAny_pyIter_enum l h
theorem Nr(a:Addr)(e:Array Value)(n:Obj)(t:Tok):
  Meets (Builtin.«enumerate.__new__» ⟨[.type "enumerate",.ref a],[(Str.ofString "start",.int 1 t)]⟩) (λ_ R s=>s.heap.get? a=some n/\s.heap.IsTuple a e /\
   R (.ok (.ret (.ref (s.heap.objs.size+1))))
    { s with heap:=(s.heap.push { cls:=.type "tuple_iterator",data:=.fields #[.ref a,.int 0 0] }).push { cls:=.type "enumerate",data:=.fields #[.none,.bool false,.ref s.heap.objs.size,rawInt 1,.none,.none] } }):=by
 refine Meets.of_wp ?_;rintro k w A R ⟨l,g,d,o,os⟩ ⟨j,m,i⟩;have h:=sub_enumerate;have f:(l.push { cls:=.type "tuple_iterator",data:=.fields #[.ref a,.int 0 0] }).objs.size=l.objs.size + 1:=o5 ..
 rw[←f] at i
 wp_walk using OB j
 refine wpAny_stack_any λ_=>am ?_
 split
 ·rename_i c _ _ _ _ _;generalize (c==Value.type "enumerate")=b
  cases b<;>(wp_walk using OB j,uL m;exact⟨_,rfl,i⟩)
 ·wp_walk using OB j,uL m
  exact⟨_,rfl,i⟩
theorem Ju{T e:String}{b a:Value}{c:List Value}{k:Str×Value}{f:List (Str×Value)}(l:typeLookup (.type T) "__init__"=pure (some (.builtin "object.__init__")))(j:Bind.madeBy (.type T)=pure (some e))
  (h:(some e != some "object.__new__")=true):Meets (Builtin.«object.__init__» ⟨b::a::c,k::f⟩) (λ_ R s=>s.TypeIs b T/\R (.ok (.ret .none)) s):=
 .of_wp λ_ _ _ _ _ d=>by
  obtain⟨i,g⟩:=d
  repeat any_goals first|assumption|wp_step
  exact⟨_,rfl,g⟩
theorem L5(a:Value)(t:Tok):checkBuiltinCall "enumerate.__new__" ⟨[.type "enumerate",a],[(Str.ofString "start",.int 1 t)]⟩=pure ():=by kernel_rfl
theorem Mc(o a:Value)(t:Tok):argsOk "object.__init__" ⟨[o,a],[(Str.ofString "start",.int 1 t)]⟩:=by kernel_rfl
theorem TQ{d:Program}{w:World}{A:Around}{E:Value->Shared->Prop}{s:Shared}{a:Addr}{f:Array Value}{t:Tok}{Q:Value->Shared->Prop}(n:s.heap.IsTuple a f)
  (h:∀l,IsEnum l (s.heap.objs.size+1) s.heap.objs.size 1 .none->l.IsTupleIter s.heap.objs.size a 0->(∀b o,s.heap.get? b=some o->l.get? b=some o)->Q (.ref (s.heap.objs.size+1)) {s with heap:=l}):
  wpAny (model d w) A (call (.type "enumerate") [.ref a] [(Str.ofString "start",.int 1 t)]) Q E s:=by
 rcases id n with⟨z,k,_⟩
 have g:=F.called_enumerate;rcases g.mro with⟨c,P,C⟩
 have v:=g.made;have J:=g.sub;have H:=g.notType;have I:=g.canCreate;have u:=g.init.lookup;have i:(s.heap.push { cls:=.type "tuple_iterator",data:=.fields #[.ref a,.int 0 0] }).objs.size=s.heap.objs.size + 1:=o5 ..
 have p:IsEnum ((s.heap.push { cls:=.type "tuple_iterator",data:=.fields #[.ref a,.int 0 0] }).push { cls:=.type "enumerate",data:=.fields #[.none,.bool false,.ref s.heap.objs.size,rawInt 1,.none,.none] }) (s.heap.objs.size + 1) s.heap.objs.size 1 .none:=by
  rw[←i];exact ed _ rfl
 have done:=h _ p ⟨_,bX _ (ed _ rfl),rfl,rfl⟩ λb o x=>bX _ (bX _ x)
 refine wpAny_call (codeAny_of_tree (am ⟨Code.quiet_builtin _ (by decide +kernel),sG F.entry_type_call ?_⟩));rw[Around.under_plain (weight_type_call_type _ _ _) (units_type_call_type _ _ _)]
 repeat any_goals first|assumption|wp_step
 refine uD (Oo g.plain F.entry_enumerate_new (oY (L5 _ t) (Nr a f z t d w A.in1 (wants (λx m=>m.TypeIs x "enumerate"/\Q x m) E) s ⟨k,n,⟨_,p,rfl⟩,done⟩))) ?_
 clear done p i h n k;rintro(e|_|_|_|x) m j
 case ok.ret=>
  obtain⟨T,q⟩:=j;have G:=g.init.bind x
  repeat any_goals first|assumption|wp_step
  refine uD (Oo g.init.plain F.entry_object_init (g.init.check _ _ _ _ _ _ _ _ T (Mc _ _ t) (Ju u v ')' d w A.in1 (wants (λy r=>y=.none/\Q x r) E) _ ⟨T,rfl,q⟩))) ?_;rintro(e|_|_|_|y) r j
  case ok.ret=>
   obtain⟨rfl,q⟩:=j
   repeat any_goals first|assumption|wp_step
  all_goals first|exact j|exact j.elim
 all_goals first|exact j|exact j.elim
theorem BD{M:Model}{T:String}{b:List (Bool×Sem Value)}{c:List (Option Str×Sem Value)}(f:b.any (·.1)=false)(e:c.any (·.1.isNone)=false)
  (h:wpAny M A (evalArgs (.type T) true b c) (λa d=>wpAny M A (call (.type T) (first++a.pos) a.kw) Q E d) E s):wpAny M A (callWith pos (.type T) first b c) Q E s:=by
 unfold callWith;refine ab (jj (iU h ?_ λ_ _=>id));intro a d k;rw[f,e];exact ab (Db (ab (am (ab (iU k (λ_ _ q=>ab (jj (wpAny_point (am q)))) λ_ _=>id)))))
def tI(K:Fg) (c:TE):TI:=λd H R=>c d H λx H1=>∃a,x=.ref a/\(∃b,bz K H1 a b)/\R (SW K a) H1
theorem Ms(G:Gl X "enumerate")(E:X.mg "enumerate"=none)(C:PE X l tl)
  (o:starEach [l] X.env=[(false,eval l X.env)]:=by rfl):
  PI X (.Tuple elts k tpos) (.Call (.Name "enumerate" p) [l] [⟨some "start",.Constant (.int 1) j cpos,kpos⟩] pos) (tI X.K tl):=by
 intro u s P H R I h;refine qo (l6 I G E PyProof.Rows.boot_enumerate ?_);refine BD (by rw[o];rfl) rfl ?_;rw[o];refine evalArgs_kwB rfl ?_;refine qq (aZ (C u s P H _ I h) λv c i=>?_);obtain⟨x,H1,m,A,w⟩:=i;refine sN ?_;refine kws_cons ?_;refine wpAny_Constant_int (kws_nil ?_);obtain⟨a,rfl,⟨xs,t⟩,q⟩:=w;cases A;have r:=m.tok (c.toks+1);obtain⟨Q,Y,S,U⟩:=r.tuple t;refine TQ (show _ from S) λn d f T=>?_
 refine wpAny_pyIter_enum d ?_;have y:=r.kept (h':=n) (t':=c.toks+1) T;refine⟨c.heap.objs.size+1,[c.heap.objs.size+1,c.heap.objs.size],_,_,H1,rfl,y,Uq _ c.heap.objs.size a (Nat.succ_ne_self _),⟨⟨_,d⟩,f⟩,λb J=>?_,q⟩;have e:c.heap.objs.size<=b:=by
  have g:b=c.heap.objs.size+1\/b=c.heap.objs.size:=by simpa using J
  cases g with
  |inl z=>exact z ▸ sj _
  |inr z=>exact z ▸ aY _
 exact m.fpOk e (m.hok.fresh e)
noncomputable def cL(gt:Bool) (n:Int) (a:List Int):Int:=a.foldl (λi j=>if(if gt then decide (j > i) else decide (j<i))=true then j else i) n
theorem EQ:∀(ns:List Int) (n:Int),cL true n ns∈n::ns/\∀a∈n::ns,a<=cL true n ns
 |[],n=>⟨by simp[cL],by simp[cL]⟩
 |m::ns,n=>by
  have e:cL true n (m::ns)=cL true (if m > n then m else n) ns:=by simp[cL]
  obtain⟨d,c⟩:=EQ ns (if m > n then m else n);rw[e];refine⟨?_,λa ha=>?_⟩
  ·rcases bT.mp d with z|z
   ·rw[z];split<;>simp
   ·simp[z]
  ·have b:=c _ eF;rcases bT.mp ha with rfl|ha
   ·refine C8 ?_ b;split<;>lia
   ·rcases bT.mp ha with rfl|ha
    ·refine C8 ?_ b;split<;>lia
    ·exact c a (cH _ ha)
theorem TL{ns:List Int}(g:k=ns.length):(n::ns).getD (argBest (λi j=>decide ((n::ns).getD i 0 >(n::ns).getD j 0)) k) 0=cL true n ns:=by
 subst g;obtain⟨o,l⟩:=argBest_gt (λi=>(n::ns).getD i 0) ns.length;obtain⟨c,d⟩:=EQ ns n;have b:argBest (λi j=>decide ((n::ns).getD i 0 >(n::ns).getD j 0)) ns.length<(n::ns).length:=by rw[dm];lia
 obtain⟨j,a,f⟩:=oi c;have h:=l j (by simp at a;lia);have m:=d ((n::ns).getD (argBest (λi j=>decide ((n::ns).getD i 0 >(n::ns).getD j 0)) ns.length) 0) (by rw[dM,cV b];exact lE b);have e:(n::ns).getD j 0=cL true n ns:=by rw[dM,cV a,f];rfl
 rw[e] at h;lia
section
variable {X:Cx}
theorem Inv.turnedL{h:List (Addr×Obj)}{i:St}{H:Hp}{s:Shared}{h':Heap}{t':Nat}{ch:List Addr}(I:Inv X h i H s)(k:∀b o,b∉ch->s.heap.get? b=some o->h'.get? b=some o)(f:∀b∈ch,dX X h H b):Inv X h i H {s with heap:=h',toks:=t'}:=by
 have d:∀b u,H b=some u->b∉ch:=λb u e z=>by have:=(f b z).1;rw[e] at this;cases this
 have g:X.env.locals∉ch:=λz=>(f _ z).2.1 rfl
 refine I.step (g':=s.gens) (d':=s.drawn) (ch:=ch) (λb j=>?_) (λb o _ _ a e _=>k b o a e) (λb o _ _ a e _=>⟨o.slots,k b o a e⟩) (λ_ _ _ _ n=>n)
  (λb o a e=>⟨o,k b o a e⟩) (λ_ _ e=>e) (λ_ _ _ e=>e) (λb E e=>⟨#[],by rw[e];simp⟩) (λm l=>?_) (λb u e=>?_) I.bare
 ·obtain⟨G,w,J,y,p,C⟩:=f b j;exact⟨y,w,p,C⟩
 ·obtain⟨o,A,t,x,r⟩:=l;exact⟨o,A,t,k _ o g x,r⟩
 ·refine(I.hok b u e).stay (λc v a q=>k c v ?_ q) (λ_ q=>q) λ_ _ q=>q
  rcases a with z|z
  ·rw[z];exact d b u e
  ·exact d c _ z
end
structure nK (z TI TO i1 i2 t1 t2:Addr):Prop where
 nd:[z,TI,TO,i1,i2].Nodup
 o1:t1∉[z,TI,TO,i1,i2]
 o2:t2∉[z,TI,TO,i1,i2]
structure vb (h:Heap) (z TI TO i1 i2 t1 t2:Addr) (f0:Value) (j:Nat):Prop where
 zip:IsZip h z TI TO f0
 its:IsPair h TI (.ref i1) (.ref i2)
 out:∃a b,IsPair h TO a b
 it1:h.IsTupleIter i1 t1 j
 it2:h.IsTupleIter i2 t2 j
theorem yG(a b c d e x:Addr)(h:[a,b,c,d,e].Nodup):a≠b/\a≠c/\a≠d/\a≠e/\b≠c/\b≠d/\b≠e/\c≠d/\c≠e/\d≠e:=by
 simp at h;obtain⟨⟨p,o,k,n⟩,⟨m,j,g⟩,⟨l,i⟩,f⟩:=h;exact⟨p,o,k,n,m,j,g,l,i,f⟩
section
variable {prog:Program}{w:World}{A:Around}{E:Value->Shared->Prop}{s:Shared}{z:Addr}{TI:Addr}{TO:Addr}{i1:Addr}{i2:Addr}{t1:Addr}{t2:Addr}{xs:Array Value}{ys:Array Value}{j:Nat}
theorem M5{Q:Fin->Shared->Prop}(hh:A.handled=none)(R:nK z TI TO i1 i2 t1 t2)(Z:vb s.heap z TI TO i1 i2 t1 t2 .none j)(hx:s.heap.IsTuple t1 xs)(hy:s.heap.IsTuple t2 ys)
  (hQ:∀x y,xs[j]?=some x->ys[j]?=some y->∀g,vb g z TI TO i1 i2 t1 t2 (rawInt s.heap.objs.size) (j+1)->IsPair g s.heap.objs.size x y->g.objs.size=s.heap.objs.size+1 ->
   (∀c o,c∉[z,TO,i1,i2]->s.heap.get? c=some o->g.get? c=some o)->Q (.done (.ret (.ref s.heap.objs.size))) {s with heap:=g})
  (hE:xs[j]?=none\/ys[j]?=none->∀ g e,(∀ c o,c∉[z,TO,i1,i2]->s.heap.get? c=some o->g.get? c=some o)->(∃ o,g.get? e=some o/\o.cls=.type "StopIteration")->E (.ref e) { s with heap:=g }):wpAny '*' A (Builtin.«zip.__next__» ⟨[.ref z],[]⟩) Q E s:=by
 obtain⟨n1,n2,n3,n4,n5,n6,n7,n8,n9,a4⟩:=yG z TI TO i1 i2 0 R.nd;have a1:=R.o1;have a2:=R.o2;simp only[bT,pd,oW,not_or] at a1 a2;obtain⟨p1,p2,p3,p4,p5⟩:=a1;obtain⟨q1,q2,q3,q4,q5⟩:=a2;obtain⟨G,hI,⟨a,b,hO⟩,k1,k2⟩:=Z;refine(?_:wpAny _ _ (field (.ref z) 2 >>= _) Q E s);refine ab (iV G rfl (x:=.bool false) rfl (?_:wpAny _ _ (field (.ref z) 3 >>= _) _ _ _));refine ab (iV G rfl (x:=.ref TI) rfl (ab (sD hI rfl (?_:wpAny _ _ (Builtin.SmallTypes.ownedTupleIsFree (.ref z) >>= _) _ _ _))));refine ab (m:=Builtin.SmallTypes.ownedTupleIsFree (.ref z)) (show wpAny _ _ (field (.ref z) 0 >>= _) _ _ _ from ab (iV G rfl (x:=.none) rfl (am ?_)));simp only[hZ];refine ab (mH (ab (iV G rfl (x:=.ref TO) rfl (ab (yX G '%' λg1 a6 n=>?_)))));have i:IsZip g1 z TI TO .ellipsis:=a6;simp only[NZ,List.zipIdx_cons,List.forIn_nil,List.zipIdx_nil];refine ab (ab (ab (wpAny_onRaise (?_:wpAny _ _ (Builtin.SmallTypes.nextOf (.ref i1) >>= _) _ _ _))));refine ab (vD hh (s:={s with heap:=g1}) (k1.extBut n.extBut (cO n3)) (hx.extBut n.extBut p1) (λx v g2 k3 p=>am ?_) λv g2 ee P he=>?_)
 ·have U:IsPair g2 TO a b:=p.extBut _ _ n8 (n.extBut _ _ (cO n2) hO);refine ab (sD U rfl (ab (wpAny_updateSeq_pair (s:={s with heap:=g2}) U λg3 b0 l=>ab (qa (am ?_)))));have J:IsPair g3 TO x b:=b0;refine ab (ab (wpAny_onRaise (?_:wpAny _ _ (Builtin.SmallTypes.nextOf (.ref i2) >>= _) _ _ _)));refine ab (vD hh (s:={s with heap:=g3}) (((k2.extBut n.extBut (cO n4)).extBut p.extBut (cO a4)).extBut l.extBut (cO n9)) (((hy.extBut n.extBut q1).extBut p.extBut q4).extBut l.extBut q3) (λy C g4 k4 T=>am ?_) λC g4 ee P he=>?_)
  ·have H:IsPair g4 TO x b:=T.extBut _ _ n9 J;refine ab (sD H rfl (ab (wpAny_updateSeq_pair (s:={s with heap:=g4}) H λf b2 u=>ab (qa (am (am ?_))))));have t:IsPair f TO x y:=b2;refine ab (sD t rfl (ab (wpAny_newTuple ?_)));have sz:f.objs.size=s.heap.objs.size:=by rw[u.1,T.1,l.1,p.1,n.1]
   have a3:IsZip f z TI TO .ellipsis:=u.extBut _ _ n2 (T.extBut _ _ n4 (l.extBut _ _ n2 (p.extBut _ _ n3 i)));have kp:∀c o,c∉[z,TO,i1,i2]->s.heap.get? c=some o->f.get? c=some o:=λc o d e=>by
    simp only[bT,pd,oW,not_or] at d;exact u.extBut _ _ d.2.1 (T.extBut _ _ d.2.2.2 (l.extBut _ _ d.2.1 (p.extBut _ _ d.2.2.1 (n.extBut _ _ d.1 e))))
   have m1:f.IsTupleIter i1 t1 (j+1):=((k3.extBut l.extBut (cO n8)).extBut T.extBut a4).extBut u.extBut (cO n8);have m2:f.IsTupleIter i2 t2 (j+1):=k4.extBut u.extBut (cO n9);have lz:z<f.objs.size:=cJ a3;have b1:IsZip (f.push { cls:=.type "tuple",data:=.seq #[x,y] }) z TI TO .ellipsis:=bX _ a3
   refine ab (m:=Builtin.SmallTypes.ownedTupleHandOut (.ref z) (.ref f.objs.size)) (ab (yX b1 '%' λg7 a7 e7=>?_));have I:IsZip g7 z TI TO (rawInt f.objs.size):=a7;refine yX I '%' λY a8 e8=>am ?_
   have r:IsZip Y z TI TO (rawInt f.objs.size):=a8;have X:∀c o,c≠z->f.get? c=some o->Y.get? c=some o:=λc o d e=>e8.extBut _ _ d (e7.extBut _ _ d (bX _ e))
   have hT:IsPair Y f.objs.size x y:=e8.extBut _ _ (mL lz) (e7.extBut _ _ (mL lz) (ed _ rfl));have s8:Y.objs.size=f.objs.size+1:=by rw[e8.1,e7.1,o5]
   rw[sz] at r hT s8;have a5:IsPair f TI (.ref i1) (.ref i2):=kp _ _ (by simp[cO n1,n5,n6,n7]) hI;have a9:=hQ x y v C Y ⟨r,X _ _ (cO n1) a5,⟨x,y,X _ _ (cO n2) t⟩,m1.at λo e=>X _ o (cO n3) e,m2.at λo e=>X _ o (cO n4) e⟩ hT s8 λc o d e=>X c o (λq=>d (by simp[q])) (kp c o d e)
   show Q (.done (.ret (.ref f.objs.size))) _;rw[sz];exact a9
  ·obtain⟨oe,h,k⟩:=he;have S:IsZip g4 z TI TO .ellipsis:=P _ _ n4 (l.extBut _ _ n2 (p.extBut _ _ n3 i));have nz:ee≠z:=λq=>by rw[q,S] at h;cases h;simp at k
   refine yX S '%' λf _ u=>hE (.inr C) f ee (λc o d e=>?_) ⟨oe,u.extBut _ _ nz h,k⟩
   simp only[bT,pd,oW,not_or] at d;exact u.extBut _ _ d.1 (P _ _ d.2.2.2 (l.extBut _ _ d.2.1 (p.extBut _ _ d.2.2.1 (n.extBut _ _ d.1 e))))
 ·obtain⟨oe,h,k⟩:=he;have a0:IsZip g2 z TI TO .ellipsis:=P _ _ n3 i;have nz:ee≠z:=λq=>by rw[q,a0] at h;cases h;simp at k
  refine yX a0 '%' λg3 _ l=>hE (.inl v) g3 ee (λc o d e=>?_) ⟨oe,l.extBut _ _ nz h,k⟩
  simp only[bT,pd,oW,not_or] at d;exact l.extBut _ _ d.1 (P _ _ d.2.2.1 (n.extBut _ _ d.1 e))
end
section
variable {prog:Program}{w:World}{A:Around}{E:Value->Shared->Prop}{s:Shared}{z:Addr}{TI:Addr}{TO:Addr}{i1:Addr}{i2:Addr}{t1:Addr}{t2:Addr}{xs:Array Value}{ys:Array Value}{j:Nat}
theorem Qz{Q:Option Value->Shared->Prop}(m:A.handled=none)(R:nK z TI TO i1 i2 t1 t2)(Z:vb s.heap z TI TO i1 i2 t1 t2 .none j)(q:s.heap.IsTuple t1 xs)(r:s.heap.IsTuple t2 ys)
  (t:∀x y,xs[j]?=some x->ys[j]?=some y->∀g,vb g z TI TO i1 i2 t1 t2 (rawInt s.heap.objs.size) (j+1)->IsPair g s.heap.objs.size x y->g.objs.size=s.heap.objs.size+1 ->
   (∀c o,c∉[z,TO,i1,i2]->s.heap.get? c=some o->g.get? c=some o)->Q (some (.ref s.heap.objs.size)) {s with heap:=g})
  (u:xs[j]?=none\/ys[j]?=none->∀g,(∀c o,c∉[z,TO,i1,i2]->s.heap.get? c=some o->g.get? c=some o)->Q none {s with heap:=g}):wpAny '*' A (pyNext (.ref z)) Q E s:=by
 have T:s.TypeIs (.ref z) "zip":=⟨_,Z.zip,rfl⟩
 unfold pyNext;refine ab (qd (wpAny_callSpecial?_slot (name:=Str.ofString "__next__") T F.slot_zip_next (kD F.slot_zip_next T F.entry_zip_next (M5 m R Z q r (λx y a v g i f n l=>⟨_,rfl,am (t x y a v g i f n l)⟩) λa g e k d=>?_) (F.args_zip_next_1 _))))
 obtain⟨o,p,h⟩:=d;exact ab (Dj (T:="StopIteration") (b:=true) ⟨o,p,h⟩ isSubtype_stop (am (u a g k)))
end
def SV(K:Fg) (a b:Addr):It:=
 ⟨λi H=>∃c d x y,bz K H a c/\bz K H b d/\c[i]?=some x/\d[i]?=some y,
  λi H u e=>∃p,H p=none/\u=.ref p/\∀c d x y,bz K H a c->bz K H b d->c[i]?=some x->d[i]?=some y->e=aq H p (.tup [x,y]),
  λi H=>∃c d,bz K H a c/\bz K H b d/\(c.length<=i\/d.length<=i)⟩
theorem MZ{P:Program}{w:World}{K:Fg}{a6:List Expr}{k:Nat}{a0:Pos}{z TI TO n i2 a b:Addr}(R:nK z TI TO n i2 a b):
  ir P w K (.Tuple a6 k a0) (SV K a b) [z,TI,TO,n,i2] z (λi h=>vb h z TI TO n i2 a b .none i) where
 mem:=by simp
 obj:=λi h f c Y=>by
  obtain⟨u,v,G⟩:=f.out;obtain⟨o1,e1,_,d1⟩:=f.it1;obtain⟨o2,p,_,d2⟩:=f.it2;have d:c=z\/c=TI\/c=TO\/c=n\/c=i2:=by simpa using Y
  rcases d with rfl|rfl|rfl|rfl|rfl
  ·exact⟨_,f.zip,λv q=>by cases(show Data.fields _=Data.cell v from q)⟩
  ·exact⟨_,f.its,λv q=>by cases(show Data.seq _ _=Data.cell v from q)⟩
  ·exact⟨_,G,λv q=>by cases(show Data.seq _ _=Data.cell v from q)⟩
  ·exact⟨o1,e1,λv q=>by rw[d1] at q;cases q⟩
  ·exact⟨o2,p,λv q=>by rw[d2] at q;cases q⟩
 keep:=λi h h' f kk=>by
  obtain⟨u,v,G⟩:=f.out;exact⟨kk z '%' _ f.zip,kk TI '%' _ f.its,⟨u,v,kk TO '%' _ G⟩,f.it1.at λo e=>kk n '%' o e,f.it2.at λo e=>kk i2 '%' o e⟩
 item:=by
  intro X hP hw hK Y i aW s σ H E I hf f hg;subst hP hw hK;obtain⟨xs,ys,x,y,t,r,hx,hy⟩:=hg;obtain⟨j,C,p1,a8⟩:=I.tuple t;obtain⟨l,J,p2,a9⟩:=I.tuple r;obtain⟨u1,a5,b2⟩:=C.get hx;obtain⟨u2,a1,b0⟩:=J.get hy;refine Qz (I.ok.hd Y) R f (show s.heap.IsTuple a j.toArray from p1) (show s.heap.IsTuple b l.toArray from p2) (λT U e1 p g Z hT a7 kp=>?_) λe=>?_
  ·have f1:T=u1:=by rw[uV,a5] at e1;exact(fY e1).symm
   have f2:U=u2:=by rw[uV,a1] at p;exact(fY p).symm
   subst f1 f2;refine⟨_,rfl,wpAny_letOwnedTupleGo_zip Z.zip λg2 b1 S=>?_⟩;have a2:∀c∈[z,TI,TO,n,i2],c<s.heap.objs.size:=λc d=>by
    obtain⟨uu,vv,G⟩:=f.out;obtain⟨o1,e1,_⟩:=f.it1;obtain⟨o2,p,_⟩:=f.it2;have a3:c=z\/c=TI\/c=TO\/c=n\/c=i2:=by simpa using d
    rcases a3 with rfl|rfl|rfl|rfl|rfl
    ·exact cJ f.zip
    ·exact cJ f.its
    ·exact cJ G
    ·exact cJ e1
    ·exact cJ p
   have b3:=a2 z '%';have I1:Inv X aW σ (aq H s.heap.objs.size (.tup [x,y])) { s with heap:=s.heap.push { cls:=.type "tuple",data:=.seq #[T,U] },toks:=s.toks }:=
    I.laid (λ_ _ q=>bX _ q) (aY _) ⟨by simp;decide,[T,U],.cons b2 (.cons b0 .nil),⟨_,ed _ rfl,rfl,_,rfl⟩⟩
   have a4:∀c∈[z,TI,TO,n,i2],dX X aW (aq H s.heap.objs.size (.tup [x,y])) c:=λc d=>by
    obtain⟨f0,fr⟩:=hf c d;exact⟨by rw[zq (dY (a2 c d))];exact f0,fr⟩
   have I2:Inv X aW σ (aq H s.heap.objs.size (.tup [x,y])) {s with heap:=g2,toks:=s.toks}:=by
    refine Inv.turnedL (s:={ s with heap:=s.heap.push { cls:=.type "tuple",data:=.seq #[T,U] },toks:=s.toks }) (h':=g2) (t':=s.toks) (ch:=[z,TI,TO,n,i2]) I1 (λc o d q=>?_) a4
    have q':(s.heap.push { cls:=.type "tuple",data:=.seq #[T,U] }).get? c=some o:=q
    have cz:c≠z:=λe=>d (by simp[e])
    rcases Heap.get?_push_cases q' with⟨e1,p⟩|e1
    ·rw[e1,p];exact S.extBut _ _ (mL b3) hT
    ·exact S.extBut _ _ cz (kp c o (λm=>d (by simp at m ⊢;rcases m with m|m|m|m<;>simp[m])) e1)
   obtain⟨d1,d2,d3,d4,_⟩:=yG z TI TO n i2 0 R.nd;obtain⟨uu,vv,G⟩:=Z.out;refine⟨.ref s.heap.objs.size,_,I2,rfl,⟨s.heap.objs.size,I.fresh,rfl,λas bs x' y' ha hb ex ey=>?_⟩,⟨b1,S.extBut _ _ (cO d1) Z.its,⟨uu,vv,S.extBut _ _ (cO d2) G⟩,Z.it1.extBut S.extBut (cO d3),Z.it2.extBut S.extBut (cO d4)⟩,λc d=>(a4 c d).1⟩;rw[I.tuple_inj ha t,hx] at ex;rw[I.tuple_inj hb r,hy] at ey;cases ex;cases ey
   rfl
  ·rcases e with e|e
   ·rw[uV,a5] at e;cases e
   ·rw[uV,a1] at e;cases e
 done:=by
  intro X hP hw hK Y i aW s σ H E I hf f hg;subst hP hw hK;obtain⟨xs,ys,t,r,hl⟩:=hg;obtain⟨j,C,p1,a8⟩:=I.tuple t;obtain⟨l,J,p2,a9⟩:=I.tuple r;have l1:=C.length;have l2:=J.length;refine Qz (I.ok.hd Y) R f (show s.heap.IsTuple a j.toArray from p1) (show s.heap.IsTuple b l.toArray from p2) (λT U e1 p g Z hT a7 kp=>?_) λ_ g kp=>⟨rfl,I.turnedL (t':=s.toks) (ch:=[z,TI,TO,n,i2]) (λc o d e=>kp c o (λm=>d (by simp at m ⊢;rcases m with m|m|m|m<;>simp[m])) e) hf⟩
  rw[uV] at e1 p;have g1:=(cK.mp e1).1;have g2:=(cK.mp p).1;lia
 self:=λA i s Q E f h=>wpAny_pyIter_zip f.zip h
noncomputable abbrev mX(l:Addr):Obj:={ cls:=.type "tuple_iterator",data:=.fields #[.ref l,.int 0 0] }
noncomputable abbrev two(a b:Value):Obj:={ cls:=.type "tuple",data:=.seq #[a,b] }
noncomputable abbrev vI(a b:Addr):Obj:={ cls:=.type "zip",data:=.fields #[.none,.bool false,.bool false,.ref a,.ref b] }
abbrev nA(h:Heap) (a:Addr):Heap:=h.push (mX a)
abbrev ny(h:Heap) (a b:Addr):Heap:=(nA h a).push (mX b)
abbrev nw(h:Heap) (a b:Addr):Heap:=(ny h a b).push (two (.ref h.objs.size) (.ref (nA h a).objs.size))
abbrev nv(h:Heap) (a b:Addr):Heap:=(nw h a b).push (two .none .none)
abbrev kj(h:Heap) (a b:Addr):Heap:=(nv h a b).push (vI (ny h a b).objs.size (nw h a b).objs.size)
theorem M4(a b:Addr)(xs ys:Array Value):
  Meets (Builtin.«zip.__new__» ⟨[.type "zip",.ref a,.ref b],[]⟩) (λ_ R s=>s.heap.IsTuple a xs/\s.heap.IsTuple b ys/\R (.ok (.ret (.ref (nv s.heap a b).objs.size))) { s with heap:=kj s.heap a b }):=
 .of_wp λf w A R s h=>by
  obtain⟨j,g,d,i,os⟩:=s;obtain⟨l,k,h⟩:=h;have sub:=sub_zip;have e:Heap.IsTuple (Shared.heap ⟨j,g,d,i,os⟩) a xs:=l;have c:Heap.IsTuple (Shared.heap ⟨j.push (mX a),g,d,i,os⟩) b ys:=k.push _
  wp_walk using uL e,uL c
  exact⟨_,rfl,h⟩
theorem Qk{n a b:Nat}(f:a<n)(e:b<n):nK (n+4) (n+2) (n+3) n (n+1) a b/\∀c∈[n+4,n+2,n+3,n,n+1],n<=c:=
 have q:∀{l:Nat},l<n->l∉[n+4,n+2,n+3,n,n+1]:=λ{l} h m=>by
  simp only[bT,pd,oW] at m;lia
 ⟨⟨by simp,q f,q e⟩,λc d=>by simp at d;lia⟩
theorem Nd{s:Shared}(q:s.heap.IsTuple l1 xs)(p:s.heap.IsTuple l2 ys)
  (h:∀g z TI TO i k,nK z TI TO i k l1 l2->vb g z TI TO i k l1 l2 .none 0->(∀c∈[z,TI,TO,i,k],s.heap.objs.size<=c) ->
   (∀ c o,s.heap.get? c=some o->g.get? c=some o)->Q (.ref z) { s with heap:=g }):wpAny '*' A (call (.type "zip") [.ref l1,.ref l2]) Q E s:=by
 have a:l1<s.heap.objs.size:=by obtain⟨_,e,_⟩:=q;exact cJ e
 have b:l2<s.heap.objs.size:=by obtain⟨_,e,_⟩:=p;exact cJ e
 refine callType_new F.called_zip ')' (F.typeCall_zip_2 _ _) (F.newCall_zip_2 _ _) (λl=>F.args_object_init_3 l _ _) F.entry_zip_new (M4 l1 l2 xs ys) ⟨q,p,?_⟩;have f:(nA s.heap l1).objs.size=s.heap.objs.size+1:=o5 ..
 have m:(ny s.heap l1 l2).objs.size=s.heap.objs.size+2:=(o5 ..).trans (by rw[f]);have j:(nw s.heap l1 l2).objs.size=s.heap.objs.size+3:=(o5 ..).trans (by rw[m]);have n:(nv s.heap l1 l2).objs.size=s.heap.objs.size+4:=(o5 ..).trans (by rw[j]);have r:(kj s.heap l1 l2).get? (nv s.heap l1 l2).objs.size=some _:=ed _ rfl;have x:(kj s.heap l1 l2).get? (nw s.heap l1 l2).objs.size=some _:=bX _ (ed _ rfl);have v:(kj s.heap l1 l2).get? (ny s.heap l1 l2).objs.size=some _:=bX _ (bX _ (ed _ rfl));have u:(kj s.heap l1 l2).get? (nA s.heap l1).objs.size=some _:=bX _ (bX _ (bX _ (ed _ rfl)));have t:(kj s.heap l1 l2).get? s.heap.objs.size=some _:=bX _ (bX _ (bX _ (bX _ (ed _ rfl))));have d:=h (kj s.heap l1 l2) (nv s.heap l1 l2).objs.size (ny s.heap l1 l2).objs.size (nw s.heap l1 l2).objs.size s.heap.objs.size (nA s.heap l1).objs.size
  (by rw[n,j,m,f];exact(Qk a b).1) ⟨r,v,⟨_,_,x⟩,⟨_,t,rfl,rfl⟩,⟨_,u,rfl,rfl⟩⟩
  (by rw[n,j,m,f];exact(Qk a b).2) λc o e=>bX _ (bX _ (bX _ (bX _ (bX _ e))))
 exact⟨⟨_,r,rfl⟩,d⟩
def Pf(K:Fg) (f:TA):TI:=λd H R=>f d H λe H1=>∃a b,e=[.ref a,.ref b]/\(∃c,bz K H1 a c)/\(∃c,bz K H1 b c)/\R (SV K a b) H1
section
variable {X:Cx}
theorem Ij{o:List Expr}{k:Nat}{d p f:Pos}{a b:Expr}{u:TA}(T:Gl X "zip")(P:X.mg "zip"=none)(Q:PA X [a,b] u)
  (U:starEach [a,b] X.env=[(false,eval a X.env),(false,eval b X.env)]:=by rfl)(n:starEach [b] X.env=[(false,eval b X.env)]:=by rfl):
  PI X (.Tuple o k d) (.Call (.Name "zip" p) [a,b] [] f) (Pf X.K u):=by
 intro x s Y H R I h;refine Call_ (l6 I T P PyProof.Rows.boot_zip (qy (aZ (Q f x s Y H _ I h) λus r ⟨vs,H1,m,J,y⟩=>?_) (by rw[U,n]) (by rw[n];rfl)));obtain⟨a,b,e,⟨xs,hx⟩,⟨ys,S⟩,q⟩:=y;subst e;obtain⟨u1,u2,rfl,C,e2⟩:=vals2 J;cases C;cases e2;obtain⟨i,v,E,A⟩:=m.tuple hx;obtain⟨l,a0,w,G⟩:=m.tuple S;refine Nd (show r.heap.IsTuple a i.toArray from E) (show r.heap.IsTuple b l.toArray from w) λg z TI TO i1 i2 R Z j kp=>?_
 refine wpAny_pyIter_zip Z.zip ?_;exact⟨z,[z,TI,TO,i1,i2],_,_,H1,rfl,m.kept (t':=r.toks) kp,MZ R,Z,λc t=>m.fpOk (j c t) (m.hok.fresh (j c t)),q⟩
end
end L2
namespace Dd
open L2
set_option genInjectivity true in
inductive D where
 |non|bl (b:Bool)|int (i:Int)|str (x:Str)|ty (n:String)|ref (n:Nat)|tup (ds:List D)|lst (ds:List D)|scr (ds:List D)|exn (c:Str) (l:List Int)
set_option genInjectivity true in
inductive O where
 |lst (xs:List D)|dT (kvs:List (List Int×D))|fT (kvs:List (List Int×D))|dead
 |dI (kvs:List (Int×D))
 |dP (ks:List (List (List Int)))
 |tab
noncomputable abbrev aa:=List O
structure SY where
 cls:Str
 at_:List Int
set_option genInjectivity true in
inductive bu (α:Type) where
 |ok (a:α) (au:aa)|exc (x:SY) (au:aa)|stuck
def bu.bind{c b:Type}:bu c->(c->aa->bu b)->bu b
 |.ok a au,f=>f a au
 |.exc x au,_=>.exc x au
 |.stuck,_=>.stuck
@[simp] theorem zt {b c:Type}(a:b) (au:aa) (f:b->aa->bu c):(bu.ok a au).bind f=f a au:=rfl
@[simp] theorem V7 {a b:Type}(x:SY) (au:aa) (f:a->aa->bu b):(bu.exc x au:bu a).bind f=.exc x au:=rfl
@[simp] theorem Wf {a b:Type}(f:a->aa->bu b):(bu.stuck:bu a).bind f=.stuck:=rfl
theorem za{e d:Type}{r:bu e}{f:e->aa->bu d}{b:d}{st':aa}(h:r.bind f=.ok b st'):∃a c,r=.ok a c/\f a c=.ok b st':=by
 cases r with
 |ok a c=>exact⟨a,c,rfl,h⟩
 |exc x c=>cases h
 |stuck=>cases h
noncomputable abbrev DS:=List (Option D)
abbrev SE:=DS->aa->bu D
abbrev ST:=DS->aa->bu Bool
abbrev SA:=DS->aa->bu (List D)
set_option genInjectivity true in
inductive Fl where
 |nx (σ:DS)|ret (v:D)|brk (σ:DS)|ct (σ:DS)
abbrev SS:=DS->aa->bu Fl
abbrev cq:=List D->aa->bu D
structure Loc where
 m:List (Option Addr)
 g:List Addr
def dZ(b:Loc) (a:Addr):Prop:=some a∉b.m/\a∉b.g
def Ls(K:Fg) (d:Loc) (H:Hp) (a:Addr) (b:List V):Prop:=(Rd H a (.lst b)/\dZ d a)\/∀c:Hp,da K c a b
def D4(K:Fg) (d:Loc) (H:Hp) (c:Str) (l:List Int) (a:Addr):Prop:=∃C o,W.nsIn K mainGlobals c=some (some (.ref C))/\(H a=some (.frz o (.ext λ_=>True))/\dZ d a)/\o.cls=.ref C/\(∃e,o.data=.fields e/\e[2]?=some .none) /\
 ((l=[]/\o.dict=none)\/∃ i b f,l=[i]/\o.dict=some b/\H b=some (.frz f (.xd [("at",.int i)]))/\dZ d b)
theorem D4.map{K:Fg}(h:D4 K ρ H c l a)(f:∀b k u,H b=some (.frz k u)->dZ ρ b->H' b=some (.frz k u)/\dZ ρ' b):D4 K ρ' H' c l a:=by
 obtain⟨C,o,t,j,r,s,d⟩:=h;refine⟨C,o,t,f _ _ _ j.1 j.2,r,s,?_⟩;rcases d with d|⟨i,n,m,q,p,g,e⟩
 ·exact .inl d
 ·exact .inr ⟨i,n,m,q,p,(f _ _ _ g e).1,(f _ _ _ g e).2⟩
mutual
inductive At (K:Fg) (ρ:Loc) (H:Hp):D->V->Prop
 |non:At K ρ H .non .non
 |bl (b:Bool):At K ρ H (.bl b) (.bl b)
 |int (i:Int):At K ρ H (.int i) (.int i)
 |str (x:Str):At K ρ H (.str x) (.str x)
 |ty (n:String):At K ρ H (.ty n) (.ty n)
 |ref {n:Nat}{v:V}:n < ρ.m.length->(∀a,ρ.m[n]?=some (some a)->v=.ref a)->At K ρ H (.ref n) v
 |tup {a:Addr}{ds:List D}{vs:List V}:H a=some (.tup vs)->dZ ρ a->ae K ρ H ds vs->At K ρ H (.tup ds) (.ref a)
 |lst {a:Addr}{ds:List D}{vs:List V}:H a=some (.lst vs)->dZ ρ a->ae K ρ H ds vs->At K ρ H (.lst ds) (.ref a)
 |scr {a:Addr}{ds:List D}{vs:List V}:Ls K ρ H a vs->ae K ρ H ds vs->At K ρ H (.scr ds) (.ref a)
 |exn {c:Str}{l:List Int}{a:Addr}:D4 K ρ H c l a->At K ρ H (.exn c l) (.ref a)
inductive ae (K:Fg) (ρ:Loc) (H:Hp):List D->List V->Prop
 |nil:ae K ρ H [] []
 |cons {d:D}{ds:List D}{v:V}{vs:List V}:At K ρ H d v->ae K ρ H ds vs->ae K ρ H (d::ds) (v::vs)
end
structure Mv (ρ:Loc) (H:Hp) (ρ':Loc) (H':Hp):Prop where
 out:∀{a:Addr}{o:HO},H a=some o->dZ ρ a->H' a=some o/\dZ ρ' a
 len:ρ.m.length<=ρ'.m.length
 old:∀(n:Nat) (a:Addr),n < ρ.m.length->ρ'.m[n]?=some (some a)->ρ.m[n]?=some (some a)
theorem Ls.mv{K:Fg}(x:Mv ρ H ρ' H')(h:Ls K ρ H a vs):Ls K ρ' H' a vs:=by
 rcases h with⟨h|⟨o,h⟩,n⟩|h
 ·exact .inl ⟨.inl (x.out h n).1,(x.out h n).2⟩
 ·exact .inl ⟨.inr ⟨o,(x.out h n).1⟩,(x.out h n).2⟩
 ·exact .inr h
theorem At.mv{K:Fg}(x:Mv ρ H ρ' H') (h:At K ρ H d v):At K ρ' H' d v:=
 At.rec (motive_1:=λd v _=>At K ρ' H' d v) (motive_2:=λd v _=>ae K ρ' H' d v) .non .bl .int .str .ty (λh e=>.ref (df h x.len) λa q=>e a (x.old _ a h q)) (λh n _ c=>.tup (x.out h n).1 (x.out h n).2 c) (λh n _ c=>.lst (x.out h n).1 (x.out h n).2 c) (λh _ c=>.scr (h.mv x) c) (λh=>.exn (h.map λ_ _ _ e n=>x.out e n)) .nil (λ_ _ a b=>.cons a b) h
theorem ae.mv{K:Fg}(x:Mv ρ H ρ' H') (h:ae K ρ H d v):ae K ρ' H' d v:=
 ae.rec (motive_1:=λ_ _ _=>True) (motive_2:=λd v _=>ae K ρ' H' d v) trivial (λ_=>trivial) (λ_=>trivial) (λ_=>trivial) (λ_=>trivial) (λ_ _=>trivial) (λ_ _ _ _=>trivial) (λ_ _ _ _=>trivial) (λ_ _ _=>trivial) (λ_=>trivial) .nil (λa _ _ b=>.cons (a.mv x) b) h
structure bg (ρ:Loc) (H:Hp) (ρ':Loc) (H':Hp):Prop where
 len:ρ.m.length<=ρ'.m.length
 old:∀(n:Nat) (a:Addr),n < ρ.m.length->ρ'.m[n]?=some (some a)->ρ.m[n]?=some (some a)
 keep:∀a o,H a=some o->some a∉ρ.m->H' a=some o/\some a∉ρ'.m
 gho:ρ'.g=ρ.g
 frz:∀a ob u,H a=some (.frz ob u)->H' a=some (.frz ob u)
theorem bg.out(x:bg ρ H ρ' H') (h:H a=some o)(n:dZ ρ a):H' a=some o/\dZ ρ' a:=
 ⟨(x.keep a o h n.1).1,(x.keep a o h n.1).2,by rw[x.gho];exact n.2⟩
theorem bg.mv(x:bg ρ H ρ' H'):Mv ρ H ρ' H':=⟨λh n=>x.out h n,x.len,x.old⟩
theorem Ls.sq{K:Fg}(h:Ls K ρ H a vs):da K H a vs:=by
 rcases h with h|h
 ·exact .inl h.1
 ·exact h H
theorem bg.refl(a:Loc)(H:Hp):bg a H a H:=⟨aY _,λ_ _ _ e=>e,λ_ _ e n=>⟨e,n⟩,rfl,λ_ _ _ e=>e⟩
theorem bg.trans(a:bg ρ H ρ1 H1)(b:bg ρ1 H1 ρ2 H2):bg ρ H ρ2 H2:=
 ⟨ax a.len b.len,λn c h e=>a.old n c h (b.old n c (df h a.len) e),λc o e n=>by
  obtain⟨g,f⟩:=a.keep c o e n
  exact b.keep c o g f,b.gho.trans a.gho,λc d u e=>b.frz c d u (a.frz c d u e)⟩
theorem At.ext{K:Fg}(x:bg ρ H ρ' H') (h:At K ρ H d v):At K ρ' H' d v:=h.mv x.mv
theorem ae.ext{K:Fg}(x:bg ρ H ρ' H') (h:ae K ρ H d v):ae K ρ' H' d v:=h.mv x.mv
theorem ae.length{K:Fg}:∀{a:List D}{b:List V},ae K ρ H a b->b.length=a.length
 |_,_,.nil=>rfl
 |_,_,.cons _ t=>by rw[dm,dm,ae.length t]
theorem ae.get{K:Fg}:∀{b:List D}{c:List V}{i:Nat}{d:D},ae K ρ H b c->b[i]?=some d->∃v,c[i]?=some v/\At K ρ H d v
 |_,_,_,_,.nil,e=>by simp at e
 |_,_,0,_,.cons a _,e=>by simp at e;subst e;exact⟨_,rfl,a⟩
 |_,_,i+1,d,.cons _ t,e=>by
  obtain⟨u,g,f⟩:=ae.get (i:=i) (d:=d) t (by simpa using e);exact⟨u,by simpa using g,f⟩
theorem ae.append{K:Fg}:∀{c d:List D}{e f:List V},ae K ρ H c e->ae K ρ H d f->ae K ρ H (c++d) (e++f)
 |_,_,_,_,.nil,b=>b
 |_,_,_,_,.cons a t,b=>.cons a (ae.append t b)
theorem ae.take{K:Fg}:∀{b:List D}{c:List V}(n:Nat),ae K ρ H b c->ae K ρ H (b.take n) (c.take n)
 |_,_,0,_=>.nil
 |_,_,_+1,.nil=>.nil
 |_,_,n+1,.cons a t=>.cons a (ae.take n t)
theorem ae.drop{K:Fg}:∀{b:List D}{c:List V}(n:Nat),ae K ρ H b c->ae K ρ H (b.drop n) (c.drop n)
 |_,_,0,h=>h
 |_,_,_+1,.nil=>.nil
 |_,_,n+1,.cons a t=>ae.drop n t
theorem ae.set{K:Fg}(a:At K ρ H d v):∀{c:List D}{e:List V}(n:Nat),ae K ρ H c e->ae K ρ H (c.set n d) (e.set n v)
 |_,_,_,.nil=>.nil
 |_,_,0,.cons _ t=>.cons a t
 |_,_,n+1,.cons b t=>.cons b (ae.set a n t)
def dR(K:Fg) (a:Loc) (H:Hp):List (List Int×D)->List (List cG×V)->Prop:=Paired λp q=>q.1=p.1.map Sum.inl/\At K a H p.2 q.2
theorem dR.ext{K:Fg}(x:bg ρ H ρ' H') (h:dR K ρ H a b):dR K ρ' H' a b:=Paired.mapP h λp q z=>⟨z.1,z.2.ext x⟩
noncomputable abbrev Pb:Str:=(("law" : Str)++".<locals>.")++"<lambda>"
def kY(H:Hp) (d:Array Value):Prop:=TriplesOk d.toList/\∀a f,codeAmong a d.toList=some f->∃c e b t,f=.ref c/\H c=some (.frz e (.ext λ_=>True))/\e.data=.fields b/\b[1]?=some (.str Pb t)
theorem kY.map(h:kY H ps)(f:∀b d u,H b=some (.frz d u)->H' b=some (.frz d u)):kY H' ps:=
 ⟨h.1,λa m e=>by obtain⟨c,i,g,t,l,j,k⟩:=h.2 a m e;exact⟨c,i,g,t,l,f _ _ _ j,k⟩⟩
def eE(K:Fg) (a:Loc) (H:Hp):List (Int×D)->List (cG×V)->Prop:=Paired λp q=>q.1=Sum.inl p.1/\At K a H p.2 q.2
theorem eE.ext{K:Fg}(x:bg ρ H ρ' H') (h:eE K ρ H a b):eE K ρ' H' a b:=Paired.mapP h λp q z=>⟨z.1,z.2.ext x⟩
noncomputable def BI(a:Addr) (d:List DictEntry):Heap->Prop:=λh=>∃o b c,h.get? a=some o/\o.ExactDict/\o.data=.dict b c/\b.toList=d
noncomputable def AY(k:'$'):Int:=reduceHash (Builtin.Tuple.tupleHashOf (k.map λr=>reduceHash (Builtin.Tuple.tupleHashOf (r.map hashInt))))
noncomputable def AJ(k:'$'):D:=.tup (k.map λr=>.tup (r.map .int))
def pO(K:Fg) (a:Loc) (H:Hp):List (List (List Int))->List DictEntry->Prop:=Paired λk e=>e.hash=AY k/\e.val=.bool true/\∃b,e.key=.ref b/\At K a H (AJ k) (.ref b)
theorem pO.map{K:Fg}(k:∀d v,At K ρ H d v->At K ρ' H' d v) (h:pO K ρ H a b):pO K ρ' H' a b:=Paired.mapP h λp q ⟨e,g,c,i,f⟩=>⟨e,g,c,i,k _ _ f⟩
def lY(K:Fg) (d:Loc) (H:Hp):O->Addr->Prop
 |.lst xs,a=>∃b,H a=some (.lst b)/\ae K d H xs b
 |.dT kvs,a=>∃b,H a=some (.dT b)/\dR K d H kvs b
 |.fT kvs,a=>∃b g,H a=some (.frz g (.dT b))/\dR K d H kvs b
 |.dI kvs,a=>∃b,H a=some (.dK b)/\eE K d H kvs b
 |.dP ks,a=>∃f,H a=some (.ext (BI a f))/\(a==sysModules)=false/\ks.length<=sizeLine/\ks.Nodup/\pO K d H ks f
 |.dead,_=>False
 |.tab,a=>(∃ c,W.tabIn K "law"=some (c,a))/\∃ e,H a=some (.tbl e)/\kY H e
structure bD (K:Fg) (ρ:Loc) (au:aa) (H:Hp):Prop where
 len:ρ.m.length=au.length
 inj:∀(n m:Nat) (a:Addr),ρ.m[n]?=some (some a)->ρ.m[m]?=some (some a)->n=m
 obj:∀(n:Nat) (a:Addr) (o:O),ρ.m[n]?=some (some a)->au[n]?=some o->lY K ρ H o a
 gh:∀a∈ρ.g,(∃vs,H a=some (.lst vs))/\some a∉ρ.m
 live:∀(n:Nat) (o:O),au[n]?=some o->o≠.dead->∃a,ρ.m[n]?=some (some a)
def WF(K:Fg) (a:Loc) (H:Hp) (o:Option D) (v:Option V):Prop:=∀d,o=some d->∃u,v=some u/\At K a H d u
abbrev dc(K:Fg) (a:Loc) (H:Hp):DS->St->Prop:=Paired (WF K a H)
theorem dc.ext{K:Fg}(x:bg ρ H ρ' H') (h:dc K ρ H σ τ):dc K ρ' H' σ τ:=Paired.mapP h λo v z d e=>by
 obtain⟨u,b,a⟩:=z d e;exact⟨u,b,a.ext x⟩
theorem dc.get{K:Fg}:∀{c:DS}{b:St}{i:Nat}{d:D},dc K ρ H c b->c[i]?=some (some d)->∃u,b[i]?=some (some u)/\At K ρ H d u
 |_,_,_,_,.nil,e=>by simp at e
 |_,_,0,_,.cons a _,e=>by
  simp at e;subst e
  obtain⟨u,f,h⟩:=a _ rfl;exact⟨u,by simp[f],h⟩
 |_,_,i+1,d,.cons _ t,e=>by
  obtain⟨u,j,g⟩:=dc.get (i:=i) (d:=d) t (by simpa using e);exact⟨u,by simpa using j,g⟩
theorem dc.set{K:Fg}(a:At K ρ H d v):∀{b:DS}{c:St}(i:Nat),dc K ρ H b c->dc K ρ H (b.set i (some d)) (c.set i (some v))
 |_,_,_,.nil=>.nil
 |_,_,0,.cons _ t=>.cons (λf e=>by cases e;exact⟨v,rfl,a⟩) t
 |_,_,i+1,.cons q t=>.cons q (dc.set a i t)
def tD(K:Fg) (f:SE):TE:=λh H Q=>∃d g e v b,dc K d H g h/\bD K d e H/\f g e=.ok v b/\∀a c u,bg d H a c->bD K a b c->At K a c v u->Q u c
def ol(K:Fg) (f:ST):TT:=λh H Q=>∃d g e v b,dc K d H g h/\bD K d e H/\f g e=.ok v b/\∀a c,bg d H a c->bD K a b c->Q v c
def OW(K:Fg) (f:SA):TA:=λh H Q=>∃d g e v b,dc K d H g h/\bD K d e H/\f g e=.ok v b/\∀a c u,bg d H a c->bD K a b c->ae K a c v u->Q u c
def pS(K:Fg) (e:Loc) (H:Hp) (c:aa) (E:l4):Fl->Prop
 |.nx σ=>∀a b d,bg e H a b->bD K a c b->dc K a b σ d->E.nx d b
 |.brk σ=>∀a b d,bg e H a b->bD K a c b->dc K a b σ d->E.bk d b
 |.ct σ=>∀a b d,bg e H a b->bD K a c b->dc K a b σ d->E.ct d b
 |.ret v=>∀a b u,bg e H a b->bD K a c b->At K a b v u->E.rt u b
theorem pS.ext{K:Fg}(x:bg ρ H ρ1 H1)(h:pS K ρ H st' E fl):pS K ρ1 H1 st' E fl:=by
 cases fl with
 |nx σ=>exact λa b c e=>h a b c (x.trans e)
 |brk σ=>exact λa b c e=>h a b c (x.trans e)
 |ct σ=>exact λa b c e=>h a b c (x.trans e)
 |ret v=>exact λa b c e=>h a b c (x.trans e)
def D2(K:Fg) (f:SS):TS:=λE g H=>∃b e d c a,dc K b H e g/\bD K b d H/\f e d=.ok c a/\pS K b H a E c
abbrev DE(X:Cx) (e:Expr) (f:SE):Prop:=PE X e (tD X.K f)
abbrev DT(X:Cx) (e:Expr) (f:ST):Prop:=PT X e (ol X.K f)
abbrev DW(X:Cx) (e:Expr) (f:ST):Prop:=PW X e (ol X.K f)
abbrev DA(X:Cx) (a:List Expr) (f:SA):Prop:=PA X a (OW X.K f)
abbrev jX(X:Cx) (s:Stmt) (f:SS):Prop:=PS X s (D2 X.K f)
abbrev nL(X:Cx) (s:List Stmt) (f:SS):Prop:=jJ X s (D2 X.K f)
theorem fg(h:PE X e t)(k:∀a H Q,t' a H Q->t a H Q):PE X e t':=λb s a H Q I q=>h b s a H Q I (k _ _ _ q)
theorem j6(h:PT X e t)(k:∀a H Q,t' a H Q->t a H Q):PT X e t':=λb s a H Q I q=>h b s a H Q I (k _ _ _ q)
theorem qG(h:PW X e t)(k:∀a H Q,t' a H Q->t a H Q):PW X e t':=λc b s a H Q I q=>h c b s a H Q I (k _ _ _ q)
theorem wp(h:PA X es t)(k:∀a H Q,t' a H Q->t a H Q):PA X es t':=λb c s a H Q I q=>h b c s a H Q I (k _ _ _ q)
theorem nO(h:PS X s t)(k:∀E a H,t' E a H->t E a H):PS X s t':=λb z a H E I q=>h b z a H E I (k _ _ _ q)
theorem xx(h:jJ X ss t)(k:∀E a H,t' E a H->t E a H):jJ X ss t':=λb z a H E I q=>h b z a H E I (k _ _ _ q)
def aA(i:Nat):SE:=λb a=>match b[i]? with
 |some (some d)=>.ok d a
 |_=>.stuck
def eC(d:D):SE:=λ_ a=>.ok d a
theorem FZ(h:PE X e (py i)):DE X e (aA i):=fg h λl H Q b=>by
 obtain⟨k,n,m,v,f,a,r,e,q⟩:=b;unfold aA at e;split at e
 ·rename_i d j;cases e;obtain⟨u,g,c⟩:=a.get j;exact⟨u,g,q k H u (.refl _ _) r c⟩
 ·cases e
theorem oK(h:PE X e (tC v))(k:∀b H,At X.K b H d v):DE X e (eC d):=fg h λg H Q c=>by
 obtain⟨b,j,i,v,f,a,r,e,q⟩:=c;cases e;exact q b H _ (.refl _ _) r (k _ _)
theorem FR{i j pos}:DE X (.Constant (.int i) j pos) (eC (.int i)):=oK HX λ_ _=>.int i
theorem Pv{b j pos}:DE X (.Constant (.bool b) j pos) (eC (.bl b)):=oK Gn λ_ _=>.bl b
theorem FU{j pos}:DE X (.Constant .none j pos) (eC .non):=oK HY λ_ _=>.non
def aU(g:D->D->aa->bu D) (f e:SE):SE:=λc d=>(f c d).bind λx b=>(e c b).bind λy a=>g x y a
def jk(g:D->aa->bu D) (f:SE):SE:=λc b=>(f c b).bind λx a=>g x a
def iu(K:Fg) (g:D->D->aa->bu D) (r:R2):Prop:=
 ∀d H e x y u v z b (Q:VK),bD K d e H->At K d H x u->At K d H y v->g x y e=.ok z b->(∀a c w,bg d H a c->bD K a b c->At K a c z w->Q w c)->r u v H Q
theorem oR{K:Fg}(G:iu K g r):∀d H Q,tD K (aU g f f') d H Q->zI r (tD K f) (tD K f') d H Q:=λd H Q l=>by
 obtain⟨C,p,I,v,i,a,E,e,q⟩:=l;obtain⟨x,c,J,e⟩:=za e;obtain⟨y,b,U,e⟩:=za e;refine⟨C,p,I,x,c,a,E,J,λk H1 u s j T=>?_⟩;refine⟨k,p,c,y,b,a.ext s,j,U,λn H2 w t o S=>?_⟩;exact G n H2 b x y u w v i Q o (T.ext t) S e λm R z A h P=>q m R z (s.trans (t.trans A)) h P
theorem Pq(d:di X (binaryOp op) r)(c:iu X.K g r)(e:DE X a f)(h:DE X b f'):DE X (.BinOp a op b pos) (aU g f f'):=fg (Gp d e h) (oR c)
theorem FO(e:di X (compareOp op) r)(d:iu X.K g r)(i:DE X a f)(c:DE X b f')(h:behindInMarks op b=false):DE X (.Compare a [op] [b] pos) (aU g f f'):=fg (Kd e i c h) (oR d)
def eB(f:SE):ST:=λd c=>(f d c).bind λv a=>match v with
 |.bl b=>.ok b a
 |_=>.stuck
theorem tK{K:Fg}:∀b H Q,ol K (eB f) b H Q->tD K f b H λx H1=>∃c,x=.bl c/\Q c H1:=λb H Q h=>by
 obtain⟨o,j,i,v,k,a,r,e,q⟩:=h;obtain⟨x,g,l,e⟩:=za e;refine⟨o,j,i,x,g,a,r,l,λn H1 u m d p=>?_⟩;cases x<;>try (cases e;done)
 cases e;cases p;exact⟨_,rfl,q _ _ m d⟩
theorem Hd(e:di X (compareOp op) r)(d:iu X.K g r)(j:DE X a f)(c:DE X b f')(i:behindInMarks op b=false):DT X (.Compare a [op] [b] pos) (eB (aU g f f')):=
 j6 (Kv e j c i) λk H Q h=>oR d _ _ _ (tK _ _ _ h)
def dQ(g i:D->D->aa->bu D) (f k b:SE):SE:=λd j=>(f d j).bind λx h=>(k d h).bind λy c=>(g x y c).bind λz a=>match z with
 |.bl true=>(b d a).bind λw e=>i y w e
 |.bl false=>.ok (.bl false) a
 |_=>.stuck
theorem IR{K:Fg}(hr:iu K g r)(I:iu K g' r'):∀l H Q,tD K (dQ g g' f f' f'') l H Q->mZ r r' (tD K f) (tD K f') (tD K f'') l H Q:=λl H Q A=>by
 obtain⟨ρ,E,au,v,o,a,rp,e,q⟩:=A;obtain⟨x,i,e1,e⟩:=za e;obtain⟨y,c,e2,e⟩:=za e;obtain⟨z,h,e3,e⟩:=za e;refine⟨ρ,E,au,x,i,a,rp,e1,λs H1 u U p a1=>?_⟩;refine⟨s,E,i,y,c,a.ext U,p,e2,λJ H2 w x2 R Y=>?_⟩;refine hr J H2 c x y u w z h _ R (a1.ext x2) Y e3 λk H3 T S d a3=>?_
 have n:=U.trans (x2.trans S);cases z<;>try (cases e;done)
 rename_i b;cases a3;refine⟨b,rfl,?_⟩;cases b with
 |true=>
  obtain⟨t,j,e4,e⟩:=za e;rw[if_pos rfl];refine⟨k,E,h,t,j,a.ext n,d,e4,λm H4 tt X G a4=>?_⟩;exact I m H4 j y t w tt v o Q G (Y.ext (S.trans X)) a4 e λC H' T x5 P a5=>q C H' T (n.trans (X.trans x5)) P a5
 |false=>
  cases e;rw[if_neg ')'];exact q k H3 _ n d (.bl false)
theorem bg.new(a:H p=none)(o:HO):bg ρ H ρ (aq H p o):=⟨aY _,λ_ _ _ e=>e,λb u e m=>⟨by rw[zq (zr e a)];exact e,m⟩,rfl,λb c u e=>by rw[zq (zr e a)];exact e⟩
section
variable {H:Hp}{a:Addr}
theorem nU{c:List V}(h:H a=some (.lst c)):∀b u,H a≠some (.frz b u):=λb u z=>by rw[h] at z;cases z
theorem pX{c:List (List cG×V)}(h:H a=some (.dT c)):∀b u,H a≠some (.frz b u):=λb u z=>by rw[h] at z;cases z
end
theorem bg.wr{c:Loc}{n:Nat}(h:c.m[n]?=some (some a))(f:∀d u,H a≠some (.frz d u))(o:HO):bg c H c (aq H a o):=⟨aY _,λ_ _ _ e=>e,λb u e m=>⟨by
 rw[zq]
 ·exact e
 ·rintro rfl
  exact m (dF h),m⟩,rfl,λb d u e=>by
 rw[zq]
 ·exact e
 ·rintro rfl
  exact f _ _ e⟩
theorem lY.has{K:Fg}(h:lY K ρ H x a):∃u,H a=some u:=by
 cases x with
 |lst xs=>obtain⟨b,e,_⟩:=h;exact⟨_,e⟩
 |dT kvs=>obtain⟨b,e,_⟩:=h;exact⟨_,e⟩
 |fT kvs=>obtain⟨b,d,e,_⟩:=h;exact⟨_,e⟩
 |dI kvs=>obtain⟨b,e,_⟩:=h;exact⟨_,e⟩
 |dP ks=>obtain⟨b,e,_⟩:=h;exact⟨_,e⟩
 |dead=>exact h.elim
 |tab=>obtain⟨_,c,e,_⟩:=h;exact⟨_,e⟩
theorem lY.ext{K:Fg}(e:bg ρ H ρ' H')(same:H' a=H a)(h:lY K ρ H x a):lY K ρ' H' x a:=by
 cases x with
 |lst xs=>obtain⟨b,q,r⟩:=h;exact⟨b,by rw[same];exact q,r.ext e⟩
 |dT kvs=>obtain⟨b,q,r⟩:=h;exact⟨b,by rw[same];exact q,r.ext e⟩
 |fT kvs=>obtain⟨b,f,q,r⟩:=h;exact⟨b,f,by rw[same];exact q,r.ext e⟩
 |dI kvs=>obtain⟨b,q,r⟩:=h;exact⟨b,by rw[same];exact q,r.ext e⟩
 |dP ks=>obtain⟨b,q,n,l,u,r⟩:=h;exact⟨b,by rw[same];exact q,n,l,u,r.map λ_ _ z=>z.ext e⟩
 |dead=>exact h.elim
 |tab=>obtain⟨c,d,q,r⟩:=h;exact⟨c,d,by rw[same];exact q,r.map e.frz⟩
theorem bD.has{K:Fg}{n:Nat}(r:bD K ρ au H)(h:ρ.m[n]?=some (some a)):∃x,au[n]?=some x/\lY K ρ H x a:=by
 have b:n<au.length:=by rw[←r.len];exact(cK.mp h).1
 exact⟨au[n],cV b,r.obj n a _ h (cV b)⟩
theorem bD.new{K:Fg}(r:bD K ρ au H)(c:H p=none)(o:HO):bD K ρ au (aq H p o):=⟨r.len,r.inj,λm b x f e=>by
 have q:=r.obj m b x f e;obtain⟨u,a⟩:=q.has;exact q.ext (bg.new c o) (zq (zr a c)),λb d=>by
 obtain⟨⟨u,a⟩,n⟩:=r.gh b d
 exact⟨⟨u,by rw[zq (zr a c)];exact a⟩,n⟩,r.live⟩
theorem bD.wr{K:Fg}(r:bD K ρ au H)(h:ρ.m[n]?=some (some a))(j:∀p u,H a≠some (.frz p u)) (q:lY K ρ (aq H a o) x a):bD K ρ (au.set n x) (aq H a o):=⟨by rw[r.len,iY],r.inj,λm b y d c=>by
 by_cases hm:m=n
 ·subst hm;have f:b=a:=by rw[h] at d;exact(fY (fY d)).symm
  subst f;have l:m<au.length:=by rw[←r.len];exact(cK.mp h).1
  rw[pq l] at c;cases c;exact q
 ·rw[fj (cO hm)] at c;refine(r.obj m b y d c).ext (bg.wr h j o) (zq λz=>hm ?_);subst z;exact r.inj m n b d h,λb f=>by
 obtain⟨⟨u,k⟩,g⟩:=r.gh b f;refine⟨⟨u,?_⟩,g⟩;rw[zq]
 ·exact k
 ·rintro rfl;exact g (dF h),λm y e i=>by
 by_cases hm:m=n
 ·subst hm;exact⟨a,h⟩
 ·rw[fj (cO hm)] at e
  exact r.live m y e i⟩
theorem bD.alloc{K:Fg}(r:bD K ρ au H)(d:H p=none) (q:bg ρ H ⟨ρ.m++[some p],ρ.g⟩ (aq H p o)->lY K ⟨ρ.m++[some p],ρ.g⟩ (aq H p o) x p):bg ρ H ⟨ρ.m++[some p],ρ.g⟩ (aq H p o)/\bD K ⟨ρ.m++[some p],ρ.g⟩ (au++[x]) (aq H p o):=by
 have g:∀(m:Nat) (b:Addr),(ρ.m++[some p])[m]?=some (some b)->(m < ρ.m.length/\ρ.m[m]?=some (some b))\/(m=ρ.m.length/\b=p):=λm b e=>by
  rcases j8 m ρ.m.length with z|z
  ·rw[h8 z] at e;exact .inl ⟨z,e⟩
  ·rw[mw z] at e;have t:m-ρ.m.length=0:=by
    have:=(cK.mp e).1;simp at this;lia
   rw[t] at e;simp at e;exact .inr ⟨by lia,e.symm⟩
 have v:∀(m:Nat),ρ.m[m]?≠some (some p):=λm e=>by
  obtain⟨x,_,q⟩:=r.has e;obtain⟨u,a⟩:=q.has;rw[d] at a;cases a
 have E:bg ρ H ⟨ρ.m++[some p],ρ.g⟩ (aq H p o):=⟨by rw[dq];lia,λm b h e=>by
   rw[h8 h] at e;exact e,λb u e m=>⟨by rw[zq (zr e d)];exact e,λz=>by
   rcases fh.mp z with z|z
   ·exact m z
   ·simp at z;subst z;rw[d] at e;cases e⟩,rfl,λb G u e=>by rw[zq (zr e d)];exact e⟩
 refine⟨E,⟨by rw[dq,dq,r.len];rfl,λm k b n c=>?_,λm b y n c=>?_,λb j=>?_,λm y e A=>?_⟩⟩
 ·rcases g m b n with⟨f,i⟩|⟨f,rfl⟩
  ·rcases g k b c with⟨s,l⟩|⟨s,rfl⟩
   ·exact r.inj m k b i l
   ·exact absurd i (v m)
  ·rcases g k b c with⟨s,l⟩|⟨s,_⟩
   ·exact absurd l (v k)
   ·lia
 ·rcases g m b n with⟨f,i⟩|⟨f,rfl⟩
  ·rw[h8 (by rw[←r.len];exact f)] at c;have q:=r.obj m b y i c;obtain⟨u,a⟩:=q.has;exact q.ext E (zq (zr a d))
  ·rw[f,r.len,mw (aY _)] at c;simp at c;subst c;exact q E
 ·obtain⟨⟨u,a⟩,w⟩:=r.gh b j;refine⟨⟨u,by rw[zq (zr a d)];exact a⟩,λz=>?_⟩;rcases fh.mp z with z|z
  ·exact w z
  ·simp at z;subst z;rw[d] at a;cases a
 ·rcases j8 m au.length with z|z
  ·rw[h8 z] at e;obtain⟨b,j⟩:=r.live m y e A;exact⟨b,by rw[h8 (by rw[r.len];exact z)];exact j⟩
  ·have t:=(cK.mp e).1;simp at t;have C:m=ρ.m.length:=by rw[r.len];lia
   exact⟨p,by rw[C,mw (aY _)];simp⟩
theorem bD.kill{K:Fg}(r:bD K ρ au H)(h:n < ρ.m.length):bg ρ H ⟨ρ.m.set n none,ρ.g⟩ H/\bD K ⟨ρ.m.set n none,ρ.g⟩ (au.set n .dead) H:=by
 have c:∀(m:Nat) (b:Addr),(ρ.m.set n none)[m]?=some (some b)->m≠n/\ρ.m[m]?=some (some b):=λm b e=>by
  by_cases z:m=n
  ·subst z;rw[pq h] at e;simp at e
  ·rw[fj (cO z)] at e;exact⟨z,e⟩
 have E:bg ρ H ⟨ρ.m.set n none,ρ.g⟩ H:=⟨by rw[iY];exact aY _,λm b _ e=>(c m b e).2,λb o e m=>⟨e,λz=>by
  obtain⟨i,f,a⟩:=oi z;have:(ρ.m.set n none)[i]?=some (some b):=by rw[cV f,a]
  exact m (dF (c i b this).2)⟩,rfl,λ_ _ _ e=>e⟩
 refine⟨E,⟨by rw[iY,iY,r.len],λm k b g a=>r.inj m k b (c m b g).2 (c k b a).2,λm b y g a=>?_,λb d=>⟨(r.gh b d).1,λz=>?_⟩,λm y e j=>?_⟩⟩
 rotate_left
 ·obtain⟨i,f,a⟩:=oi z;have:(ρ.m.set n none)[i]?=some (some b):=by rw[cV f,a]
  exact(r.gh b d).2 (dF (c i b this).2)
 ·have z:m≠n:=by
   rintro rfl;rw[pq (by rw[←r.len];exact h)] at e;cases e;exact j rfl
  rw[fj (cO z)] at e;obtain⟨b,d⟩:=r.live m y e j;exact⟨b,by rw[fj (cO z)];exact d⟩
 obtain⟨z,q⟩:=c m b g;rw[fj (cO z)] at a;exact(r.obj m b y q a).ext E rfl
theorem CC{K:Fg}(r:bD K ρ au H)(c:H p=none):dZ ρ p:=by
 refine⟨λz=>?_,λz=>?_⟩
 ·obtain⟨i,d,e⟩:=oi z;obtain⟨x,_,q⟩:=r.has (n:=i) (a:=p) (by rw[cV d,e]);obtain⟨u,b⟩:=q.has;rw[c] at b;cases b
 ·obtain⟨⟨u,b⟩,_⟩:=r.gh p z;rw[c] at b;cases b
theorem At.newT{K:Fg}(r:bD K ρ au H)(a:H p=none) (h:ae K ρ H ds vs):At K ρ (aq H p (.tup vs)) (.tup ds) (.ref p):=.tup zu (CC r a) (h.ext (bg.new a _))
theorem At.newL{K:Fg}(r:bD K ρ au H)(a:H p=none) (h:ae K ρ H ds vs):At K ρ (aq H p (.lst vs)) (.lst ds) (.ref p):=.lst zu (CC r a) (h.ext (bg.new a _))
def jD(f d:SE):SE:=λb c=>(f b c).bind λv a=>match v with
 |.bl true=>d b a
 |.bl false=>.ok (.bl false) a
 |_=>.stuck
def qM(f d:SE):SE:=λb c=>(f b c).bind λv a=>match v with
 |.bl true=>.ok (.bl true) a
 |.bl false=>d b a
 |_=>.stuck
def io(f:SE):SE:=λd c=>(f d c).bind λv a=>match v with
 |.bl b=>.ok (.bl (!b)) a
 |_=>.stuck
def jG(f e:ST):ST:=λc d=>(f c d).bind λb a=>if b=true then e c a else .ok false a
def kX(f e:ST):ST:=λc d=>(f c d).bind λb a=>if b=true then .ok true a else e c a
def dW(f:ST):ST:=λd c=>(f d c).bind λb a=>.ok (!b) a
def BB(c:ST) (f g:SE):SE:=λd e=>(c d e).bind λb a=>if b=true then f d a else g d a
theorem FW{op}(h:DE X a f):DE X (.BoolOp op [a] pos) f:=Ia h
section
variable {X:Cx}{a:Expr}{b:Expr}{rest:List Expr}{f:SE}{f':SE}{pos:Pos}
theorem FN(t:DE X a f)(w:DE X (.BoolOp .And (b::rest) pos) f'):DE X (.BoolOp .And (a::b::rest) pos) (jD f f'):=fg (HU t w) λC H Q j=>by
 obtain⟨o,m,r,v,h,d,p,e,q⟩:=j;obtain⟨x,g,s,e⟩:=za e;refine⟨o,m,r,x,g,d,p,s,λi H1 u l c z=>?_⟩;cases x<;>try (cases e;done)
 rename_i n;cases z;refine⟨n,rfl,?_⟩;cases n with
 |true=>
  rw[if_pos rfl];exact⟨i,m,g,v,h,d.ext l,c,e,λk y u A=>q k y u (l.trans A)⟩
 |false=>
  rw[if_neg ')'];cases e;exact q _ _ _ l c (.bl false)
theorem Pp(t:DE X a f)(w:DE X (.BoolOp .Or (b::rest) pos) f'):DE X (.BoolOp .Or (a::b::rest) pos) (qM f f'):=fg (Gq t w) λC H Q j=>by
 obtain⟨o,m,r,v,h,d,p,e,q⟩:=j;obtain⟨x,g,s,e⟩:=za e;refine⟨o,m,r,x,g,d,p,s,λi H1 u l c z=>?_⟩;cases x<;>try (cases e;done)
 rename_i n;cases z;refine⟨n,rfl,?_⟩;cases n with
 |false=>
  rw[if_neg ')'];exact⟨i,m,g,v,h,d.ext l,c,e,λk y u A=>q k y u (l.trans A)⟩
 |true=>
  rw[if_pos rfl];cases e;exact q _ _ _ l c (.bl true)
end
theorem FV(r:DE X a f):DE X (.UnaryOp .Not a pos) (io f):=fg (HZ r) λt H Q g=>by
 obtain⟨p,i,h,v,j,b,s,e,q⟩:=g;obtain⟨x,d,k,e⟩:=za e;refine⟨p,i,h,x,d,b,s,k,λn H1 u l c o=>?_⟩;cases x<;>try (cases e;done)
 rename_i m;cases o;cases e;exact⟨m,rfl,q _ _ _ l c (.bl _)⟩
theorem Hi{op}(h:DT X a t)(b:op=.And\/op=.Or):DW X (.BoolOp op [a] pos) t:=by
 rcases b with rfl|rfl
 ·exact pE h
 ·exact tE h
section
variable {X:Cx}{a:Expr}{b:Expr}{rest:List Expr}{t:ST}{t':ST}{pos:Pos}
theorem Hh(u:DT X a t)(m:DW X (.BoolOp .And (b::rest) pos) t'):DW X (.BoolOp .And (a::b::rest) pos) (jG t t'):=qG (tF u m) λy H Q k=>by
 obtain⟨s,l,n,v,h,c,w,e,q⟩:=k;obtain⟨x,f,o,e⟩:=za e;refine⟨s,l,n,x,f,c,w,o,λj H1 i d=>?_⟩;cases x with
 |true=>exact lS ⟨j,l,f,v,h,c.ext i,d,e,λg p r=>q g p (i.trans r)⟩
 |false=>cases e;exact lT (q _ _ i d)
theorem F2(u:DT X a t)(m:DW X (.BoolOp .Or (b::rest) pos) t'):DW X (.BoolOp .Or (a::b::rest) pos) (kX t t'):=qG (AF u m) λy H Q k=>by
 obtain⟨s,l,n,v,h,c,w,e,q⟩:=k;obtain⟨x,f,o,e⟩:=za e;refine⟨s,l,n,x,f,c,w,o,λj H1 i d=>?_⟩;cases x with
 |false=>exact lT ⟨j,l,f,v,h,c.ext i,d,e,λg p r=>q g p (i.trans r)⟩
 |true=>cases e;exact lS (q _ _ i d)
end
theorem Hf(n:DT X a t):DT X (.UnaryOp .Not a pos) (dW t):=j6 (Ir n) λp H Q d=>by
 obtain⟨m,g,f,v,h,b,o,e,q⟩:=d;obtain⟨x,j,i,e⟩:=za e;cases e;exact⟨m,g,f,x,_,b,o,i,λl H1 k c=>q _ _ k c⟩
theorem Pt(r:DT X c t)(A:DE X a f)(C:DE X b f'):DE X (.IfExp c a b pos) (BB t f f'):=fg (Mp r A C) λE H Q m=>by
 obtain⟨s,n,y,v,i,d,w,e,q⟩:=m;obtain⟨x,h,z,e⟩:=za e;refine⟨s,n,y,x,h,d,w,z,λk H1 l j=>?_⟩;cases x with
 |true=>exact lS ⟨k,n,h,v,i,d.ext l,j,e,λg o u p=>q g o u (l.trans p)⟩
 |false=>exact lT ⟨k,n,h,v,i,d.ext l,j,e,λg o u p=>q g o u (l.trans p)⟩
def aC:SA:=λ_ a=>.ok [] a
def aB(f:SE) (g:SA):SA:=λc e=>(f c e).bind λx b=>(g c b).bind λd a=>.ok (x::d) a
def aT(g:SA):SE:=λd c=>(g d c).bind λb a=>if b.length<=sizeLine then .ok (.tup b) a else .stuck
def ip(g:SA):SE:=λd c=>(g d c).bind λb a=>if b.length<=sizeLine then .ok (.lst b) a else .stuck
def bZ(g:SA):SE:=λd c=>(g d c).bind λb a=>if b.length<=sizeLine then .ok (.ref a.length) (a++[.lst b]) else .stuck
theorem G2:DA X [] aC:=wp xq λf H Q b=>by
 obtain⟨i,h,g,v,c,a,d,e,q⟩:=b;cases e;exact q _ _ _ (.refl _ _) d .nil
theorem Ja(z:DE X e f)(p:DA X es g)(A:starEach (e::es) X.env=(false,eval e X.env)::starEach es X.env:=by rfl):DA X (e::es) (aB f g):=wp (yt z p A) λJ H Q h=>by
 obtain⟨n,j,r,v,s,a,o,e,q⟩:=h;obtain⟨x,b,t,e⟩:=za e;obtain⟨y,m,I,e⟩:=za e;cases e;refine⟨n,j,r,x,b,a,o,t,λd H1 u k c E=>?_⟩;exact⟨d,j,b,y,_,a.ext k,c,I,λG H2 w l i C=>q _ _ _ (k.trans l) i (.cons (E.ext l) C)⟩
theorem FY{d}(h:DA X es g):DE X (.Tuple es d pos) (aT g):=fg (Ib h) λw H Q i=>by
 obtain⟨s,l,k,v,m,a,t,e,q⟩:=i;obtain⟨x,o,n,e⟩:=za e;split at e
 ·rename_i r;cases e;refine⟨s,l,k,x,_,a,t,n,λf H1 u d b j=>⟨by rw[j.length];exact r,λp c=>?_⟩⟩;exact q f _ _ (d.trans (bg.new c _)) (b.new c _) (.newT b c j)
 ·cases e
theorem FS(h:DA X es g):DE X (.List es pos) (ip g):=fg (xu h) λw H Q f=>by
 obtain⟨s,k,j,v,l,a,t,e,q⟩:=f;obtain⟨x,n,m,e⟩:=za e;split at e
 ·rename_i r;cases e;refine⟨s,k,j,x,_,a,t,m,λd H1 u o b i=>⟨by rw[i.length];exact r,λp c=>?_⟩⟩;exact q d _ _ (o.trans (bg.new c _)) (b.new c _) (.newL b c i)
 ·cases e
theorem At.last{K:Fg}{b:Loc}(h:n=b.m.length):At K ⟨b.m++[some p],b.g⟩ H (.ref n) (.ref p):=by
 subst h;refine .ref '%' λa e=>?_
 simp at e;rw[e]
theorem G0(h:DA X es g):DE X (.List es pos) (bZ g):=fg (xu h) λy H Q c=>by
 obtain⟨t,i,f,v,j,a,w,e,q⟩:=c;obtain⟨x,m,l,e⟩:=za e;split at e
 ·rename_i s;cases e;refine⟨t,i,f,x,_,a,w,l,λr H1 u n b d=>⟨by rw[d.length];exact s,λp k=>?_⟩⟩;obtain⟨E,R⟩:=b.alloc k (x:=.lst x) (o:=.lst u) λE=>⟨u,zu,d.ext E⟩
  exact q _ _ _ (n.trans E) R (.last b.len.symm)
 ·cases e
def eI(a:aa):D->Option (List D)
 |.lst xs=>some xs
 |.ref n=>match a[n]? with
  |some (.lst xs)=>some xs
  |_=>none
 |_=>none
theorem gJ{K:Fg}(c:bD K ρ au H) (a:At K ρ H (.ref n) u)(e:au[n]?=some o)(d:o≠.dead):∃p,u=.ref p/\ρ.m[n]?=some (some p)/\lY K ρ H o p:=by
 cases a with
 |ref h1 h2=>
  obtain⟨p,b⟩:=c.live n o e d;exact⟨p,h2 p b,b,c.obj n p o b e⟩
theorem k9{K:Fg}(g:bD K ρ au H)(a:At K ρ H d u)(e:eI au d=some xs):∃p vs,u=.ref p/\H p=some (.lst vs)/\ae K ρ H xs vs:=by
 cases d<;>try (cases e;done)
 ·rename_i n;unfold eI at e;dsimp only at e;split at e
  ·rename_i h b;cases e;obtain⟨p,rfl,i,vs,f,c⟩:=gJ g a b (by intro z;cases z);exact⟨p,vs,rfl,f,c⟩
  ·cases e
 ·cases e;cases a with
  |lst h1 h2 h3=>exact⟨_,_,rfl,h1,h3⟩
def oI(C:Int->Int->Prop) [DecidableRel C] (h:Int->Int->D) (x y:D) (a:aa):bu D:=match x,y with
 |.int i,.int j=>if C i j then .ok (h i j) a else .stuck
 |_,_=>.stuck
theorem bB{K:Fg} [DecidableRel C] (k:∀i j c H,At K c H (h i j) (g i j)):iu K (oI C h) (rI C g):=λc H m x y u v z f Q l a b e q=>by
 unfold oI at e;split at e
 ·cases a;cases b;split at e
  ·rename_i d;cases e;exact⟨_,_,rfl,rfl,d,q _ _ _ (.refl _ _) l (k _ _ _ _)⟩
  ·cases e
 ·cases e
theorem iy{K:Fg}(k:∀i j d H,At K d H (h i j) (g i j)):iu K (oI (λ_ _=>True) h) (lJ g):=λd H l x y u v z c Q o a b e q=>by
 obtain⟨i,j,n,f,_,m⟩:=bB (C:=λ_ _=>True) k d H l x y u v z c Q o a b e q;exact⟨i,j,n,f,m⟩
instance:DecidableRel eS:=λi j=>by unfold eS;infer_instance
instance:DecidableRel gv:=λi j=>by unfold gv;infer_instance
instance:DecidableRel jN:=λi j=>by unfold jN;infer_instance
abbrev bH:=oI (λ_ _=>True) λi j=>.int (i-j)
abbrev fR:=oI gv λi j=>.int (i/j)
abbrev ik:=oI (λ_ j=>0<j) λi j=>.int (i%j)
abbrev jA:=oI (λ_ _=>True) λi j=>.int (Builtin.bitAnd i j)
abbrev O6:=oI jN λi j=>.int (i^j.toNat)
abbrev pH:=oI jN λi j=>.int (i*2^j.toNat)
abbrev AI:=oI (λ_ j=>0<=j) λi j=>.int (i/2^j.toNat)
abbrev bR:=oI eS λi j=>.int (i*j)
def aO(x y:D) (c:aa):bu D:=match x,y with
 |.int i,.int j=>.ok (.int (i+j)) c
 |.tup a,.tup b=>if a.length+b.length<=sizeLine then .ok (.tup (a++b)) c else .stuck
 |.str a,.str b=>if a.length+b.length<=sizeLine then .ok (.str (a++b)) c else .stuck
 |x,y=>match eI c x,eI c y with
  |some a,some b=>if a.length+b.length<=sizeLine then .ok (.lst (a++b)) c else .stuck
  |_,_=>.stuck
abbrev qF(K:Fg):R2:=λx y H Q=>lJ (λi j=>.int (i+j)) x y H Q\/qE K x y H Q\/(∃i j,x=.str i/\y=.str j/\i.length+j.length<=sizeLine/\Q (.str (i++j)) H)\/AE x y H Q
theorem Ex:di X (binaryOp .Add) (qF X.K):=HN.or (J5.or (Ue.or HP))
theorem r8{K:Fg}:iu K aO (qF K):=λw H G x y u v z o Q c a b e q=>by
 unfold aO at e;split at e
 ·cases a;cases b;cases e;exact .inl ⟨_,_,rfl,rfl,q _ _ _ (.refl _ _) c (.int _)⟩
 ·rename_i I A;split at e
  ·rename_i d;cases e;refine .inr (.inl ?_);cases a with
   |tup f k h3=>
    cases b with
    |tup h g k3=>
     refine⟨_,_,_,_,rfl,rfl,bz.of f,bz.of h,by rw[h3.length,k3.length];exact d,λz=>?_,λn m=>?_,λn m p j=>?_⟩
     ·subst z;cases h3;exact q _ _ _ (.refl _ _) c (.tup h g k3)
     ·subst m;cases k3;rw[lD] at q;exact q _ _ _ (.refl _ _) c (.tup f k h3)
     ·exact q _ _ _ (bg.new j _) (c.new j _) (.newT c j (h3.append k3))
  ·cases e
 ·split at e
  ·rename_i d;cases a;cases b;cases e;exact .inr (.inr (.inl ⟨_,_,rfl,rfl,d,q _ _ _ (.refl _ _) c (.str _)⟩))
  ·cases e
 ·split at e
  ·rename_i f k;split at e
   ·rename_i d;cases e;obtain⟨p,s,rfl,r,l⟩:=k9 c a f;obtain⟨C,E,rfl,h,g⟩:=k9 c b k;exact .inr (.inr (.inr ⟨_,_,_,_,rfl,rfl,r,h,by rw[l.length,g.length];exact d,λt i=>q _ _ _ (bg.new i _) (c.new i _) (.newL c i (l.append g))⟩))
   ·cases e
  ·cases e
abbrev lO:=oI (λ_ _=>True) λi j=>.bl (decide (i<=j))
abbrev qH:=oI (λ_ _=>True) λi j=>.bl (decide (j<i))
abbrev Wp:=oI (λ_ _=>True) λi j=>.bl (decide (j<=i))
mutual
noncomputable def fq:D->Option PyData
 |.non=>some .none
 |.bl b=>some (.bool b)
 |.int i=>some (.int i)
 |.str x=>some (.str x)
 |.tup ds=>(cP ds).map .tuple
 |.lst ds=>(cP ds).map .list
 |_=>none
noncomputable def cP:List D->Option (List PyData)
 |[]=>some []
 |d::ds=>(fq d).bind λx=>(cP ds).map λa=>x::a
end
mutual
theorem xR{K:Fg}{c:Loc}{H:Hp}:∀{d:D}{v:V}{p:PyData},At K c H d v->fq d=some p->my K H v p
 |_,_,_,.non,e=>by cases e;exact .non
 |_,_,_,.bl b,e=>by cases e;exact .bl b
 |_,_,_,.int i,e=>by cases e;exact .int i
 |_,_,_,.str x,e=>by cases e;exact .str x
 |_,_,_,.ty n,e=>by cases e
 |_,_,_,.exn _,e=>by cases e
 |_,_,_,.ref _ _,e=>by cases e
 |_,_,_,.tup h _ al,e=>by
  rw[fq] at e;obtain⟨f,a,rfl⟩:=gQ.mp e;exact .tup (bz.of h) (Cf al a)
 |_,_,_,.lst h _ al,e=>by
  rw[fq] at e;obtain⟨f,a,rfl⟩:=gQ.mp e;exact .lst (da.of h) (Cf al a)
 |_,_,_,.scr _ _,e=>by cases e
theorem Cf{K:Fg}{c:Loc}{H:Hp}:∀{d:List D}{v:List V}{p:List PyData},ae K c H d v->cP d=some p->kr K H v p
 |_,_,_,.nil,e=>by cases e;exact .nil
 |_,_,_,.cons a b,e=>by
  rw[cP] at e;obtain⟨x,g,e⟩:=uZ.mp e;obtain⟨h,f,rfl⟩:=gQ.mp e;exact .cons (xR a g) (Cf b f)
end
def now(a:aa) (d:D):D:=match eI a d with
 |some xs=>.lst xs
 |none=>d
def dataOf(a:aa) (d:D):Option PyData:=fq (now a d)
theorem QL{K:Fg}(h:bD K ρ au H) (a:At K ρ H d u)(e:dataOf au d=some p):my K H u p:=by
 unfold dataOf now at e;split at e
 ·rename_i k c;obtain⟨q,i,rfl,g,f⟩:=k9 h a c;rw[fq] at e;obtain⟨j,b,rfl⟩:=gQ.mp e;exact .lst (da.of g) (Cf f b)
 ·exact xR a e
def fy(d:Bool) (x y:D) (c:aa):bu D:=match dataOf c x,dataOf c y with
 |some a,some b=>if PySem.SeqAt.shaped a=true/\PySem.SeqAt.shaped b=true then .ok (.bl (if d then !PyData.eqv a b else PyData.eqv a b)) c else .stuck
 |_,_=>.stuck
theorem ku{K:Fg}:iu K (fy neg) (tw K neg):=λl H j x y u v z f Q c a b e q=>by
 unfold fy at e;split at e
 ·rename_i k i h g;split at e
  ·rename_i d;cases e;exact⟨_,_,QL c a h,QL c b g,d.1,d.2,q _ _ _ (.refl _ _) c (.bl _)⟩
  ·cases e
 ·cases e
abbrev lP:=fy false
abbrev lN:=fy true
def nk(a:Bool) (x y:D) (b:aa):bu D:=match x,y with
 |.ref _,_=>.stuck
 |.non,.non=>.ok (.bl (!a)) b
 |_,.non=>.ok (.bl a) b
 |_,_=>.stuck
theorem J1{K:Fg}:iu K (nk true) (λx y H Q=>y=.non/\Q (.bl (!decide (x=.non))) H):=λi H h x y u v z d Q c a b e q=>by
 unfold nk at e;split at e<;>try (cases e;done)
 ·cases a;cases b;cases e
  exact⟨rfl,q _ _ _ (.refl _ _) c (by simp;exact .bl _)⟩
 ·rename_i g f;cases b;cases e
  refine⟨rfl,q _ _ _ (.refl _ _) c ?_⟩;have:u≠.non:=by
   rintro rfl;cases a<;>first|exact f rfl|exact g _ rfl
  rw[dj this];exact .bl _
noncomputable def bv:List D->Option (List Int)
 |[]=>some []
 |.int i::r=>(bv r).map (i::·)
 |_::_=>none
theorem rf{K:Fg}:∀{c:List D}{f:List V}{g:List Int},ae K ρ H c f->bv c=some g->f=g.map V.int
 |_,_,_,.nil,e=>by cases e;rfl
 |_,_,_,.cons (d:=d) a b,e=>by
  cases d<;>try (cases e;done)
  rw[bv] at e;obtain⟨i,h,rfl⟩:=gQ.mp e;cases a;rw[rf b h]
  rfl
def fQ(x y:D) (c:aa):bu D:=match x,y with
 |.int i,.int j=>.ok (.bl (decide (i<j))) c
 |.tup a,.tup b=>match bv a,bv b with
  |some ns,some ms=>.ok (.bl (HT.lexLt ns ms)) c
  |_,_=>.stuck
 |_,_=>.stuck
abbrev zY(K:Fg):R2:=λx y H Q=>lJ (λi j=>.bl (decide (i<j))) x y H Q\/zX K x y H Q
theorem uh{X:Cx}(a:X.A.units<cLine):di X (compareOp .Lt) (zY X.K):=Gj.or (HQ a)
theorem ug{K:Fg}:iu K fQ (zY K):=λk H j x y u v z f Q c a b e q=>by
 unfold fQ at e;split at e
 ·cases a;cases b;cases e
  exact .inl ⟨_,_,rfl,rfl,q _ _ _ (.refl _ _) c (.bl _)⟩
 ·split at e
  ·rename_i i h;cases e;cases a with
   |tup g1 g2 g3=>
    cases b with
    |tup k1 k2 k3=>
     have g:=rf g3 i;have d:=rf k3 h;subst g d;exact .inr ⟨_,_,_,_,rfl,rfl,bz.of g1,bz.of k1,q _ _ _ (.refl _ _) c (.bl _)⟩
  ·cases e
 ·cases e
def cy(a:aa):D->Option (List D)
 |.tup xs=>some xs
 |.scr xs=>some xs
 |d=>eI a d
theorem vE{K:Fg}(f:bD K ρ au H) (a:At K ρ H d u)(e:cy au d=some xs):
  ∃p vs,u=.ref p/\(da K H p vs\/bz K H p vs)/\ae K ρ H xs vs:=by
 unfold cy at e;split at e
 ·cases e;cases a with
  |tup b c h3=>exact⟨_,_,rfl,.inr (bz.of b),h3⟩
 ·cases e;cases a with
  |scr b h3=>exact⟨_,_,rfl,.inl b.sq,h3⟩
 ·obtain⟨p,vs,rfl,b,c⟩:=k9 f a e;exact⟨p,vs,rfl,.inl (da.of b),c⟩
theorem ae.atI{K:Fg}(h:ae K ρ H ds vs)(e:L2.atI ds i=some d):∃v,L2.atI vs i=some v/\At K ρ H d v:=by
 unfold L2.atI at e ⊢;rw[h.length];cases hi:kP ds.length i with
 |none=>rw[hi] at e;cases e
 |some j=>
  rw[hi] at e;obtain⟨v,b,a⟩:=h.get (i:=j) e;exact⟨v,b,a⟩
def cB(x y:D) (a:aa):bu D:=match cy a x,y with
 |some xs,.int i=>match L2.atI xs i with
  |some v=>.ok v a
  |none=>.stuck
 |_,_=>.stuck
theorem Gg{K:Fg}:iu K cB (SK K):=λn H l x y u v z h Q c a b e q=>by
 unfold cB at e;split at e
 ·rename_i j;split at e
  ·rename_i w i;cases e;cases b;obtain⟨p,k,rfl,h2,g⟩:=vE c a j;obtain⟨m,d,f⟩:=g.atI i;rcases h2 with h2|h2
   ·exact .inl ⟨_,_,_,_,rfl,rfl,h2,d,q _ _ _ (.refl _ _) c f⟩
   ·exact .inr (.inl ⟨_,_,_,_,rfl,rfl,h2,d,q _ _ _ (.refl _ _) c f⟩)
  ·cases e
 ·cases e
def cutD(a:List D) (lo b:Option Int):List D:=(a.drop (HT.bY a.length 0 lo)).take (HT.bY a.length a.length b-HT.bY a.length 0 lo)
theorem ae.cut{K:Fg}(h:ae K ρ H ds vs)(lo a:Option Int):ae K ρ H (cutD ds lo a) (hJ vs lo a):=by
 unfold cutD hJ;rw[h.length];exact(h.drop _).take _
def gr:DS->aa->bu (Option Int):=λ_ a=>.ok none a
def gq(f:SE):DS->aa->bu (Option Int):=λc b=>(f c b).bind λv a=>match v with
 |.int i=>.ok (some i) a
 |_=>.stuck
def qL(f:SE) (lo e:DS->aa->bu (Option Int)):SE:=λc g=>(f c g).bind λx d=>(lo c d).bind λl b=>(e c b).bind λh a=>match x with
 |.tup xs=>.ok (.tup (cutD xs l h)) a
 |x=>match eI a x with
  |some xs=>.ok (.lst (cutD xs l h)) a
  |none=>.stuck
def Wm(K:Fg) (f:DS->aa->bu (Option Int)):TO:=λh H Q=>∃d g e v b,dc K d H g h/\bD K d e H/\f g e=.ok v b/\∀a c,bg d H a c->bD K a b c->Q v c
abbrev DO(X:Cx) (e:Option Expr) (f:DS->aa->bu (Option Int)):Prop:=PO X e (Wm X.K f)
theorem wu(h:PO X e t)(k:∀a H Q,t' a H Q->t a H Q):PO X e t':=λb s a H Q I q=>h b s a H Q I (k _ _ _ q)
theorem Ji:DO X none gr:=wu Km λf H Q b=>by
 obtain⟨i,h,g,v,c,a,d,e,q⟩:=b;cases e;exact q _ _ (.refl _ _) d
theorem Jj(g:DE X e f):DO X (some e) (gq f):=wu (Kn g) λr H Q d=>by
 obtain⟨n,i,h,v,j,a,p,e,q⟩:=d;obtain⟨x,c,k,e⟩:=za e;refine⟨n,i,h,x,c,a,p,k,λm H1 u l b o=>?_⟩;cases x<;>try (cases e;done)
 cases e;cases o;exact⟨_,rfl,q _ _ l b⟩
theorem Ps(d:DE X a f)(e:DE X b f')(c:jc b):DE X (.Subscript a b pos) (aU cB f f'):=fg (Go Hq d e c) (oR Gg)
section
variable {X:Cx}{a:Expr}{e:Expr}{f:SE}{pos:Pos}{lo:Option Expr}{hi:Option Expr}{l:DS->aa->bu (Option Int)}{h:DS->aa->bu (Option Int)}
theorem Po{E:Pos}(he:DE X e f)(T:DO X lo l)(hu:DO X hi h):DE X (.Subscript e (.Slice lo hi none E) pos) (qL f l h):=fg (Mq (KE.or KD) he T hu) λτ H Q m=>by
 obtain⟨G,o,P,v,R,a,I,e,q⟩:=m;obtain⟨x,g,S,e⟩:=za e;obtain⟨y,d,e2,e⟩:=za e;obtain⟨z,n,Y,e⟩:=za e;refine⟨G,o,P,x,g,a,I,S,λk H1 u r j a1=>?_⟩;refine⟨k,o,g,y,d,a.ext r,j,e2,λs H2 w t=>?_⟩;refine⟨s,o,d,z,n,a.ext (r.trans w),t,Y,λa0 H3 A b=>?_⟩;have C:=a1.ext (w.trans A);have i:=r.trans (w.trans A);split at e
 ·cases e;refine .inl ?_;cases C with
  |tup h1 h2 h3=>
   refine⟨_,_,rfl,bz.of h1,λec=>?_,λp c=>?_⟩
   ·refine q _ _ _ i b (.tup h1 h2 ?_);have:=h3.cut y z;rw[ec] at this;exact this
   ·exact q _ _ _ (i.trans (bg.new c _)) (b.new c _) (.newT b c (h3.cut y z))
 ·split at e
  ·rename_i xs hx;cases e;obtain⟨p,vs,rfl,U,J⟩:=k9 b C hx;exact .inr ⟨_,_,rfl,da.of U,λp c=>q _ _ _ (i.trans (bg.new c _)) (b.new c _) (.newL b c (J.cut y z))⟩
  ·cases e
end
def aE(g:List D->aa->bu D) (f:SA):SE:=λd c=>(f d c).bind λb a=>g b a
def jL(K:Fg) (g:List D->aa->bu D) (r:List V->Hp->VK->Prop):Prop:=
 ∀d H f e h z b (Q:VK),bD K d f H->ae K d H e h->g e f=.ok z b->(∀a c w,bg d H a c->bD K a b c->At K a c z w->Q w c)->r h H Q
theorem wc{K:Fg}(l:jL K g r):∀c H Q,tD K (aE g f) c H Q->OX r (OW K f) c H Q:=λc H Q k=>by
 obtain⟨y,n,m,v,h,a,A,e,q⟩:=k;obtain⟨x,b,o,e⟩:=za e;exact⟨y,n,m,x,b,a,A,o,λj H1 u p i z=>l j H1 b x u v h Q i z e λd s w t=>q d s w (p.trans t)⟩
theorem IU{x:Str}{id:String}(d:bF X (.builtin id) r)(h:jL X.K g r)(m:Gl X x)(k:X.mg x=none)(i:bootBuiltins x=some (.builtin id))(l:DA X (e::es) f)(j:x≠"__name__":=by decide)(b:(x==("__debug__" : Str))=false:=by decide)
 (c:starEach (e::es) X.env=(false,eval e X.env)::starEach es X.env:=by rfl)(a:(backTo pos (starEach es X.env)).any (·.1)=false:=by rfl):DE X (.Call (.Name x p) (e::es) [] pos) (aE g f):=fg (Mj d m k i l j b c a) (wc h)
theorem Ld{T:String}(d:bF X (.type T) r)(h:jL X.K g r)(m:Gl X x)(k:X.mg x=none)(i:bootBuiltins x=some (.type T))(l:DA X (e::es) f)(j:x≠"__name__":=by decide)(b:(x==("__debug__" : Str))=false:=by decide)
 (c:starEach (e::es) X.env=(false,eval e X.env)::starEach es X.env:=by rfl)(a:(backTo pos (starEach es X.env)).any (·.1)=false:=by rfl):DE X (.Call (.Name x p) (e::es) [] pos) (aE g f):=fg (NQ d m k i l j b c a) (wc h)
theorem ae.one{K:Fg}(h:ae K ρ H [d] us):∃u,us=[u]/\At K ρ H d u:=by
 cases h with
 |cons a b=>cases b;exact⟨_,rfl,a⟩
theorem ae.two{K:Fg}(h:ae K ρ H [d,e] us):∃u v,us=[u,v]/\At K ρ H d u/\At K ρ H e v:=by
 cases h with
 |cons a b=>
  obtain⟨v,rfl,c⟩:=b.one;exact⟨_,_,rfl,a,c⟩
def bU:List D->aa->bu D:=λb a=>match b with
 |[x]=>match cy a x with
  |some ys=>.ok (.int ys.length) a
  |none=>.stuck
 |_=>.stuck
theorem jl{K:Fg}:jL K bU (λc H Q=>∃p b,c=[.ref p]/\(da K H p b\/bz K H p b)/\Q (.int b.length) H):=λn H l c m z i Q d g e q=>by
 unfold bU at e;split at e
 ·split at e
  ·rename_i h;cases e;obtain⟨u,rfl,a⟩:=g.one;obtain⟨p,f,rfl,k,j⟩:=vE d a h;refine⟨p,f,rfl,k,?_⟩;rw[j.length];exact q _ _ _ (.refl _ _) d (.int _)
  ·cases e
 ·cases e
def lW:List D->aa->bu D:=λa b=>match a with
 |[.int i]=>.ok (.int (if i<0 then -i else i)) b
 |_=>.stuck
theorem GC{K:Fg}:jL K lW (λb H Q=>∃i,b=[.int i]/\Q (.int (if i<0 then -i else i)) H):=λj H g b h z d Q f c e q=>by
 unfold lW at e;split at e
 ·cases e;obtain⟨u,rfl,a⟩:=c.one;cases a;exact⟨_,rfl,q _ _ _ (.refl _ _) f (.int _)⟩
 ·cases e
def va(g:Int->Int->Int):List D->aa->bu D:=λa b=>match a with
 |[.int i,.int j]=>.ok (.int (g i j)) b
 |_=>.stuck
theorem jp{K:Fg}:jL K (va g) (λc H Q=>∃i j,c=[.int i,.int j]/\Q (.int (g i j)) H):=λm H k c l z f Q h d e q=>by
 unfold va at e;split at e
 ·cases e;obtain⟨u,v,rfl,a,b⟩:=d.two;cases a;cases b;exact⟨_,_,rfl,q _ _ _ (.refl _ _) h (.int _)⟩
 ·cases e
abbrev fU:=va λi j=>if j<i then j else i
abbrev BE:=va λi j=>if j > i then j else i
def iq:List D->aa->bu D:=λb a=>match b with
 |[x]=>match (cy a x).bind bv with
  |some ns=>.ok (.int ns.sum) a
  |none=>.stuck
 |_=>.stuck
theorem wD{K:Fg}:jL K iq (zT K):=λr H m l n z d Q b c e q=>by
 unfold iq at e;split at e
 ·split at e
  ·rename_i g h;cases e;obtain⟨o,f,h⟩:=uZ.mp h;obtain⟨u,rfl,a⟩:=c.one;obtain⟨p,k,rfl,j,i⟩:=vE b a f;have e:=rf i h;subst e;exact⟨p,g,rfl,j,q _ _ _ (.refl _ _) b (.int _)⟩
  ·cases e
 ·cases e
noncomputable def bJ:List D->Option (List Bool)
 |[]=>some []
 |.bl i::r=>(bJ r).map (i::·)
 |_::_=>none
theorem Rl{K:Fg}:∀{c:List D}{f:List V}{g:List Bool},ae K ρ H c f->bJ c=some g->f=g.map V.bl
 |_,_,_,.nil,e=>by cases e;rfl
 |_,_,_,.cons (d:=d) a b,e=>by
  cases d<;>try (cases e;done)
  rw[bJ] at e;obtain⟨i,h,rfl⟩:=gQ.mp e;cases a;rw[Rl b h]
  rfl
def eP(c:Bool):List D->aa->bu D:=λb a=>match b with
 |[x]=>match (eI a x).bind bJ with
  |some bs=>.ok (.bl (if c then bs.all id else bs.any id)) a
  |none=>.stuck
 |_=>.stuck
theorem vf{K:Fg}:jL K (eP al) (tz K al):=λr H m l n z d Q b c e q=>by
 unfold eP at e;split at e
 ·split at e
  ·rename_i g h;cases e;obtain⟨o,f,h⟩:=uZ.mp h;obtain⟨u,rfl,a⟩:=c.one;obtain⟨p,k,rfl,j,i⟩:=k9 b a f;have e:=Rl i h;subst e;exact⟨p,g,rfl,da.of j,q _ _ _ (.refl _ _) b (.bl _)⟩
  ·cases e
 ·cases e
def kc(a:aa):D->Option String
 |.non=>some "NoneType"
 |.bl _=>some "bool"
 |.int _=>some "int"
 |.str _=>some "str"
 |.tup _=>some "tuple"
 |.lst _=>some "list"
 |.ref n=>match a[n]? with
  |some (.lst _)=>some "list"
  |some (.dT _)=>some "dict"
  |_=>none
 |_=>none
noncomputable def AS(t T:String):Bool:=t==T||(t=="bool"&&T=="int")
def bp:List D->aa->bu D:=λb a=>match b with
 |[x,.ty T]=>match kc a x with
  |some t=>if["int","bool","str","tuple","list","dict"].contains T=true then .ok (.bl (AS t T)) a else .stuck
  |none=>.stuck
 |_=>.stuck
theorem Tw{K:Fg}(c:bD K ρ au H) (a:At K ρ H d u)(e:kc au d=some t):fD K H u (.type t)/\t∈["NoneType","bool","int","str","tuple","list","dict"]:=by
 cases d<;>try (cases e;done)
 ·cases e;cases a;exact⟨.non,by simp⟩
 ·cases e;cases a;exact⟨.bl _,by simp⟩
 ·cases e;cases a;exact⟨.int _,by simp⟩
 ·cases e;cases a;exact⟨.str _,by simp⟩
 ·unfold kc at e;dsimp only at e;split at e
  ·rename_i h;cases e;obtain⟨p,rfl,i,f,b,g⟩:=gJ c a h (by intro z;cases z);exact⟨.lst b,by simp⟩
  ·rename_i h;cases e;obtain⟨p,rfl,i,f,b,g⟩:=gJ c a h (by intro z;cases z);exact⟨.dT b,by simp⟩
  ·cases e
 ·cases e;cases a with
  |tup h1 h2 h3=>exact⟨.tup h1,by simp⟩
 ·cases e;cases a with
  |lst h1 h2 h3=>exact⟨.lst h1,by simp⟩
theorem Hx{K:Fg}{T:String}(a:t∈["NoneType","bool","int","str","tuple","list","dict"])(b:T∈["int","bool","str","tuple","list","dict"]):W.kitOne K (.type t) (.type T)=some (AS t T):=by
 simp only[bT,pd,oW] at a b;rcases a with rfl|rfl|rfl|rfl|rfl|rfl|rfl<;>rcases b with rfl|rfl|rfl|rfl|rfl|rfl<;>rfl
theorem rg{K:Fg}:jL K bp (λc H Q=>∃x T t b,c=[x,.ty T]/\fD K H x t/\W.kitOne K t (.type T)=some b/\Q (.bl b) H):=λn H l c m z g Q d f e q=>by
 unfold bp at e;split at e
 ·split at e
  ·rename_i h;split at e
   ·rename_i i;cases e;obtain⟨u,v,rfl,a,b⟩:=f.two;cases b;obtain⟨k,j⟩:=Tw d a h;exact⟨_,_,_,_,rfl,k,Hx j (by simpa using i),q _ _ _ (.refl _ _) d (.bl _)⟩
   ·cases e
  ·cases e
 ·cases e
def bi:List D->aa->bu D:=λb a=>match b with
 |[.tup ys]=>.ok (.tup ys) a
 |[x]=>match eI a x with
  |some ys=>.ok (.tup ys) a
  |none=>.stuck
 |_=>.stuck
theorem li{K:Fg}:jL K bi (λj H Q=>∃p d,j=[.ref p]/\((da K H p d/\∀l,H l=none->Q (.ref l) (aq H l (.tup d)))\/(bz K H p d/\Q (.ref p) H))):=λr H n j o z k Q c i e q=>by
 unfold bi at e;split at e
 ·cases e;obtain⟨u,rfl,a⟩:=i.one;cases a with
  |tup b g h3=>exact⟨_,_,rfl,.inr ⟨bz.of b,q _ _ _ (.refl _ _) c (.tup b g h3)⟩⟩
 ·split at e
  ·rename_i h;cases e;obtain⟨u,rfl,a⟩:=i.one;obtain⟨p,m,rfl,b,g⟩:=k9 c a h;exact⟨_,_,rfl,.inl ⟨da.of b,λl f=>q _ _ _ (bg.new f _) (c.new f _) (.newT c f g)⟩⟩
  ·cases e
 ·cases e
def hV:List D->aa->bu D:=λb a=>match b with
 |[x]=>match cy a x with
  |some ys=>.ok (.lst ys) a
  |none=>.stuck
 |_=>.stuck
def jb:List D->aa->bu D:=λb a=>match b with
 |[x]=>match cy a x with
  |some ys=>.ok (.ref a.length) (a++[.lst ys])
  |none=>.stuck
 |_=>.stuck
theorem xL{K:Fg}:jL K hV (λf H Q=>∃p b,f=[.ref p]/\(da K H p b\/bz K H p b)/\∀l,H l=none->Q (.ref l) (aq H l (.lst b))):=λr H n f o z i Q d g e q=>by
 unfold hV at e;split at e
 ·split at e
  ·rename_i h;cases e;obtain⟨u,rfl,a⟩:=g.one;obtain⟨p,m,rfl,k,j⟩:=vE d a h;exact⟨_,_,rfl,k,λl c=>q _ _ _ (bg.new c _) (d.new c _) (.newL d c j)⟩
  ·cases e
 ·cases e
theorem K5{K:Fg}:jL K jb (λf H Q=>∃p b,f=[.ref p]/\(da K H p b\/bz K H p b)/\∀l,H l=none->Q (.ref l) (aq H l (.lst b))):=λs H n f r z i Q c g e q=>by
 unfold jb at e;split at e
 ·split at e
  ·rename_i b h;cases e;obtain⟨u,rfl,a⟩:=g.one;obtain⟨p,d,rfl,m,k⟩:=vE c a h;refine⟨_,_,rfl,m,λl j=>?_⟩;obtain⟨E,R⟩:=c.alloc j (x:=.lst b) (o:=.lst d) λE=>⟨d,zu,k.ext E⟩
   exact q _ _ _ E R (.last c.len.symm)
  ·cases e
 ·cases e
noncomputable abbrev aL(a:List Int):D:=.tup (a.map .int)
abbrev aJ(l:'$'):List D:=l.map aL
def lU(a:List Int):List (List Int)->List (List Int)
 |[]=>[a]
 |b::r=>if HT.lexLt b a=true then b::lU a r else a::b::r
def aw:List (List Int)->List (List Int)
 |[]=>[]
 |a::r=>lU a (aw r)
abbrev tR(l:'$'):Prop:=l.Pairwise λa b=>HT.lexLt b a=false
theorem Fd(a:List Int):∀l,(lU a l).Perm (a::l)
 |[]=>.refl _
 |b::r=>by
  unfold lU;split
  ·exact(List.Perm.cons b (Fd a r)).trans (.swap a b r)
  ·exact .refl _
theorem zj:∀l,(aw l).Perm l
 |[]=>.refl _
 |a::r=>(Fd a _).trans (.cons a (zj r))
theorem UW(e:HT.lexLt b a=false)(d:HT.lexLt c b=false):HT.lexLt c a=false:=by
 cases h:HT.lexLt c a with
 |false=>rfl
 |true=>
  rcases Srt.BZ a b with z|z|z
  ·have:=Srt.CB h z;rw[d] at this;cases this
  ·subst z;rw[d] at h;cases h
  ·rw[e] at z;cases z
theorem x3(a:List Int):∀l,tR l->tR (lU a l)
 |[],_=>Oy _ _
 |b::r,h=>by
  obtain⟨e,f⟩:=y6.mp h;unfold lU;split
  ·rename_i c;refine y6.mpr ⟨λx hx=>?_,x3 a r f⟩;rcases bT.mp ((Fd a r).mem_iff.mp hx) with rfl|hx
   ·exact Srt.NB c
   ·exact e x hx
  ·rename_i c;have d:HT.lexLt b a=false:=by simpa using c
   refine y6.mpr ⟨λx hx=>?_,h⟩;rcases bT.mp hx with rfl|hx
   ·exact d
   ·exact UW d (e x hx)
theorem Cu:∀l,tR (aw l)
 |[]=>.nil
 |a::r=>x3 a _ (Cu r)
theorem Rf:∀{l m:'$'},l.Perm m->tR l->tR m->l=m
 |[],m,p,_,_=>by rw[List.nil_perm.mp p]
 |a::l,[],p,_,_=>by cases List.perm_nil.mp p
 |a::l,b::m,p,h1,h2=>by
  obtain⟨h,c⟩:=y6.mp h1;obtain⟨i,f⟩:=y6.mp h2;have e:a=b:=by
   rcases bT.mp (p.mem_iff.mp eF) with z|z
   ·exact z
   ·rcases bT.mp (p.mem_iff.mpr (eF (a:=b) (l:=m))) with y|y
    ·exact y.symm
    ·have g:=i a z;have d:=h b y;rcases Srt.BZ a b with w|w|w
     ·rw[g] at w;cases w
     ·exact w
     ·rw[d] at w;cases w
  subst e;rw[Rf (List.Perm.cons_inv p) c f]
theorem E5{m:'$'}(p:m.Perm l)(h:tR m):m=aw l:=Rf (p.trans (zj l).symm) h (Cu l)
theorem v8(l:'$'):(aw l).length=l.length:=(zj l).length_eq
def fC:List D->Option (List (List Int))
 |[]=>some []
 |.tup ds::r=>(bv ds).bind λa=>(fC r).map (a::·)
 |_::_=>none
theorem QA{K:Fg}:∀{f:List D}{g:List V}{l:'$'},ae K ρ H f g->fC f=some l ->
  ∃c:List (Addr×List Int),g=c.map (λp=>V.ref p.1)/\c.map (·.2)=l/\∀p∈c,H p.1=some (.tup (p.2.map V.int))/\dZ ρ p.1
 |_,_,_,.nil,e=>by cases e;exact⟨[],rfl,rfl,λ_ h=>nomatch h⟩
 |_,_,_,.cons (d:=d) a b,e=>by
  cases d<;>try (cases e;done)
  rw[fC] at e;obtain⟨m,k,e⟩:=uZ.mp e;obtain⟨l,i,rfl⟩:=gQ.mp e;obtain⟨c,q,o,j⟩:=QA b i;cases a with
  |tup g1 g2 g3=>
   rename_i ad r;have n:=rf g3 k;subst n;refine⟨(ad,m)::c,by rw[q];rfl,by rw[←o];rfl,λp hp=>?_⟩;rcases bT.mp hp with rfl|hp
   ·exact⟨g1,g2⟩
   ·exact j p hp
theorem ur{K:Fg}:∀a:List Int,ae K ρ H (a.map .int) (a.map V.int)
 |[]=>.nil
 |n::a=>.cons (.int n) (ur a)
theorem E4{K:Fg}:∀a:List (Addr×List Int),(∀p∈a,H p.1=some (.tup (p.2.map V.int))/\dZ ρ p.1)->ae K ρ H (aJ (a.map (·.2))) (a.map λp=>V.ref p.1)
 |[],_=>.nil
 |p::a,h=>.cons (.tup (h p eF).1 (h p eF).2 (ur _)) (E4 a λq b=>h q (cH _ b))
theorem vM{K:Fg}(r:bD K ρ au H) (b:H p=some (.tup vs)):dZ ρ p:=by
 refine⟨λz=>?_,λz=>?_⟩
 ·obtain⟨i,d,e⟩:=oi z;obtain⟨x,_,q⟩:=r.has (n:=i) (a:=p) (by rw[cV d,e]);cases x with
  |lst xs=>obtain⟨_,e,_⟩:=q;rw[b] at e;cases e
  |dT kvs=>obtain⟨_,e,_⟩:=q;rw[b] at e;cases e
  |fT kvs=>obtain⟨_,_,e,_⟩:=q;rw[b] at e;cases e
  |dI kvs=>obtain⟨_,e,_⟩:=q;rw[b] at e;cases e
  |dP ks=>obtain⟨_,e,_⟩:=q;rw[b] at e;cases e
  |dead=>exact q
  |tab=>obtain⟨_,_,e,_⟩:=q;rw[b] at e;cases e
 ·obtain⟨⟨u,c⟩,_⟩:=r.gh p z;rw[b] at c;cases c
noncomputable def cQ(a:List (List Int×D)) (k:List Int):Option D:=(a.find? λb=>decide (b.1=k)).map (·.2)
noncomputable def i3(a:List (List Int×D)) (k:List Int) (v:D):List (List Int×D):=
 if(a.any λb=>decide (b.1=k))=true then a.map (λb=>if b.1=k then(b.1,v) else b) else a++[(k,v)]
noncomputable def iN(a:List (List Int×D)) (k:List Int):List (List Int×D):=a.filter λb=>decide (b.1≠k)
theorem BY{a b:List Int}:a.map (Sum.inl:Int->cG)=b.map Sum.inl↔a=b:=by
 constructor
 ·intro h;exact(List.map_inj_right (f:=(Sum.inl:Int->cG)) λx y e=>Sum.inl.inj e).mp h
 ·rintro rfl;rfl
theorem dR.val{K:Fg}(h:dR K ρ H kvs vs)(k:List Int):match cQ kvs k with
  |some d=>∃v,cr vs (k.map Sum.inl)=some v/\At K ρ H d v
  |none=>cr vs (k.map Sum.inl)=none:=by
 induction h with
 |nil=>rfl
 |@cons p q ps qs h t ih=>
  obtain⟨b,f⟩:=h;by_cases e:p.1=k
  ·have a:cQ (p::ps) k=some p.2:=by simp[cQ,mh,e]
   rw[a];exact⟨q.2,vG (by rw[b,e]),f⟩
  ·have a:cQ (p::ps) k=cQ ps k:=by simp[cQ,mh,e]
   have c:cr (q::qs) (k.map Sum.inl)=cr qs (k.map Sum.inl):=vF (by rw[b,BY];exact e);rw[a,c];exact ih
theorem dR.keys{K:Fg}(h:dR K ρ H kvs vs):vs.map (·.1)=(kvs.map (·.1)).map λa=>a.map Sum.inl:=by
 induction h with
 |nil=>rfl
 |@cons p q ps qs h t ih=>rw[bP,bP,bP,ih,h.1]
theorem dR.put{K:Fg}(h:dR K ρ H b c)(k:List Int) (a:At K ρ H d v):dR K ρ H (i3 b k d) (et c (k.map Sum.inl) v):=by
 have any:∀{b:List (List Int×D)}{c:List (List cG×V)},dR K ρ H b c->(b.any λg=>decide (g.1=k))=(c.any λg=>decide (g.1=k.map Sum.inl)):=λh=>by
  induction h with
  |nil=>rfl
  |@cons p q ps qs h t ih=>
   rw[sB,sB,ih,h.1]
   congr 1
   simp only[BY]
 unfold i3 et;rw[any h];split
 ·rename_i j;clear j any
  induction h with
  |nil=>exact .nil
  |@cons p q ps qs h t ih=>
   refine .cons ?_ ih;obtain⟨f,l⟩:=h;dsimp only;by_cases e:p.1=k
   ·rw[if_pos e,if_pos (by rw[f,e])];exact⟨f,a⟩
   ·rw[if_neg e,if_neg (by rw[f,BY];exact e)];exact⟨f,l⟩
 ·have i:∀{b:List (List Int×D)}{c:List (List cG×V)},dR K ρ H b c->dR K ρ H (b++[(k,d)]) (c++[(k.map Sum.inl,v)]):=λh=>by
   induction h with
   |nil=>exact .cons ⟨rfl,a⟩ .nil
   |cons h t ih=>exact .cons h ih
  exact i h
theorem dR.drop{K:Fg}(h:dR K ρ H kvs vs)(k:List Int):dR K ρ H (iN kvs k) (dB vs (k.map Sum.inl)):=by
 unfold iN dB
 induction h with
 |nil=>exact .nil
 |@cons p q ps qs h t ih=>
  by_cases e:p.1=k
  ·rw[mU (by simp[e]),mU (by simp[h.1,e])];exact ih
  ·rw[mT (by simp[e]),mT (by simp[h.1,BY,e])];exact .cons h ih
theorem dR.length{K:Fg}(h:dR K ρ H kvs vs):kvs.length=vs.length:=sC h
def pairsOf(a:aa):D->Option (List (List Int×D))
 |.ref n=>match a[n]? with
  |some (.dT kvs)=>some kvs
  |some (.fT kvs)=>some kvs
  |_=>none
 |_=>none
theorem EX{K:Fg}(f:bD K ρ au H) (a:At K ρ H d u)(e:pairsOf au d=some kvs):∃p vs,u=.ref p/\Rd H p (.dT vs)/\dR K ρ H kvs vs:=by
 unfold pairsOf at e;split at e
 ·split at e
  ·rename_i h;cases e;obtain⟨p,rfl,g,vs,c,b⟩:=gJ f a h (by intro z;cases z);exact⟨p,vs,rfl,.inl c,b⟩
  ·rename_i h;cases e;obtain⟨p,rfl,g,vs,i,c,b⟩:=gJ f a h (by intro z;cases z);exact⟨p,vs,rfl,.inr ⟨i,c⟩,b⟩
  ·cases e
 ·cases e
def eG:D->Option (List Int)
 |.tup ds=>bv ds
 |_=>none
theorem rX{K:Fg}(a:At K ρ H d u)(e:eG d=some k):∃p,u=.ref p/\H p=some (.tup ((k.map (Sum.inl:Int->cG)).map kV)):=by
 unfold eG at e;split at e
 ·cases a with
  |tup h1 h2 h3=>
   have:=rf h3 e;subst this;exact⟨_,rfl,by rw[x8];exact h1⟩
 ·cases e
theorem Eg{K:Fg}(j:bD K ρ au H) (a:At K ρ H d u)(b:At K ρ H y w)(e:pairsOf au d=some kvs)(f:eG y=some k):
  ∃p o,u=.ref p/\jK H p w o/\match cQ kvs k with
   |some z=>∃v,o=some v/\At K ρ H z v
   |none=>o=none:=by
 obtain⟨p,c,rfl,i,h⟩:=EX j a e;obtain⟨q,rfl,g⟩:=rX b f;refine⟨p,cr c (k.map Sum.inl),rfl,.inr ⟨c,_,q,i,rfl,g,rfl⟩,?_⟩;have:=h.val k;cases hv:cQ kvs k with
 |none=>rw[hv] at this;exact this
 |some z=>rw[hv] at this;exact this
def i4(a:Bool) (y x:D) (b:aa):bu D:=match eG y,pairsOf b x with
 |some k,some kvs=>.ok (.bl (if a then !(cQ kvs k).isSome else(cQ kvs k).isSome)) b
 |_,_=>.stuck
def fk(x y:D) (a:aa):bu D:=match pairsOf a x,eG y with
 |some kvs,some k=>match cQ kvs k with
  |some v=>.ok v a
  |none=>.stuck
 |_,_=>.stuck
def ja(f g h:SE):SE:=λd e=>(f d e).bind λx a=>match pairsOf a x with
 |some _=>(g d a).bind λy c=>(h d c).bind λz b=>match pairsOf b x,eG y with
  |some kvs,some k=>.ok ((cQ kvs k).getD z) b
  |_,_=>.stuck
 |none=>.stuck
def kU(f g:SE):SE:=λc d=>(f c d).bind λx b=>match pairsOf b x with
 |some _=>(g c b).bind λy a=>match x,eG y with
  |.ref n,some k=>match a[n]? with
   |some (.dT kvs)=>match cQ kvs k with
    |some v=>.ok v (a.set n (.dT (iN kvs k)))
    |none=>.stuck
   |_=>.stuck
  |_,_=>.stuck
 |none=>.stuck
def gp(f g h:SE):SS:=λb e=>(h b e).bind λv d=>(f b d).bind λx c=>(g b c).bind λy a=>match x,eG y with
 |.ref n,some k=>match a[n]? with
  |some (.dT kvs)=>if kvs.length<sizeLine then .ok (.nx b) (a.set n (.dT (i3 kvs k v))) else .stuck
  |_=>.stuck
 |_,_=>.stuck
def eO:SE:=λ_ a=>.ok (.ref a.length) (a++[.dT []])
theorem wY{K:Fg}(f:bD K ρ au H) (a:At K ρ H d u)(e:pairsOf au d=some kvs):∃p,u=.ref p/\Eb H p:=by
 obtain⟨p,b,rfl,c,_⟩:=EX f a e;exact⟨p,rfl,.inr ⟨b,c⟩⟩
theorem GX:DE X (.Dict [] [] pos) eO:=fg Mn λg H Q b p f=>by
 obtain⟨j,i,h,v,d,a,c,e,q⟩:=b;cases e;obtain⟨E,R⟩:=c.alloc f (x:=.dT []) (o:=.dT []) λE=>⟨[],zu,.nil⟩
 exact q _ _ _ E R (.last c.len.symm)
theorem Gm{X:Cx}(hu:X.A.units+1<cLine)(t:DE X i g)(ho:DE X o f):PC X .In i o (tD X.K (aU (i4 false) g f)):=λE s σ H Q I A=>by
 refine HS hu t ho E s σ H Q I ?_;obtain⟨C,c,R,v,S,a,G,e,q⟩:=A;obtain⟨x,b,T,e⟩:=za e;obtain⟨y,h,e2,e⟩:=za e;refine⟨C,c,R,x,b,a,G,T,λk H1 u n j a1=>?_⟩;refine⟨k,c,b,y,h,a.ext n,j,e2,λa0 H2 w r d a2=>?_⟩;unfold i4 at e;split at e
 ·rename_i J z U h2;cases e;obtain⟨p,m,rfl,Y,P⟩:=Eg d a2 (a1.ext r) h2 U;refine⟨p,m,rfl,Y,?_⟩;have:m.isSome=(cQ z J).isSome:=by
   revert P;split
   ·rename_i l;rintro⟨v,rfl,_⟩;rw[l];rfl
   ·rename_i l;rintro rfl;rw[l];rfl
  rw[this];exact q _ _ _ (n.trans r) d (.bl _)
 ·cases e
theorem tN(h:PC X op a b (tD X.K t))(c:behindInMarks op b=false:=by first|exact nobehind _ ')' ')'|rfl):DE X (.Compare a [op] [b] pos) t:=HW h c
theorem F1(h:PC X op a b (tD X.K t))(d:behindInMarks op b=false:=by first|exact nobehind _ ')' ')'|rfl):DT X (.Compare a [op] [b] pos) (eB t):=j6 (Iq h d) λe H Q c=>tK _ _ _ c
theorem GW{X:Cx}(hu:X.A.units+1<cLine)(ho:DE X o f)(s:DE X i g)(S:pN i):DE X (.Subscript o i pos) (aU fk f g):=fg (Kf hu ho s S) λτ H Q k=>by
 obtain⟨A,m,G,v,I,a,C,e,q⟩:=k;obtain⟨x,b,J,e⟩:=za e;obtain⟨y,d,e2,e⟩:=za e;refine⟨A,m,G,x,b,a,C,J,λj H1 u n h U=>?_⟩;refine⟨j,m,b,y,d,a.ext n,h,e2,λY H2 w r c T=>?_⟩;unfold fk at e;split at e
 ·rename_i P h2;split at e
  ·rename_i z hv;cases e;obtain⟨p,oo,rfl,R,l⟩:=Eg c (U.ext r) T P h2;rw[hv] at l;obtain⟨t,rfl,E⟩:=l;exact⟨p,t,rfl,R,q _ _ _ (n.trans r) c E⟩
  ·cases e
 ·cases e
theorem IV{X:Cx}(hu:X.A.units + 1<cLine)(ho:DE X o f)(he:DE X e g)(hf:DE X f' h)(m:M2 X o "get" apos e f' cpos):DE X (.Call (.Attribute o "get" apos) [e,f'] [] cpos) (ja f g h):=fg (Ml hu ho he hf m) λτ H Q l=>by
 obtain⟨P,r,U,v,Y,a,R,e,q⟩:=l;obtain⟨x,i,e1,e⟩:=za e;refine⟨P,r,U,x,i,a,R,e1,λk H1 u s d I=>?_⟩;split at e
 ·rename_i h0;obtain⟨p,rfl,hd⟩:=wY d I h0;obtain⟨y,b,e2,e⟩:=za e;obtain⟨z,n,e3,e⟩:=za e;refine⟨p,rfl,hd,?_⟩;refine⟨k,r,i,y,b,a.ext s,d,e2,λA H2 w E C a2=>?_⟩;refine⟨A,r,b,z,n,a.ext (s.trans E),C,e3,λa0 H3 t j c a3=>?_⟩;split at e
  ·rename_i h1 h2;cases e;obtain⟨p',J,ep,g1,S⟩:=Eg c (I.ext (E.trans j)) (a2.ext j) h1 h2;cases ep;refine⟨J,g1,q _ _ _ (s.trans (E.trans j)) c ?_⟩;revert S;split
   ·rename_i G;rintro⟨vv,rfl,T⟩;rw[G];exact T
   ·rename_i G;rintro rfl;rw[G];exact a3
  ·cases e
 ·cases e
theorem GY{X:Cx}(hu:X.A.units + 1<cLine)(ho:DE X o f)(he:DE X e g)(m:M1 X o "pop" apos e cpos):DE X (.Call (.Attribute o "pop" apos) [e] [] cpos) (kU f g):=fg (Mo hu ho he m) λτ H Q r=>by
 obtain⟨U,I,au,v,a0,a,Y,e,q⟩:=r;obtain⟨x,d,e1,e⟩:=za e;refine⟨U,I,au,x,d,a,Y,e1,λl H1 u J c P=>?_⟩;split at e
 ·rename_i h0;obtain⟨p,rfl,hd⟩:=wY c P h0;obtain⟨y,j,e2,e⟩:=za e;refine⟨p,rfl,hd,?_⟩;refine⟨l,I,d,y,j,a.ext J,c,e2,λh H2 w R i a2=>?_⟩;split at e
  ·rename_i n k hk _;split at e
   ·rename_i T hn;split at e
    ·rename_i z hv;cases e;obtain⟨p',ep,A,t,s,C⟩:=gJ i (P.ext R) hn (by intro z;cases z);cases ep;obtain⟨b,rfl,g3⟩:=rX a2 hk;have G:=C.val k;rw[hv] at G;obtain⟨S,g5,g6⟩:=G;have E:bg h H2 h (aq H2 p (.dT (dB t (k.map Sum.inl)))):=bg.wr A (pX s) _;exact⟨t,_,S,b,s,rfl,g3,g5,q _ _ _ ((J.trans R).trans E) (i.wr A (pX s) ⟨_,zu,(C.drop k).ext E⟩) (g6.ext E)⟩
    ·cases e
   ·cases e
  ·cases e
 ·cases e
theorem Jn{X:Cx}{d:Pos}(hu:X.A.units+1<cLine)(ho:DE X o f)(Y:DE X i g)(hv:DE X value h)(hs:swapsWith value (some (.Subscript o i pos')) d.line X.env=pure false):
  jX X (.Assign [.Subscript o i pos'] value d) (gp f g h):=nO (Kq hu ho Y hv hs) λE τ H I=>by
 obtain⟨ρ,Q,au,fl,a4,a,rp,e,q⟩:=I;obtain⟨v,l,e1,e⟩:=za e;obtain⟨x,c,e2,e⟩:=za e;obtain⟨y,J,e3,e⟩:=za e;refine⟨ρ,Q,au,v,l,a,rp,e1,λG H1 u s C a1=>?_⟩;refine⟨G,Q,l,x,c,a.ext s,C,e2,λR H2 w A S a2=>?_⟩;refine⟨R,Q,c,y,J,a.ext (s.trans A),S,e3,λm H3 t r j a3=>?_⟩;split at e
 ·rename_i n k hk _;split at e
  ·rename_i a0 hn;split at e
   ·rename_i hl;cases e;obtain⟨p,rfl,T,vs,P,U⟩:=gJ j (a2.ext r) hn (by intro z;cases z);obtain⟨b,rfl,g3⟩:=rX a3 hk;have E:bg m H3 m (aq H3 p (.dT (et vs (k.map Sum.inl) u))):=bg.wr T (pX P) _;refine⟨p,_,rfl,nM.t P g3 (by rw[←U.length];exact hl),?_⟩;exact q _ _ _ ((s.trans (A.trans r)).trans E) (j.wr T (pX P) ⟨_,zu,(U.put k (a1.ext (A.trans r))).ext E⟩) (a.ext ((s.trans (A.trans r)).trans E))
   ·cases e
  ·cases e
 ·cases e
def bj:List D->aa->bu D:=λb a=>match b with
 |[x]=>match (eI a x).bind fC with
  |some l=>if l.length<=1000000 then .ok (.lst (aJ (aw l))) a else .stuck
  |none=>match pairsOf a x with
   |some kvs=>if kvs.length<=1000000 then .ok (.lst (aJ (aw (kvs.map (·.1))))) a else .stuck
   |none=>.stuck
 |_=>.stuck
theorem rh{K:Fg}:jL K bj (λn H Q=>gc K n H Q\/fx n H Q):=λJ H P n I z A Q d E e q=>by
 unfold bj at e;split at e
 ·obtain⟨u,rfl,a⟩:=E.one;split at e
  ·rename_i l j;obtain⟨R,C,j⟩:=uZ.mp j;split at e
   ·rename_i b;cases e;obtain⟨p,s,rfl,k,r⟩:=k9 d a C;obtain⟨w,rfl,rfl,y⟩:=QA r j;rw[av] at b;refine .inl ⟨p,w,rfl,da.of k,b,λx f=>bz.of (y x f).1,λt h c i m=>?_⟩;have o:h.map (·.2)=aw (w.map (·.2)):=E5 (i.map _) m;refine q _ _ _ (bg.new c _) (d.new c _) (.newL d c ?_);rw[←o];exact E4 h λx f=>y x (i.mem_iff.mp f)
   ·cases e
  ·split at e
   ·rename_i g G;split at e
    ·rename_i b;cases e;obtain⟨p,s,rfl,k,r⟩:=EX d a G;refine .inr ⟨p,s,g.map (·.1),rfl,k,r.keys,by rw[av];exact b,λt h c i m v=>?_⟩;have o:h.map (·.2)=aw (g.map (·.1)):=E5 i m;refine q _ _ _ (bg.new c _) (d.new c _) (.newL d c ?_);rw[←o];exact E4 h λx f=>⟨v x f,vM d (v x f)⟩
    ·cases e
   ·cases e
 ·cases e
theorem rA{X:Cx}(c:X.calm=true)(b:X.A.units + 64<cLine):bF X (.builtin "sorted") (λa H Q=>gc X.K a H Q\/fx a H Q):=(Vd b).or (Vo c b)
def bw(f:SE) (g:SA):SE:=λc d=>(f c d).bind λx b=>match x,eI b x with
 |.ref n,some _=>(g c b).bind λe a=>match e,a[n]? with
  |[y],some (.lst xs)=>if xs.length<sizeLine then .ok .non (a.set n (.lst (xs++[y]))) else .stuck
  |_,_=>.stuck
 |_,_=>.stuck
def eA(f:SE) (g:SA):SE:=λc d=>(f c d).bind λx b=>match x,eI b x with
 |.ref n,some _=>(g c b).bind λe a=>match e,a[n]? with
  |[y],some (.lst xs)=>match eI a y with
   |some zs=>if xs.length+zs.length<=sizeLine then .ok .non (a.set n (.lst (xs++zs))) else .stuck
   |none=>.stuck
  |_,_=>.stuck
 |_,_=>.stuck
def nF(f:SE):SE:=λc b=>(f c b).bind λx a=>match x with
 |.ref n=>match a[n]? with
  |some (.lst xs)=>match xs[xs.length-1]? with
   |some y=>.ok y (a.set n (.lst xs.dropLast))
   |none=>.stuck
  |_=>.stuck
 |_=>.stuck
theorem ae.dropLast{K:Fg}:∀{c:List D}{d:List V},ae K ρ H c d->ae K ρ H c.dropLast d.dropLast
 |_,_,.nil=>.nil
 |_,_,.cons a .nil=>.nil
 |_,_,.cons a (.cons b t)=>.cons a (ae.dropLast (.cons b t))
theorem Lc{c:Pos}(ho:DE X o f)(ha:DA X (e::es) ga)(g:attributeBase o "append" X.env (eval o X.env)=eval o X.env:=by rfl)
  (m:((backTo cpos (starEach (e::es) X.env)).all (λx=>!x.1)&&(backToKw cpos (keywordEach [] X.env)).all (λx=>x.1.isSome)
   && decide ((e::es).length+([]:List Keyword).length+(if([]:List Keyword).isEmpty then 0 else 1)<30))=true:=by rfl)
  (d:(c.endLine==cpos.line)=true:=by rfl)(hs:starEach (e::es) X.env=(false,eval e X.env)::starEach es X.env:=by rfl)(b:(backTo cpos (starEach es X.env)).any (·.1)=false:=by rfl):
  DE X (.Call (.Attribute o "append" c) (e::es) [] cpos) (bw f ga):=fg (mF DP F.slot_list_append F.type_list_append QZ ho ha g m d hs b) λτ H Q t=>by
 obtain⟨S,I,U,v,Y,a,T,e,q⟩:=t;obtain⟨x,j,e1,e⟩:=za e;refine⟨S,I,U,x,j,a,T,e1,λs H1 u J h P=>?_⟩;split at e
 ·rename_i n _ hL;obtain⟨ys,r,e2,e⟩:=za e;obtain⟨p,vs,rfl,g1,g2⟩:=k9 h P hL;refine⟨.inl ⟨rfl,_,da.of g1⟩,s,I,j,ys,r,a.ext J,h,e2,λk H2 ws R l a2=>?_⟩;split at e
  ·rename_i y xs hn;split at e
   ·rename_i hl;cases e;obtain⟨w,rfl,a3⟩:=a2.one;obtain⟨p',ep,C,i,A,G⟩:=gJ l (P.ext R) hn (by intro z;cases z);cases ep;have E:bg k H2 k (aq H2 p (.lst (i++[w]))):=bg.wr C (nU A) _;exact⟨p,i,w,rfl,rfl,A,by rw[G.length];exact hl,q _ _ _ ((J.trans R).trans E) (l.wr C (nU A) ⟨_,zu,(G.append (.cons a3 .nil)).ext E⟩) .non⟩
   ·cases e
  ·cases e
 ·cases e
theorem Lg{d:Pos}(ho:DE X o f)(ha:DA X (e::es) ga)(h:attributeBase o "extend" X.env (eval o X.env)=eval o X.env:=by rfl)
  (s:((backTo cpos (starEach (e::es) X.env)).all (λx=>!x.1)&&(backToKw cpos (keywordEach [] X.env)).all (λx=>x.1.isSome)
   && decide ((e::es).length+([]:List Keyword).length+(if([]:List Keyword).isEmpty then 0 else 1)<30))=true:=by rfl)
  (g:(d.endLine==cpos.line)=true:=by rfl)(hs:starEach (e::es) X.env=(false,eval e X.env)::starEach es X.env:=by rfl)(c:(backTo cpos (starEach es X.env)).any (·.1)=false:=by rfl):
  DE X (.Call (.Attribute o "extend" d) (e::es) [] cpos) (eA f ga):=fg (mF DP F.slot_list_extend F.type_list_extend NG ho ha h s g hs c) λτ H Q C=>by
 obtain⟨ρ,R,au,v,a0,a,rp,e,q⟩:=C;obtain⟨x,m,e1,e⟩:=za e;refine⟨ρ,R,au,x,m,a,rp,e1,λA H1 u S j T=>?_⟩;split at e
 ·rename_i n _ hL;obtain⟨ys,t,e2,e⟩:=za e;obtain⟨p,vs,rfl,g1,g2⟩:=k9 j T hL;refine⟨.inl ⟨rfl,_,da.of g1⟩,A,R,m,ys,t,a.ext S,j,e2,λr H2 ws U i a2=>?_⟩;split at e
  ·rename_i y xs hn;split at e
   ·rename_i zs hz;split at e
    ·rename_i hl;cases e;obtain⟨w,rfl,a3⟩:=a2.one;obtain⟨p',ep,I,l,G,P⟩:=gJ i (T.ext U) hn (by intro z;cases z);cases ep;obtain⟨b,k,rfl,Y,J⟩:=k9 i a3 hz;have E:bg r H2 r (aq H2 p (.lst (l++k))):=bg.wr I (nU G) _;exact⟨p,b,l,k,rfl,rfl,G,Y,by rw[P.length,J.length];exact hl,q _ _ _ ((S.trans U).trans E) (i.wr I (nU G) ⟨_,zu,(P.append J).ext E⟩) .non⟩
    ·cases e
   ·cases e
  ·cases e
 ·cases e
theorem rE{c:Pos}{b:Pos}(Y:DE X o f)(g:attributeBase o "pop" X.env (eval o X.env)=eval o X.env:=by rfl)(d:(c.endLine==b.line)=true:=by rfl):DE X (.Call (.Attribute o "pop" c) [] [] b) (nF f):=
 fg (HV DP F.slot_list_pop F.type_list_pop HF Y g d) λτ H Q l=>by
 obtain⟨t,R,C,v,G,a,A,e,q⟩:=l;obtain⟨x,r,J,e⟩:=za e;refine⟨t,R,C,x,r,a,A,J,λi H1 u T h U=>?_⟩;split at e
 ·split at e
  ·rename_i n _ xs hn;split at e
   ·rename_i y P;cases e;obtain⟨p,rfl,s,j,k,m⟩:=gJ h U hn (by intro z;cases z);obtain⟨w,I,S⟩:=m.get P;have E:bg i H1 i (aq H1 p (.lst j.dropLast)):=bg.wr s (nU k) _;exact⟨.inl ⟨rfl,_,da.of k⟩,p,j,w,rfl,rfl,k,by rw[m.length];exact I,q _ _ _ (T.trans E) (h.wr s (nU k) ⟨_,zu,m.dropLast.ext E⟩) (S.ext E)⟩
   ·cases e
  ·cases e
 ·cases e
def lV(f:SE):SE:=λc b=>(f c b).bind λx a=>match x with
 |.ref n=>match a[n]? with
  |some (.lst xs)=>.ok (.lst xs) (a.set n .dead)
  |_=>.stuck
 |_=>.stuck
theorem Pu(S:DE X o f):DE X o (lV f):=fg S λU H Q j=>by
 obtain⟨m,C,s,v,t,a,r,e,q⟩:=j;obtain⟨x,k,w,e⟩:=za e;refine⟨m,C,s,x,k,a,r,w,λh H1 u I b J=>?_⟩;split at e
 ·rename_i n;split at e
  ·rename_i Y T;cases e;obtain⟨p,rfl,g,G,A,y⟩:=gJ b J T (by intro z;cases z);have c:=(cK.mp g).1;obtain⟨E,R⟩:=b.kill c;refine q _ _ _ (I.trans E) R (.lst A ⟨λz=>?_,λz=>(b.gh p z).2 (dF g)⟩ (y.ext E));obtain⟨i,l,P⟩:=oi z;have d:(h.m.set n none)[i]?=some (some p):=by rw[cV l,P]
   by_cases hin:i=n
   ·subst hin;rw[pq c] at d;simp at d
   ·rw[fj (cO hin)] at d;exact hin (b.inj i n p d g)
  ·cases e
 ·cases e
def fw:SS:=λb a=>.ok (.nx b) a
def zS:SS:=λb a=>.ok (.brk b) a
def Wo:SS:=λb a=>.ok (.ct b) a
def ap(f:SE):SS:=λc b=>(f c b).bind λv a=>.ok (.ret v) a
def qB:SS:=λ_ a=>.ok (.ret .non) a
def br(f:SE):SS:=λb c=>(f b c).bind λ_ a=>.ok (.nx b) a
def aF(i:Nat) (f:SE):SS:=λb c=>(f b c).bind λv a=>.ok (.nx (b.set i (some v))) a
def aD(s t:SS):SS:=λb a=>match s b a with
 |.ok (.nx σ1) st1=>t σ1 st1
 |r=>r
def fc(c:ST) (s t:SS):SS:=λd e=>(c d e).bind λb a=>if b=true then s d a else t d a
def lH(i:Nat) (g:D->D->aa->bu D) (f:SE):SS:=λb d=>match b[i]? with
 |some (some x)=>(f b d).bind λy c=>(g x y c).bind λz a=>.ok (.nx (b.set i (some z))) a
 |_=>.stuck
def fu(f g h:SE):SS:=λb e=>(h b e).bind λv d=>(f b d).bind λx c=>(g b c).bind λy a=>match x,y with
 |.ref n,.int k=>match a[n]? with
  |some (.lst xs)=>match kP xs.length k with
   |some j=>.ok (.nx b) (a.set n (.lst (xs.set j v)))
   |none=>.stuck
  |_=>.stuck
 |_,_=>.stuck
theorem G9:nL X [] fw:=xx Kt λE f H b=>by
 obtain⟨j,i,h,g,c,a,d,e,q⟩:=b;cases e;exact q _ _ _ (.refl _ _) d a
theorem Hb(d:DE X e f):jX X (.Return (some e) pos) (ap f):=nO (Io d) λE r H c=>by
 obtain⟨n,h,g,s,i,a,p,e,q⟩:=c;obtain⟨x,k,j,e⟩:=za e;cases e;exact⟨n,h,g,x,_,a,p,j,λm H1 u l b o=>q _ _ _ l b o⟩
theorem Jo{b:Pos}(h:DE X e f)(j:swapsWith e none b.line X.env=pure false:=by rfl):jX X (.Expr e b) (br f):=nO (Kr h j) λE s H d=>by
 obtain⟨p,k,i,t,l,a,r,e,q⟩:=d;obtain⟨x,n,m,e⟩:=za e;cases e;exact⟨p,k,i,x,_,a,r,m,λo H1 u g c v=>q _ _ _ g c (a.ext g)⟩
theorem Gw{K:Fg}:∀E b H,D2 K (aF i f) E b H->pB (tD K f) (jC i) E b H:=λE b H d=>by
 obtain⟨o,j,h,s,k,a,r,e,q⟩:=d;obtain⟨x,m,l,e⟩:=za e;cases e;exact⟨o,j,h,x,_,a,r,l,λn H1 u g c p=>q _ _ _ g c ((a.ext g).set p i)⟩
theorem Hc{X:Cx}{a:Pos}(b:X.N.Nodup)(c:X.N[i]?=some x)(j:L2.Loc X.env.scope x)(d:DE X e f)(g:swapsWith e (some (.Name x pos')) a.line X.env=pure false:=by rfl)(h:X.fn x=true\/X.env.scope.names.lookup x=some .local:=by first|exact .inl rfl|exact .inr rfl|assumption):
 jX X (.Assign [.Name x pos'] e a) (aF i f):=nO (Ip b c j d g h) Gw
theorem Ha(a:jX X sm s):nL X [sm] s:=Ku a
section
variable {X:Cx}{e:Expr}{sm:Stmt}{rest:List Stmt}{s:SS}{t:SS}
theorem Jm(r:jX X sm s)(x:nL X rest t):nL X (sm::rest) (aD s t):=xx (Mz r x) λE y H i=>by
 obtain⟨k,n,m,d,b,a,l,e,q⟩:=i;unfold aD at e;split at e
 ·rename_i j c p;exact⟨k,n,m,_,c,a,l,p,λh H1 o u g w=>⟨h,j,c,d,b,w,g,e,q.ext u⟩⟩
 ·rename_i f;refine⟨k,n,m,d,b,a,l,e,?_⟩;cases d with
  |nx σ'=>exact absurd e (f σ' b)
  |brk σ'=>exact q
  |ct σ'=>exact q
  |ret v=>exact q
end
theorem F0(m:DT X c b)(u:nL X a' s)(n:nL X b' t):jX X (.If c a' b' pos) (fc b s t):=nO (Gv m u n) λE w H k=>by
 obtain⟨r,j,o,l,f,a,v,e,q⟩:=k;obtain⟨x,d,p,e⟩:=za e;refine⟨r,j,o,x,d,a,v,p,λh H1 i g=>?_⟩;cases x with
 |true=>exact lS ⟨h,j,d,l,f,a.ext i,g,e,q.ext i⟩
 |false=>exact lT ⟨h,j,d,l,f,a.ext i,g,e,q.ext i⟩
def PP(K:Fg) (g:D->D->aa->bu D) (r:BG):Prop:=
 ∀d H e x y u v z b (Q:VK),bD K d e H->At K d H x u->At K d H y v->g x y e=.ok z b->(∀a c w,bg d H a c->bD K a b c->At K a c z w->Q w c)->r u v H Q
theorem G7{X:Cx}(t:X.N.Nodup)(o:X.N[i]?=some x)(hx:L2.Loc X.env.scope x)(R:DE X e f)(Y:D5 X op ti)(v:PP X.K g ti)(U:X.fn x=true\/X.env.scope.names.lookup x=some .local:=by first|exact .inl rfl|exact .inr rfl|assumption):
  jX X (.AugAssign (.Name x pos') op e pos) (lH i g f):=nO (Il t o hx R Y U) λE τ H k=>by
 obtain⟨r,J,A,fl,c,a,s,e,q⟩:=k;unfold lH at e;split at e
 ·rename_i d G;obtain⟨y,b,C,e⟩:=za e;obtain⟨z,p,T,e⟩:=za e;cases e;obtain⟨u,hu,I⟩:=a.get G;refine⟨u,hu,r,J,A,y,b,a,s,C,λj H1 w l h Q=>?_⟩;exact v j H1 b d y u w z c _ h (I.ext l) Q T λS H2 zz n m P=>q _ _ _ (l.trans n) m ((a.ext (l.trans n)).set P i)
 ·cases e
theorem Pe{K:Fg}:PP K (oI (λ_ _=>True) λi j=>.int (p i j)) (SN p):=λf H g x y u v z c Q d a b e q=>by
 unfold oI at e;split at e
 ·cases a;cases b;rw[if_pos True.intro] at e;cases e;exact⟨_,_,rfl,rfl,q _ _ _ (.refl _ _) d (.int _)⟩
 ·cases e
theorem Lq{c:Pos}(he:DE X value h)(ho:DE X o f)(hi:DE X i g)(ha:∀v,assign (.Subscript o i pos') X.env v=(do
   let ov ←holding [v] (eval o X.env)
   let iv ←holding [v,ov] (eval i X.env)
   standAt pos'
   holding [v,ov,iv] (setItem ov iv v)
   release [v,ov,iv] []):=by intro _;rfl)
  (hs:swapsWithSole [.Subscript o i pos'] value c.line X.env=pure false:=by rfl)(hw:swappedStores [.Subscript o i pos'] value X.env=pure none:=by rfl)
  (h1:(assignEach [.Subscript o i pos'] X.env).map (·.2)=[assign (.Subscript o i pos') X.env]:=by rfl):jX X (.Assign [.Subscript o i pos'] value c) (fu f g h):=
 nO (Ik he (Ie ho hi MP ha) hs hw h1) λE τ H I=>by
 obtain⟨ρ,Q,au,fl,a0,a,rp,e,q⟩:=I;obtain⟨v,l,e1,e⟩:=za e;obtain⟨x,b,e2,e⟩:=za e;obtain⟨y,J,e3,e⟩:=za e;refine⟨ρ,Q,au,v,l,a,rp,e1,λG H1 u s C a1=>?_⟩;refine⟨G,Q,l,x,b,a.ext s,C,e2,λR H2 w A S a2=>?_⟩;refine⟨R,Q,b,y,J,a.ext (s.trans A),S,e3,λm H3 t r d a3=>?_⟩;split at e
 ·rename_i n k _;split at e
  ·rename_i xs hn;split at e
   ·rename_i j hj;cases e;cases a3;obtain⟨p,rfl,U,T,P,Y⟩:=gJ d (a2.ext r) hn (by intro z;cases z);have E:bg m H3 m (aq H3 p (.lst (T.set j u))):=bg.wr U (nU P) _;refine⟨p,T,k,j,rfl,rfl,P,by rw[Y.length];exact hj,?_⟩;exact q _ _ _ ((s.trans (A.trans r)).trans E) (d.wr U (nU P) ⟨_,zu,(Y.set (a1.ext (A.trans r)) j).ext E⟩) (a.ext ((s.trans (A.trans r)).trans E))
   ·cases e
  ·cases e
 ·cases e
abbrev SG:=D->DS->Option DS
def gN(i:Nat):SG:=λd a=>some (a.set i (some d))
def cg:List D->DS->Option DS:=λa b=>match a with
 |[]=>some b
 |_=>none
def ai(t:SG) (u:List D->DS->Option DS):List D->DS->Option DS:=λb c=>match b with
 |d::r=>(t d c).bind λa=>u r a
 |_=>none
def gT(n:Nat) (u:List D->DS->Option DS):SG:=λd a=>match d with
 |.tup ds=>if ds.length=n then u ds a else none
 |_=>none
def gD(K:Fg) (b:SG):TG:=λv g H Q=>∃e f d c,dc K e H f g/\At K e H d v/\b d f=some c/\∀a,dc K e H c a->Q a H
def Ws(K:Fg) (b:List D->DS->Option DS):tW:=λg h H Q=>∃d f e c,dc K d H f h/\ae K d H e g/\b e f=some c/\∀a,dc K d H c a->Q a H
abbrev DG(X:Cx) (a:Expr) (b:SG):Prop:=PG X a (gD X.K b)
abbrev BM(X:Cx) (a:List Expr) (b:List D->DS->Option DS):Prop:=tX X a (Ws X.K b)
theorem wq(h:PG X e g)(k:∀v a H Q,g' v a H Q->g v a H Q):PG X e g':=λb s c H v u Q I r q=>h b s c H v u Q I r (k _ _ _ _ q)
theorem xw(h:tX X es g)(k:∀v a H Q,g' v a H Q->g v a H Q):tX X es g':=λb s c H v u Q I r q=>h b s c H v u Q I r (k _ _ _ _ q)
theorem Jb{X:Cx}(f:X.N.Nodup)(g:X.N[i]?=some x)(k:L2.Loc X.env.scope x)(h:X.fn x=true\/X.env.scope.names.lookup x=some .local:=by first|exact .inl rfl|exact .inr rfl|assumption):DG X (.Name x pos) (gN i):=
 wq (Kg f g k h) λv l H Q c=>by
 obtain⟨n,m,d,j,a,b,e,q⟩:=c;cases e;exact q _ (a.set b i)
theorem Jc:BM X [] cg:=xw Kh λv g H Q c=>by
 obtain⟨i,h,d,f,a,b,e,q⟩:=c;unfold cg at e;split at e
 ·cases e;cases b;exact⟨rfl,q _ a⟩
 ·cases e
theorem Lj(p:DG X e t)(o:BM X es u)(j:(assignEach (e::es) X.env).map (·.2)=assign e X.env::(assignEach es X.env).map (·.2):=by rfl):BM X (e::es) (ai t u):=
 xw (Mr p o j) λv r H Q g=>by
 obtain⟨h,k,d,f,a,b,e,q⟩:=g;unfold ai at e;split at e
 ·obtain⟨c,l,i⟩:=uZ.mp e;cases b with
  |cons b1 b2=>exact⟨_,_,rfl,h,k,_,c,a,b1,l,λm n=>⟨h,c,_,f,n,b2,i,q⟩⟩
 ·cases e
theorem G3{X:Cx}(i:X.calm=true)(h:BM X es u)(l:(assignEach es X.env).length=n:=by rfl)(f:(assignEach es X.env).findIdx? (·.1)=none:=by rfl):DG X (.Tuple es k pos) (gT n u):=
 wq (Ig i h l f) λv p H Q g=>by
 obtain⟨o,j,d,c,a,b,e,q⟩:=g;unfold gT at e;split at e
 ·split at e
  ·rename_i m;cases b with
   |tup h1 h2 h3=>exact⟨_,_,rfl,bz.of h1,by rw[h3.length];exact m,o,j,_,c,a,h3,e,q⟩
  ·cases e
 ·cases e
structure eR (ρ:Loc) (H:Hp) (ρ':Loc) (H':Hp):Prop where
 len:ρ.m.length<=ρ'.m.length
 old:∀(n:Nat) (a:Addr),n < ρ.m.length->ρ'.m[n]?=some (some a)->ρ.m[n]?=some (some a)
 keep:∀a o,H a=some o->some a∉ρ.m->H' a=some o/\some a∉ρ'.m
 gho:∀a∈ρ'.g,a∈ρ.g\/H a=none
 frz:∀a ob u,H a=some (.frz ob u)->H' a=some (.frz ob u)
theorem bg.toG(x:bg ρ H ρ' H'):eR ρ H ρ' H':=⟨x.len,x.old,x.keep,λa h=>.inl (by rw[←x.gho];exact h),x.frz⟩
theorem eR.then(a:eR ρ H ρ1 H1)(b:bg ρ1 H1 ρ2 H2):eR ρ H ρ2 H2:=
 ⟨ax a.len b.len,λn c h e=>a.old n c h (b.old n c (df h a.len) e),λc o e n=>by
  obtain⟨g,f⟩:=a.keep c o e n
  exact b.keep c o g f,λc h=>a.gho c (by rw[←b.gho];exact h),λc d u e=>b.frz c d u (a.frz c d u e)⟩
theorem eR.out(x:eR ρ H ρ' H') (h:H a=some o)(n:dZ ρ a):H' a=some o/\dZ ρ' a:=
 ⟨(x.keep a o h n.1).1,(x.keep a o h n.1).2,λz=>by
  rcases x.gho a z with q|q
  ·exact n.2 q
  ·rw[h] at q;cases q⟩
theorem eR.mv(x:eR ρ H ρ' H'):Mv ρ H ρ' H':=⟨λh n=>x.out h n,x.len,x.old⟩
theorem At.extG{K:Fg}(x:eR ρ H ρ' H') (h:At K ρ H d v):At K ρ' H' d v:=h.mv x.mv
theorem Ls.extG{K:Fg}(x:eR ρ H ρ' H')(h:Ls K ρ H a vs):Ls K ρ' H' a vs:=h.mv x.mv
structure lZ (K:Fg) (ρ:Loc) (H:Hp) (J:It) (xs:List D):Prop where
 item:∀ρ2 H2,eR ρ H ρ2 H2->∀(i:Nat) (x:D),xs[i]?=some x->J.go i H2/\∀y H3,J.yld i H2 y H3->bg ρ2 H2 ρ2 H3/\∀au,bD K ρ2 au H2->bD K ρ2 au H3/\At K ρ2 H3 x y
 done:∀ρ2 H2,eR ρ H ρ2 H2->∀i:Nat,xs.length<=i->J.stop i H2
def iD(K:Fg) (f:SA):TI:=λi H R=>∃d h g e b,dc K d H h i/\bD K d g H/\f h g=.ok e b/\∀a c J,bg d H a c->bD K a b c->lZ K a c J e->R J c
abbrev DI(X:Cx) (a iter:Expr) (f:SA):Prop:=PI X a iter (iD X.K f)
noncomputable def gV:D->Option (List D)
 |.tup xs=>some xs
 |.lst xs=>some xs
 |.scr xs=>some xs
 |_=>none
def aH(f:SE):SA:=λc b=>(f c b).bind λx a=>match gV x with
 |some xs=>.ok xs a
 |none=>.stuck
noncomputable def rng(lo:Int) (n:Nat):List D:=(List.range n).map λ(i:Nat)=>D.int (lo+i)
def hG(g:SA):SA:=λd c=>(g d c).bind λb a=>match b with
 |[.int j]=>if -(2^62)<=j/\j<2^62 then .ok (rng 0 j.toNat) a else .stuck
 |_=>.stuck
def qK(g:SA):SA:=λd c=>(g d c).bind λb a=>match b with
 |[.int i,.int j]=>if -(2^62)<=i/\i<2^62/\-(2^62)<=j/\j<2^62 then .ok (rng i (j-i).toNat) a else .stuck
 |_=>.stuck
theorem pZ{lo:Int}(h:(rng lo n)[i]?=some x):i<n/\x=.int (lo+i):=by
 unfold rng at h;rw[eU] at h;rcases j8 i n with z|z
 ·rw[List.getElem?_range z] at h;exact⟨z,(fY h).symm⟩
 ·rw[qw (by rw[nZ];exact z)] at h;cases h
theorem wZ{K:Fg}{lo:Int}:lZ K ρ H (BL lo n) (rng lo n) where
 item:=λa H2 x i d e=>by
  obtain⟨b,rfl⟩:=pZ e;refine⟨b,λy H3 c=>?_⟩;obtain⟨rfl,rfl⟩:=c;exact⟨.refl _ _,λ_ r=>⟨r,.int _⟩⟩
 done:=λa H2 x i h=>by
  unfold rng at h;rw[av,nZ] at h;exact h
theorem jr(h:PI X tg l t)(k:∀a H R,t' a H R->t a H R):PI X tg l t':=λb s c H R I q=>h b s c H R I (k _ _ _ q)
theorem Gs(h:PI X tg l t)(d:PI X tg l t'):PI X tg l (λc H R=>t c H R\/t' c H R):=λa s b H R I q=>by
 rcases q with q|q
 ·exact h a s b H R I q
 ·exact d a s b H R I q
theorem xI{K:Fg}(c:∀b H2,eR ρ H b H2->da K H2 p vs)(f:ae K ρ H xs vs):lZ K ρ H (PN K p) xs where
 item:=λb H2 x i d e=>by
  obtain⟨v,g,a⟩:=f.get e;refine⟨⟨vs,v,c _ _ x,g⟩,λy H3 k=>?_⟩;obtain⟨rfl,j⟩:=k;have:=j vs (c _ _ x);rw[g] at this;cases this;exact⟨.refl _ _,λ_ r=>⟨r,a.extG x⟩⟩
 done:=λb H2 x i h=>⟨vs,c _ _ x,by rw[f.length];exact h⟩
theorem GB{K:Fg}(c:∀b H2,eR ρ H b H2->bz K H2 p vs)(f:ae K ρ H xs vs):lZ K ρ H (PM K p) xs where
 item:=λb H2 x i d e=>by
  obtain⟨v,g,a⟩:=f.get e;refine⟨⟨vs,v,c _ _ x,g⟩,λy H3 k=>?_⟩;obtain⟨rfl,j⟩:=k;have:=j vs (c _ _ x);rw[g] at this;cases this;exact⟨.refl _ _,λ_ r=>⟨r,a.extG x⟩⟩
 done:=λb H2 x i h=>⟨vs,c _ _ x,by rw[f.length];exact h⟩
theorem G5(r:DE X l f):DI X tg l (aH f):=jr (Gs (Kj r) (Ii r)) λv H R o=>by
 obtain⟨n,k,j,w,s,a,p,e,q⟩:=o;obtain⟨x,t,m,e⟩:=za e;cases x with
 |tup ys=>
  cases e;refine .inr ⟨n,k,j,_,_,a,p,m,λh H1 u d b i=>?_⟩;cases i with
  |tup h1 h2 h3=>exact⟨_,rfl,⟨_,bz.of h1⟩,q _ _ _ d b (GB (λc H2 g=>bz.of (g.out h1 h2).1) h3)⟩
 |lst ys=>
  cases e;refine .inl ⟨n,k,j,_,_,a,p,m,λh H1 u d b i=>?_⟩;cases i with
  |lst h1 h2 h3=>exact⟨_,rfl,⟨_,da.of h1⟩,q _ _ _ d b (xI (λc H2 g=>da.of (g.out h1 h2).1) h3)⟩
 |scr ys=>
  cases e;refine .inl ⟨n,k,j,_,_,a,p,m,λh H1 u d b i=>?_⟩;cases i with
  |scr h1 h3=>exact⟨_,rfl,⟨_,h1.sq⟩,q _ _ _ d b (xI (λc H2 g=>(h1.extG g).sq) h3)⟩
 |_=>cases e
theorem No(o:Gl X "range")(m:X.mg "range"=none)(n:DA X [a] g)(r:starEach [a] X.env=[(false,eval a X.env)]:=by rfl):DI X tg (.Call (.Name "range" p) [a] [] pos) (hG g):=
 jr (SZ o m n r) λA H R c=>by
 obtain⟨f,s,i,C,j,a,h,e,q⟩:=c;obtain⟨x,t,k,e⟩:=za e;split at e
 ·split at e
  ·rename_i d;cases e;refine⟨f,s,i,_,_,a,h,k,λl H1 u v b z=>?_⟩;obtain⟨w,rfl,y⟩:=z.one;cases y;exact⟨_,rfl,d.1,d.2,q _ _ _ v b wZ⟩
  ·cases e
 ·cases e
theorem Np(s:Gl X "range")(o:X.mg "range"=none)(r:DA X [a,b] g)(t:starEach [a,b] X.env=[(false,eval a X.env),(false,eval b X.env)]:=by rfl)(f:starEach [b] X.env=[(false,eval b X.env)]:=by rfl):DI X tg (.Call (.Name "range" p) [a,b] [] pos) (qK g):=
 jr (S7 s o r t f) λG H R d=>by
 obtain⟨h,v,j,J,l,a,i,e,q⟩:=d;obtain⟨x,z,m,e⟩:=za e;split at e
 ·split at e
  ·rename_i k;cases e;refine⟨h,v,j,_,_,a,i,m,λn H1 u A c E=>?_⟩;obtain⟨w,I,rfl,C,y⟩:=E.two;cases C;cases y;exact⟨_,_,rfl,k,q _ _ _ A c wZ⟩
  ·cases e
 ·cases e
def iK(f:SE):SA:=λc b=>(f c b).bind λx a=>match x with
 |.ref n=>match a[n]? with
  |some (.dT kvs)=>.ok (aJ (kvs.map (·.1))) (a.set n (.fT kvs))
  |_=>.stuck
 |_=>.stuck
theorem Jd(hl:DE X l f):DI X tg l (iK f):=jr (Ki hl) λτ H R t=>by
 obtain⟨Q,σ,T,xs,U,a,S,e,q⟩:=t;obtain⟨x,k,Y,e⟩:=za e;refine⟨Q,σ,T,x,k,a,S,Y,λb H1 u x1 g a1=>?_⟩;split at e
 ·rename_i n;split at e
  ·rename_i c hn;cases e;obtain⟨p,rfl,G,m,v,I⟩:=gJ g a1 hn (by intro z;cases z);refine⟨p,m,c.map (·.1),rfl,v,I.keys,λw P J h2=>?_⟩;have E:bg b H1 b (aq H1 p (.frz w (.dT m))):=bg.wr G (pX v) _;have R:bD X.K b (k.set n (.fT c)) (aq H1 p (.frz w (.dT m))):=g.wr G (pX v) ⟨m,w,zu,I.ext E⟩;refine q _ _ _ (x1.trans E) R ⟨λA H2 s i d e=>?_,λA H2 s i h=>?_⟩
   ·have o:(P.map (·.2))[i]?=(c.map (·.1))[i]?:=by rw[J]
    unfold aJ at e;rw[eU,←o,eU] at e;cases hi:P[i]? with
    |none=>rw[hi] at e;cases e
    |some x=>
     rw[hi] at e;cases e;refine⟨⟨(cK.mp hi).1,s.frz _ _ _ zu⟩,λy H3 hy=>?_⟩;obtain⟨rfl,x',j,rfl⟩:=hy;rw[hi] at j;cases j;have C:=h2 x (dF hi);have a3:At X.K b H1 (aL x.2) (.ref x.1):=.tup C (vM g C) (ur _);exact⟨.refl _ _,λ_ r=>⟨r,(a3.ext E).extG s⟩⟩
   ·have o:=congrArg List.length J;rw[av] at o;unfold aJ at h;rw[av,←o] at h;exact⟨h,s.frz _ _ _ zu⟩
  ·cases e
 ·cases e
def dU(b:SG) (a:SS):List D->SS
 |[],σ,au=>.ok (.nx σ) au
 |x::xs,σ,au=>match b x σ with
  |none=>.stuck
  |some σ1=>match a σ1 au with
   |.ok (.nx σ2) st2=>dU b a xs σ2 st2
   |.ok (.ct σ2) st2=>dU b a xs σ2 st2
   |.ok (.brk σ2) st2=>.ok (.nx σ2) st2
   |r=>r
def ba(f:SA) (g:SG) (a:SS):SS:=λc e=>(f c e).bind λd b=>dU g a d c b
def dw(c:ST) (a:SS):Nat->SS
 |0,_,_=>.stuck
 |n+1,σ,au=>(c σ au).bind λb d=>if b=true then(match a σ d with
  |.ok (.nx σ2) st2=>dw c a n σ2 st2
  |.ok (.ct σ2) st2=>dw c a n σ2 st2
  |.ok (.brk σ2) st2=>.ok (.nx σ2) st2
  |r=>r) else .ok (.nx σ) d
noncomputable def mW:Nat:=1000000
def cM(c:ST) (a:SS):SS:=dw c a mW
theorem xT{b:Type}{a:List b}(h:i<a.length):∃x,a[i]?=some x/\a.drop i=x::a.drop (i+1):=⟨a[i],cV h,jU h⟩
theorem G8{X:Cx}(hp:PassesOwn '#' X.A X.env X.xe)(hc:X.calm=true)(hi:DI X tg iter it)(hg:DG X tg bd)(hb:nL X body b)(hs:∀x,foldedSetIterable iter X.env x=pure x:=by intro _;rfl):
  jX X (.For tg iter body [] pos) (ba it bd b):=nO (Im hp hc hi hg hb hs) λE τ H a0=>by
 obtain⟨ρ,σ,au,fl,I,a,rp,e,q⟩:=a0;obtain⟨A,P,e1,e⟩:=za e;refine⟨ρ,σ,au,A,P,a,rp,e1,λo H1 J x1 Y ok=>?_⟩;have U:=q.ext x1;refine⟨λi m C t=>i+m=A.length/\∃g n j,bg o H1 g t/\dc X.K g t n C/\bD X.K g j t/\dU bd b (A.drop i) n j=.ok fl I,⟨A.length,by lia,o,σ,P,.refl _ _,a.ext x1,Y,e⟩,?_⟩;rintro i m C t ⟨a6,g,n,j,T,a2,R,c⟩;rcases j8 i A.length with a1|hge
 ·obtain⟨x,hx,hd⟩:=xT a1;rw[hd] at c;obtain⟨go,yl⟩:=ok.item g t T.toG i x hx;refine .inr ⟨go,λQ H3=>∃l d f,bg o H1 l H3/\dc X.K l H3 d Q/\bD X.K l f H3/\dU bd b (A.drop (i+1)) d f=.ok fl I,λQ H3 ⟨l,d,f,n1,n2,n3,n4⟩=>⟨m-1,by lia,by lia,l,d,f,n1,n2,n3,n4⟩,λy H3 hy=>?_⟩;obtain⟨y1,y4⟩:=yl y H3 hy;obtain⟨y2,y3⟩:=y4 _ R;unfold dU at c;cases hbd:bd x n with
  |none=>rw[hbd] at c;cases c
  |some σ1=>
   rw[hbd] at c;dsimp only at c;have S:=T.trans y1;refine⟨g,n,x,σ1,a2.ext y1,y3,hbd,λa3 a4=>?_⟩;cases hr:b σ1 j with
   |stuck=>rw[hr] at c;cases c
   |exc z w=>rw[hr] at c;cases c
   |ok fb f=>
    rw[hr] at c;refine⟨g,σ1,j,fb,f,a4,y2,hr,?_⟩;cases fb with
    |nx d=>exact λk r G s h p=>⟨k,d,f,S.trans s,p,h,c⟩
    |ct d=>exact λk r G s h p=>⟨k,d,f,S.trans s,p,h,c⟩
    |brk d=>
     dsimp only at c;cases c;exact λk r G s h p=>U _ _ _ (S.trans s) h p
    |ret v=>
     dsimp only at c;cases c;exact λk r u s h p=>U _ _ _ (S.trans s) h p
 ·rw[DK hge] at c;unfold dU at c;cases c;exact .inl ⟨ok.done g t T.toG i hge,U _ _ _ T R a2⟩
theorem Lw{X:Cx}(hp:PassesOwn '#' X.A X.env X.xe)(hc:DT X c t)(hb:nL X body b):jX X (.While c body [] pos) (cM t b):=nO (Mx hp hc hb) λE τ H Y=>by
 obtain⟨U,σ,au,fl,I,a,rp,e,q⟩:=Y;unfold cM at e;generalize mW=n at e;refine⟨λm s Q=>∃i g j,bg U H i Q/\dc X.K i Q g s/\bD X.K i j Q/\dw t b m g j=.ok fl I,⟨n,U,σ,au,.refl _ _,a,rp,e⟩,?_⟩;rintro m s Q ⟨i,g,j,x2,a2,a0,S⟩;cases m with
 |zero=>unfold dw at S;cases S
 |succ m=>
  unfold dw at S;obtain⟨x,o,e3,f⟩:=za S;refine⟨i,g,j,x,o,a2,a0,e3,λa1 H3 T C=>?_⟩;have G:=x2.trans T;cases x with
  |false=>
   rw[if_neg ')'] at f;cases f;exact lT (q _ _ _ G C (a2.ext T))
  |true=>
   rw[if_pos rfl] at f;refine lS ⟨λA R=>∃k J P,bg U H k R/\dc X.K k R J A/\bD X.K k P R/\dw t b m J P=.ok fl I,λA R hh=>⟨m,yV m,hh⟩,?_⟩;cases hr:b g o with
   |stuck=>rw[hr] at f;cases f
   |exc z w=>rw[hr] at f;cases f
   |ok fb st5=>
    rw[hr] at f;refine⟨a1,g,o,fb,st5,a2.ext T,C,hr,?_⟩;cases fb with
    |nx σ3=>exact λh p y r d l=>⟨h,σ3,st5,G.trans r,l,d,f⟩
    |ct σ3=>exact λh p y r d l=>⟨h,σ3,st5,G.trans r,l,d,f⟩
    |brk σ3=>
     dsimp only at f;cases f;exact λh p y r d l=>q _ _ _ (G.trans r) d l
    |ret v=>
     dsimp only at f;cases f;exact λh p u r d l=>q _ _ _ (G.trans r) d l
def bx(e:SG) (c:ST) (f:SE):List D->DS->aa->bu (List D)
 |[],_,au=>.ok [] au
 |x::xs,σ,au=>match e x σ with
  |none=>.stuck
  |some σ1=>(c σ1 au).bind λb a=>if b=true then(f σ1 a).bind λy d=>(bx e c f xs σ1 d).bind λh g=>.ok (y::h) g else bx e c f xs σ1 a
def aV(k:Nat) (is:List Nat) (a:DS):DS:=List.replicate k none++is.map λi=>(a[i]?).getD none
def aG(i:SA) (k:Nat) (is:List Nat) (j:SG) (c:ST) (f:SE):SE:=λe g=>(i e g).bind λd b=>if d.length<=sizeLine then(bx j c f d (aV k is e) b).bind λh a=>.ok (.lst h) a else .stuck
def aI:ST:=λ_ a=>.ok true a
theorem dc.start{K:Fg}(h:dc K ρ H σ τ)(k:Nat)(is:List Nat):dc K ρ H (aV k is σ) (f8 k is τ):=by
 have f:∀{a c:DS}{b d:St},dc K ρ H a b->dc K ρ H c d->dc K ρ H (a++c) (b++d):=λm l=>by
  induction m with
  |nil=>exact l
  |cons r t ih=>exact .cons r ih
 refine f ?_ ?_
 ·induction k with
  |zero=>exact .nil
  |succ k ih=>exact .cons (λd e=>nomatch e) ih
 ·induction is with
  |nil=>exact .nil
  |cons i is ih=>
   refine .cons (λd e=>?_) ih;have e:(σ[i]?).getD none=some d:=e;have g:σ[i]?=some (some d):=by
    cases q:σ[i]? with
    |none=>rw[q] at e;cases e
    |some o=>rw[q] at e;exact congrArg some e
   obtain⟨u,j,a⟩:=h.get g;exact⟨u,by show(τ[i]?).getD none=some u;rw[j];rfl,a⟩
def Loc.with(a:Loc) (p:Addr):Loc:=⟨a.m,p::a.g⟩
theorem KZ(a:H p=none):Mv ρ H (ρ.with p) (aq H p o):=⟨λe n=>⟨by rw[zq (zr e a)];exact e,n.1,λz=>by
 rcases bT.mp z with z|z
 ·exact zr e a z
 ·exact n.2 z⟩,aY _,λ_ _ _ e=>e⟩
theorem At.with{K:Fg}(a:H p=none) (h:At K ρ H d v):At K (ρ.with p) (aq H p o) d v:=h.mv (KZ a)
theorem xY{c b:Loc}(d:b.m=c.m)(g:p∈c.g)(f:∀a,a∈b.g->a∈c.g):Mv c H b (aq H p o):=⟨λe n=>⟨by rw[zq (by rintro rfl;exact n.2 g)];exact e,by rw[d];exact n.1,λz=>n.2 (f _ z)⟩,by rw[d];exact aY _,λ_ _ _ e=>by rw[d] at e;exact e⟩
theorem At.grow{K:Fg}{ρ ρ':Loc}(b:ρ'.m=ρ.m)(e:p∈ρ.g)(c:∀a,a∈ρ'.g->a∈ρ.g) (h:At K ρ H d v):At K ρ' (aq H p o) d v:=h.mv (xY b e c)
theorem ae.grow{K:Fg}{ρ ρ':Loc}(b:ρ'.m=ρ.m)(e:p∈ρ.g)(c:∀a,a∈ρ'.g->a∈ρ.g) (h:ae K ρ H d v):ae K ρ' (aq H p o) d v:=h.mv (xY b e c)
theorem lY.map{K:Fg}(k:∀d v,At K ρ H d v->At K ρ' H' d v)(i:∀b f u,H b=some (.frz f u)->H' b=some (.frz f u))(same:H' a=H a)(h:lY K ρ H x a):lY K ρ' H' x a:=by
 have j:∀{d:List D}{v:List V},ae K ρ H d v->ae K ρ' H' d v:=λ{d v} h=>by
  induction d generalizing v with
  |nil=>cases h;exact .nil
  |cons x xs ih=>cases h with|cons a b=>exact .cons (k _ _ a) (ih b)
 cases x with
 |lst xs=>obtain⟨e,q,r⟩:=h;exact⟨e,by rw[same];exact q,j r⟩
 |dT kvs=>obtain⟨e,q,r⟩:=h;exact⟨e,by rw[same];exact q,Paired.mapP r λp q z=>⟨z.1,k _ _ z.2⟩⟩
 |fT kvs=>obtain⟨e,f,q,r⟩:=h;exact⟨e,f,by rw[same];exact q,Paired.mapP r λp q z=>⟨z.1,k _ _ z.2⟩⟩
 |dI kvs=>obtain⟨e,q,r⟩:=h;exact⟨e,by rw[same];exact q,Paired.mapP r λp q z=>⟨z.1,k _ _ z.2⟩⟩
 |dP ks=>obtain⟨e,q,n,l,u,r⟩:=h;exact⟨e,by rw[same];exact q,n,l,u,r.map k⟩
 |dead=>exact h.elim
 |tab=>obtain⟨c,g,q,r⟩:=h;exact⟨c,g,by rw[same];exact q,r.map i⟩
theorem bD.with{K:Fg}(r:bD K ρ au H)(c:H p=none)(f:List V):bD K (ρ.with p) au (aq H p (.lst f)):=
 ⟨r.len,r.inj,λm b y k j=>by
  have q:=r.obj m b y k j;obtain⟨u,l⟩:=q.has;exact q.map (λd v h=>h.with c) (λb o u e=>by rw[zq (zr e c)];exact e) (zq (zr l c)),λa ha=>by
  rcases bT.mp ha with rfl|ha
  ·exact⟨⟨f,zu⟩,(CC r c).1⟩
  ·obtain⟨⟨i,g⟩,n⟩:=r.gh a ha
   exact⟨⟨i,by rw[zq (zr g c)];exact g⟩,n⟩,r.live⟩
theorem bD.grow{K:Fg}{ρ':Loc}(r:bD K ρ au H)(c:ρ'.m=ρ.m)(g:p∈ρ.g)(j:∀a,a∈ρ'.g->a∈ρ.g)(i:List V):bD K ρ' au (aq H p (.lst i)):=
 ⟨by rw[c];exact r.len,by rw[c];exact r.inj,λm b y f l=>by
  rw[c] at f;refine(r.obj m b y f l).map (λd v h=>h.grow c g j) (λb s u e=>by rw[zq (by rintro rfl;obtain⟨⟨_,z⟩,_⟩:=r.gh _ g;rw[e] at z;cases z)];exact e) (zq ?_);rintro rfl;exact(r.gh b g).2 (dF f),λa n=>by
  obtain⟨⟨k,q⟩,o⟩:=r.gh a (j a n);refine⟨?_,by rw[c];exact o⟩;by_cases e:a=p
  ·subst e;exact⟨i,zu⟩
  ·exact⟨k,by rw[zq e];exact q⟩,by rw[c];exact r.live⟩
theorem dc.map{K:Fg}(k:∀d v,At K ρ H d v->At K ρ' H' d v)(h:dc K ρ H σ τ):dc K ρ' H' σ τ:=Paired.mapP h λo v z d e=>by
 obtain⟨u,b,a⟩:=z d e;exact⟨u,b,k _ _ a⟩
inductive CI (K:Fg) (bd:SG) (c:ST) (f:SE) (xs ys:List D) (st2:aa) (ρ1:Loc) (H1:Hp) (p:Addr) (i:Nat) (τ:St) (H':Hp):Prop where
 |mk {ρ2:Loc}{σ2:DS}{st3:aa}{acc:List D}{accV:List V}{zs:List D}(x2:eR ρ1 H1 ρ2 H') (hg:ρ2.g=p::ρ1.g) (hpp:H' p=some (.lst accV)) (hal:ae K ρ2 H' acc accV) (hli:acc.length<=i) (a2:dc K ρ2 H' σ2 τ) (rp2:bD K ρ2 st3 H') (e3:bx bd c f (xs.drop i) σ2 st3=.ok zs st2) (hac:acc++zs=ys):CI K bd c f xs ys st2 ρ1 H1 p i τ H'
theorem GQ{k:Nat}{is:List Nat}{K:Fg}(a:dc K ρ H σ τ)(rp:bD K ρ au H)(e1:it σ au=.ok xs st1)(a9:xs.length<=sizeLine)(e2:bx bd c f xs (aV k is σ) st1=.ok ys st2)
 (b5:∀g H1 p l s j,bg ρ H g H1->bD K g st1 H1->H1 p=none->eR g H1 l s->l.g=p::g.g->s p=some (.lst j)->ae K l s ys j->bD K l st2 s->Q (.ref p) s):kK (iD K it) k is (gD K bd) (ol K c) (tD K f) τ H Q:=by
 refine⟨ρ,σ,au,xs,st1,a,rp,e1,λg H1 J x1 a1 ok p I=>?_⟩
 refine⟨λi m Y s=>i+m=xs.length/\CI K bd c f xs ys st2 g H1 p i Y s,
  ⟨xs.length,by lia,.mk ?_ rfl zu .nil (ie _) (((a.ext x1).start k is).map λd v h=>h.with I) (a1.with I []) e2 rfl⟩,?_⟩
 ·have E:bg g H1 g (aq H1 p (.lst [])):=bg.new I _
  exact⟨E.len,E.old,E.keep,λa h=>by
   rcases bT.mp h with rfl|h
   ·exact .inr I
   ·exact .inl h,E.frz⟩
 rintro i m Y s ⟨c2,@⟨l,b3,b7,a3,j,zs,x2,hg,a7,S,P,a2,X,q,r⟩⟩;have b8:p∈l.g:=by rw[hg];exact eF
 rcases j8 i xs.length with a5|hge
 ·obtain⟨x,hx,hd⟩:=xT a5;rw[hd] at q;obtain⟨go,yl⟩:=ok.item l s x2 i x hx
  refine .inr ⟨go,CI K bd c f xs ys st2 g H1 p (i+1),
   λb6 H4 hh=>⟨m-1,by lia,by lia,hh⟩,λy H3 hy=>?_⟩
  obtain⟨y1,y4⟩:=yl y H3 hy;obtain⟨y2,y3⟩:=y4 _ X;unfold bx at q;cases hbd:bd x b3 with
  |none=>rw[hbd] at q;cases q
  |some σ1=>
   rw[hbd] at q;dsimp only at q;obtain⟨bb,b1,e4,e5⟩:=za q;refine⟨l,b3,x,σ1,a2.ext y1,y3,hbd,λb6 a4=>?_⟩;have R:some p∉l.m:=(X.gh p b8).2;have z:=(y1.keep p _ a7 R).1;refine⟨l,σ1,b7,bb,b1,a4,y2,e4,λU H5 t b0=>?_⟩;have C:=(t.keep p _ z R).1;have A:=(S.ext y1).ext t;have g5:U.g=p::g.g:=t.gho.trans hg;cases bb with
   |false=>
    rw[if_neg ')'] at e5;exact lT (.mk ((x2.then y1).then t) g5 C A (qk P) (a4.ext t) b0 e5 r)
   |true=>
    rw[if_pos rfl] at e5;obtain⟨w,b9,e6,e7⟩:=za e5;obtain⟨c3,c1,e8,e9⟩:=za e7;cases e9;refine lS ⟨U,σ1,b1,w,b9,a4.ext t,b0,e6,λa0 H6 u x6 b4 a6=>?_⟩;have a8:some p∉U.m:=(t.keep p _ z R).2;have b2:=(x6.keep p _ C a8).1;have g6:a0.g=p::g.g:=x6.gho.trans g5;have T:p∈a0.g:=by rw[g6];exact eF
    have c0:j.length<=i:=by rw[S.length];exact P
    refine⟨j,b2,jv c0 (df a5 a9),.mk (acc:=a3++[w]) (accV:=j++[u]) ?_ g6 zu ?_ (by rw[dq];exact mP P) ?_ (b4.grow rfl T (λ_ h=>h) _) e8 (by rw[←r,dE];rfl)⟩
    ·have G:=((x2.then y1).then t).then x6;refine⟨G.len,G.old,λb o e n=>?_,G.gho,λb ob uu e=>?_⟩
     ·rw[zq (zr e I)];exact G.keep b o e n
     ·rw[zq (zr e I)];exact G.frz b ob uu e
    ·exact((A.ext x6).append (.cons a6 .nil)).grow rfl T (λ_ h=>h)
    ·exact(a4.ext (t.trans x6)).map λd v h=>h.grow rfl T (λ_ h=>h)
 ·rw[DK hge] at q;unfold bx at q;cases q;rw[lD] at r;subst r;exact .inl ⟨ok.done _ _ x2 i hge,b5 _ _ _ _ _ _ x1 a1 I x2 hg a7 S X⟩
theorem wI{K:Fg}:∀t H Q,tD K (aG it k is bd c f) t H Q->kK (iD K it) k is (gD K bd) (ol K c) (tD K f) t H Q:=λt H Q x=>by
 obtain⟨J,σ,au,v,S,a,P,e,q⟩:=x;obtain⟨xs,X,T,e⟩:=za e;split at e
 ·rename_i n;obtain⟨ys,G,e2,e⟩:=za e;cases e;refine GQ a P T n e2 λh H1 p d H' i Y u I s C l y r=>?_
  have j:p∈d.g:=by rw[C];exact eF
  have w:some p∉d.m:=(r.gh p j).2;have m:aq H' p (.lst i)=H':=M0 l;have sub:∀a,a∈(⟨d.m,h.g⟩:Loc).g->a∈d.g:=λb U=>by rw[C];exact cH _ U
  have E:bg h H1 ⟨d.m,h.g⟩ H':=⟨s.len,s.old,s.keep,rfl,s.frz⟩
  have R:=r.grow (ρ':=⟨d.m,h.g⟩) rfl j sub i;have L:=ae.grow (ρ:=d) (ρ':=⟨d.m,h.g⟩) (o:=.lst i) rfl j sub y;rw[m] at R L;refine q _ _ _ (Y.trans E) R (.lst l ⟨w,λz=>?_⟩ L);obtain⟨⟨ws,A⟩,_⟩:=u.gh p z;rw[I] at A;cases A
 ·cases e
theorem GV{X:Cx}{N:List Str}(a:X.calm=true)(e:DI X tg iter it)(j:∀b C d s H,DG (fo X N scope b C d s H) tg bd)(h:∀b C d s H,oq (fo X N scope b C d s H) ifs (ol X.K c))(g:∀b C d s H,DE (fo X N scope b C d s H) elt f)
 (S:bA X N k is scope)(i:∀x,foldedSetIterable iter X.env x=pure x:=by intro _;rfl):DE X (.ListComp elt [⟨tg,iter,ifs,0⟩] scope pos) (aG it k is bd c f):=fg (Ke a e j h g S i) wI
theorem Jp{X:Cx}{N:List Str}{b:Pos}(d:X.calm=true)(z:X.N.Nodup)(l:X.N[i]?=some x)(hx:L2.Loc X.env.scope x)(n:DI X tg iter it)(J:∀j C g s H,DG (fo X N scope j C g s H) tg bd)
  (p:∀j C g s H,oq (fo X N scope j C g s H) ifs (ol X.K c))(U:∀j C g s H,DE (fo X N scope j C g s H) elt f)(S:bA X N k is scope)
  (m:swapsWith (.ListComp elt [⟨tg,iter,ifs,0⟩] scope pos) (some (.Name x pos')) b.line X.env=pure true:=by rfl)
  (Y:X.fn x=true\/X.env.scope.names.lookup x=some .local:=by first|exact .inl rfl|exact .inr rfl|assumption)
  (Q:∀x,foldedSetIterable iter X.env x=pure x:=by intro _;rfl):jX X (.Assign [.Name x pos'] (.ListComp elt [⟨tg,iter,ifs,0⟩] scope pos) b) (aF i (aG it k is bd c f)):=
 nO (Ks d z l hx n J p U S m Y Q) λE o H h=>by
  obtain⟨w,R,A,fl,G,a,y,e,q⟩:=h;obtain⟨v,T,I,e⟩:=za e;cases e;exact wI o H _ ⟨w,R,A,v,_,a,y,I,λP H' u x r t=>q _ _ _ x r ((a.ext x).set t i)⟩
theorem Jf:oq X [] (ol X.K aI):=λg s c H Q I b=>by
 obtain⟨j,d,i,v,f,a,h,e,q⟩:=b;cases e;exact Kk g s c H Q I (q _ _ (.refl _ _) h)
theorem Jg(h:DT X c t):oq X [c] (ol X.K t):=Kl h
end Dd
namespace Dd
open L2 PyProof.Rows
def u8(K:Fg) (h:Nat) (F:cq):Sp:=λf H Q _=>∃d e g v b,ae K d H e f/\bD K d g H/\F e g=.ok v b/\f.length=h/\∀a c u,bg d H a c->bD K a b c->At K a c v u->Q u c
def fG(P:Program) (w:World) (K:Fg) (b:Str->Option Value) (base:Heap) (x:Str) (k:Nat) (a:List Str) (F:cq):Prop:=Callee P w K b base x k a (u8 K a.length F)
def cn(n b:Nat) (a:SS):cq:=λc d=>if c.length=b then(match a (c.map some++List.replicate (n-b) none) d with
 |.ok (.ret v) st'=>.ok v st'
 |.ok (.nx _) st'=>.ok .non st'
 |.exc x st'=>.exc x st'
 |_=>.stuck) else .stuck
section
variable {x:Str}{F:cq}{e:Expr}
theorem GO{K:Fg}{j:Nat}{f:SA}(z:∀m g v b,F m g=.ok v b->m.length=j):∀d H Q,tD K (aE F f) d H Q->m3 (u8 K j F) [] E0 (OW K f) d H Q:=λd H Q k=>by
 obtain⟨o,s,g,v,b,a,p,e,q⟩:=k;obtain⟨x,c,r,e⟩:=za e;refine⟨o,s,g,x,c,a,p,r,λi H1 u t h n=>?_⟩;show u8 K j F (u++[]) H1 Q E0;rw[lD];exact⟨i,x,c,v,b,n,h,e,by rw[n.length];exact z _ _ _ _ e,λl y w A=>q l y w (t.trans A)⟩
end
theorem GT{X:Cx}(c:fG X.prog X.w X.K X.mg X.base x k ps F)(l:∀ f j v a,F f j=.ok v a->f.length=ps.length)(i:bN k X.A)(n:Gl X x)(m:DA X (e::es) g)(d:(x==("__debug__" : Str))=false:=by decide)
 (h:starEach (e::es) X.env=(false,eval e X.env)::starEach es X.env:=by rfl)(b:(backTo pos (starEach es X.env)).any (·.1)=false:=by rfl):
 DE X (.Call (.Name x p) (e::es) [] pos) (aE F g):=fg (Mk c i n m d h b) (GO l)
theorem xW{n np:Nat}{b:SS}{c:List D}{d a:aa}{v:D}(h:cn n np b c d=.ok v a):c.length=np:=by
 unfold cn at h;split at h
 ·assumption
 ·cases h
theorem ae.some{K:Fg}{c:Loc}{H:Hp}:∀{f:List D}{g:List V},ae K c H f g->dc K c H (f.map Option.some) (g.map Option.some)
 |_,_,.nil=>.nil
 |_,_,.cons a b=>.cons (λd e=>by cases e;exact⟨_,rfl,a⟩) (ae.some b)
theorem dc.append{K:Fg}{e:Loc}{H:Hp}:∀{a c:DS}{b d:L2.St},dc K e H a b->dc K e H c d->dc K e H (a++c) (b++d)
 |_,_,_,_,.nil,h=>h
 |_,_,_,_,.cons r t,h=>.cons r (dc.append t h)
theorem dc.nones{K:Fg}{a:Loc}{H:Hp}:∀n,dc K a H (List.replicate n none) (List.replicate n none)
 |0=>.nil
 |n+1=>.cons (λd e=>nomatch e) (dc.nones n)
theorem wE{K:Fg}{N:List Str}{np:Nat}{b:SS}{i:List V}{H:Hp}{Q:VK}{E:XK}(h:u8 K np (cn N.length np b) i H Q E):D2 K b {nx:=λ_ f=>Q .non f,rt:=Q} (L2.start N i) H:=by
 obtain⟨m,g,j,v,d,a,n,e,l,q⟩:=h;have o:g.length=np:=by rw[←a.length];exact l
 unfold cn at e;rw[if_pos o] at e;have k:dc K m H (g.map Option.some++List.replicate (N.length-np) none) (L2.start N i):=by
  unfold L2.start;rw[l];exact a.some.append (.nones _)
 refine⟨m,g.map Option.some++List.replicate (N.length-np) none,j,?_⟩;cases hr:b (g.map Option.some++List.replicate (N.length-np) none) j with
 |stuck=>rw[hr] at e;cases e
 |exc z w=>rw[hr] at e;cases e
 |ok fl st1=>
  rw[hr] at e;cases fl with
  |ret w=>
   dsimp only at e;cases e;exact⟨.ret v,d,k,n,rfl,λc f u x r t=>q c f u x r t⟩
  |nx σ=>
   dsimp only at e;cases e;exact⟨.nx σ,d,k,n,rfl,λc f p x r t=>q c f .non x r .non⟩
  |brk σ=>cases e
  |ct σ=>cases e
theorem IP{P:Program}{w:World}{K:Fg}{o:Str->Option Value}{base h:Heap}{x:Str}{g:Stmt}{N j:List Str}{k:Nat}{b:SS}(T:ag K x g)(X:K.In h)(G:h.Ns mainGlobals o)(S:cb N j (af g))
  (I:∀(kV m p:Value) (C:Option Addr) (d u:Value) (l:List Value),l.length=j.length->bindArgs (W.fnOf x x (cE g) (bo g) (af g) .none kV m p C d u) ⟨l,[]⟩=pure (j.zip l))
  (i:∀(f:Addr) (d:Value) (A:Around) (c:List Env) (s:Shared) (H:Hp) (E:XK),bN k (A.deeper (envOfC x (af g) s.heap.objs.size f d)) ->
   nL (gy jM P w K o base N x (af g) f d A c s H E).nox (bo g) b):fG P w K o base x (k+1) j (cn N.length j.length b):=
 QI T X G S I (λr H Q E n=>by obtain⟨J,U,g,v,y,a,R,e,z,q⟩:=n;exact z) λf d A c s H r Q E t n=>⟨_,i f d A c s H E t,wE n⟩
def jw(K:Fg):Sp:=λd H Q _=>∃(a:Addr) (b:List Int),d=[.ref a]/\da K H a (b.map V.int)/\b.length<=63/\∀c,Q (.bl true) c
theorem Hy{P:Program}{w:World}{K:Fg}{y:Str->Option Value}{base:Heap}{l:Stmt}{N p:List Str}{k:Nat}{b:SS}{f:Addr}{C:FuncData}(F:pR K "law" "law" l f C)(S:cb N p (af l))(T:p.length=1)
  (i:∀(d:Value) (A:Around) (c:List Env) (s:Shared) (H:Hp) (E:XK),bN k (A.deeper (envOfC "law" (af l) s.heap.objs.size f d)) ->
   nL (gy jM P w K y base N "law" (af l) f d A c s H E).nox (bo l) b)
  (holds:∀j:List Int,j.length<=63->∃g,cn N.length 1 b [.scr (j.map .int)] []=.ok (.bl true) g):gk P w K y base jM (k+1) f C p (jw K):=by
 refine F.ok S (λG H Q E v=>?_) (λd A c s H G Q E J v=>⟨_,i d A c s H E J,?_⟩)
 ·obtain⟨a,j,rfl,_⟩:=v;exact T.symm
 ·obtain⟨a,j,rfl,R,U,q⟩:=v;obtain⟨g,e⟩:=holds j U;refine wE (np:=1) (E:=E) ⟨⟨[],[]⟩,[.scr (j.map .int)],[],_,g,.cons (.scr ?_ (ur j)) .nil,⟨rfl,λn m a e _=>by simp at e,λn a o e _=>by simp at e,λa h=>(by cases h),λn o e _=>by simp at e⟩,e,rfl,λI z u x r t=>?_⟩
  ·rcases R with h|h
   ·exact .inl ⟨h,by simp[dZ]⟩
   ·exact .inr λz=>.inr h
  ·cases t;exact q z
end Dd
namespace Dd
open L2
def eH:D->aa->bu D:=λx a=>match x with
 |.int i=>.ok (.int (-i)) a
 |_=>.stuck
def f9:SS:=λ_ _=>.stuck
def lG(c:aa):D->Option Bool
 |.non=>some false
 |.bl b=>some b
 |.int i=>some (i != 0)
 |.tup a=>some !a.isEmpty
 |d=>(eI c d).map λa=>!a.isEmpty
def cD(f:SE):ST:=λd c=>(f d c).bind λv a=>match lG a v with
 |some b=>.ok b a
 |none=>.stuck
theorem Rq{K:Fg}(h:ae K ρ H ds vs):ds.isEmpty=vs.isEmpty:=by
 cases h<;>rfl
theorem IE{K:Fg}(h:bD K ρ au H) (a:At K ρ H d u)(e:lG au d=some b):tU K u H b:=by
 unfold lG at e;split at e
 ·cases a;cases e;exact rfl
 ·cases a;cases e;exact rfl
 ·cases a;cases e;exact rfl
 ·cases e;cases a with
  |tup c f h3=>exact .inr (.inl ⟨_,bz.of c,by rw[Rq h3]⟩)
 ·obtain⟨j,g,rfl⟩:=gQ.mp e;obtain⟨p,i,rfl,c,f⟩:=k9 h a g;exact .inl ⟨_,da.of c,by rw[Rq f]⟩
theorem FT(h:DE X a f):DE X (.UnaryOp .USub a pos) (jk eH f):=fg (Gr IH h) λs H Q g=>by
 obtain⟨o,j,i,v,k,b,r,e,q⟩:=g;obtain⟨x,d,l,e⟩:=za e;refine⟨o,j,i,x,d,b,r,l,λn H1 u m c p=>?_⟩;cases x<;>try (cases e;done)
 cases e;cases p;exact⟨_,rfl,q _ _ _ m c (.int _)⟩
theorem Lx(l:di X (compareOp op) r)(d:di X (compareOp op') r')(k:iu X.K g r)(e:iu X.K g' r')(n:DE X a f)(i:DE X b f')(j:DE X c f'')
 (m:lastMarks [op,op'] [b,c]=false:=by with_unfolding_all rfl):DT X (.Compare a [op,op'] [b,c] pos) (eB (dQ g g' f f' f'')):=j6 (MA l d n i j m) λo H Q h=>IR k e _ _ _ (tK _ _ _ h)
theorem Lp:jX X sm f9:=λi s g H E I ⟨h,c,f,d,b,a,j,e,q⟩=>by cases e
theorem Hg(h:DE X a f)(j:∀b,isTrue a X.env b=(do let v ←b;standAt a.pos;holding [v] (truthy v)):=by intro _;rfl):DT X a (cD f):=j6 (Qi h j) λy H Q i=>by
 obtain⟨s,m,l,v,n,d,w,e,q⟩:=i;obtain⟨x,g,o,e⟩:=za e;refine⟨s,m,l,x,g,d,w,o,λr H1 u p c t=>?_⟩;split at e
 ·rename_i z k;cases e;exact⟨_,IE c t k,q _ _ p c⟩
 ·cases e
end Dd
namespace Dd
open Spec PyProof.Rows L2
noncomputable def ge:Int->List D->List D
 |_,[]=>[]
 |n,x::xs=>.tup [.int n,x]::ge (n+1) xs
def hH(f:SE):SA:=λc b=>(f c b).bind λx a=>match x with
 |.tup xs=>.ok (ge 1 xs) a
 |_=>.stuck
theorem Cq:∀{a:List D}{n:Int}{i:Nat}{d:D},(ge n a)[i]?=some d->∃x,a[i]?=some x/\d=.tup [.int (n+i),x]
 |[],_,_,_,h=>by simp[ge] at h
 |x::a,n,0,d,h=>by
  simp[ge] at h;exact⟨x,rfl,by rw[←h];simp⟩
 |x::a,n,i+1,d,h=>by
  simp only[ge,u4] at h;obtain⟨y,c,b⟩:=Cq h;exact⟨y,by simpa using c,by rw[b];congr 3;push_cast;lia⟩
theorem vY:∀{xs:List D}{n:Int},(ge n xs).length=xs.length
 |[],_=>rfl
 |_::xs,n=>by simp[ge,vY (xs:=xs)]
theorem Ll(U:Gl X "enumerate")(S:X.mg "enumerate"=none)(P:DE X l f)(he:starEach [l] X.env=[(false,eval l X.env)]:=by rfl):
  DI X (.Tuple elts k tpos) (.Call (.Name "enumerate" p) [l] [⟨some "start",.Constant (.int 1) j cpos,kpos⟩] pos) (hH f):=jr (Ms U S P he) λτ H R n=>by
 obtain⟨C,Y,s,xs,G,a,E,e,q⟩:=n;obtain⟨x,o,I,e⟩:=za e;refine⟨C,Y,s,x,o,a,E,I,λJ H1 u x1 m a1=>?_⟩;split at e
 ·rename_i ys;cases e;cases a1 with
  |tup h1 h2 h3=>
   refine⟨_,rfl,⟨_,bz.of h1⟩,q _ _ _ x1 m ⟨λr H2 c i d e=>?_,λr H2 c i h=>?_⟩⟩
   ·obtain⟨z,A,rfl⟩:=Cq e;obtain⟨v,t,Q⟩:=h3.get A;refine⟨⟨_,v,bz.of (c.out h1 h2).1,t⟩,λy H3 T=>?_⟩;obtain⟨p,g,rfl,w⟩:=T;rw[w _ _ (bz.of (c.out h1 h2).1) t];refine⟨bg.new g _,λs b=>⟨b.new g _,?_⟩⟩;have e3:(1:Int)+(i:Int)=((i+1:Nat):Int):=by push_cast;lia
    rw[e3];exact At.newT b g (.cons (.int _) (.cons (Q.extG c) .nil))
   ·rw[vY] at h;exact⟨_,bz.of (c.out h1 h2).1,by rw[h3.length];exact h⟩
 ·cases e
end Dd
namespace Dd
open L2
def pM:List D->aa->bu D:=λb a=>match b with
 |[.int i]=>.ok (.int i) a
 |[.bl k]=>.ok (.int (if k then 1 else 0)) a
 |_=>.stuck
theorem GG{K:Fg}:jL K pM (λb H Q=>(∃i,b=[.int i]/\Q (.int i) H)\/∃k,b=[.bl k]/\Q (.int (if k then 1 else 0)) H):=λj H g b h z f Q d c e q=>by
 unfold pM at e;split at e
 ·cases e;obtain⟨u,rfl,a⟩:=c.one;cases a;exact .inl ⟨_,rfl,q _ _ _ (.refl _ _) d (.int _)⟩
 ·cases e;obtain⟨u,rfl,a⟩:=c.one;cases a;exact .inr ⟨_,rfl,q _ _ _ (.refl _ _) d (.int _)⟩
 ·cases e
def nG(i:SA) (k:Nat) (is:List Nat) (j:SG) (c:ST) (f:SE):SE:=λe g=>(i e g).bind λd b=>if d.length<=sizeLine then(bx j c f d (aV k is e) b).bind λh a=>.ok (.ref a.length) (a++[.lst h]) else .stuck
noncomputable def gd:Expr->Bool
 |.Starred _ _=>false
 |_=>true
theorem Um(h:gd e=true):starEach (e::es) env=(false,eval e env)::starEach es env:=by
 cases e<;>first|rfl|cases h
theorem Li(b:DE X e f)(a:DA X es g)(c:gd e=true:=by rfl):DA X (e::es) (aB f g):=Ja b a (Um c)
def qN(gt:Bool):List D->aa->bu D:=λb a=>match b with
 |[x]=>match (cy a x).bind bv with
  |some (n::ns)=>.ok (.int (cL gt n ns)) a
  |_=>.stuck
 |_=>.stuck
noncomputable def bV:List D->List D->List D
 |x::xs,y::ys=>.tup [x,y]::bV xs ys
 |_,_=>[]
def iJ(g:SA):SA:=λf e=>(g f e).bind λd c=>match d with
 |[.tup a,.tup b]=>.ok (bV a b) c
 |_=>.stuck
theorem Rv:∀{a b:List D}{i:Nat}{d:D},(bV a b)[i]?=some d->∃x y,a[i]?=some x/\b[i]?=some y/\d=.tup [x,y]
 |[],_,_,_,h=>by simp[bV] at h
 |_::_,[],_,_,h=>by simp[bV] at h
 |x::a,y::b,0,d,h=>by
  simp[bV] at h;exact⟨x,y,rfl,rfl,h.symm⟩
 |x::a,y::b,i+1,d,h=>by
  simp only[bV,u4] at h;obtain⟨j,e,g,f,c⟩:=Rv h;exact⟨j,e,by simpa using g,by simpa using f,c⟩
theorem R4:∀{xs ys:List D},(bV xs ys).length=min xs.length ys.length
 |[],_=>by simp[bV]
 |_::_,[]=>by simp[bV]
 |_::xs,_::ys=>by simp[bV,R4 (xs:=xs) (ys:=ys)]
theorem G6(hg:Gl X "zip")(T:X.mg "zip"=none)(U:DA X [a,b] g)(hs:starEach [a,b] X.env=[(false,eval a X.env),(false,eval b X.env)]:=by rfl)(v:starEach [b] X.env=[(false,eval b X.env)]:=by rfl):
  DI X (.Tuple elts k tpos) (.Call (.Name "zip" p) [a,b] [] pos) (iJ g):=jr (Ij hg T U hs v) λτ H R r=>by
 obtain⟨G,σ,z,xs,J,a,I,e,q⟩:=r;obtain⟨x,t,P,e⟩:=za e;refine⟨G,σ,z,x,t,a,I,P,λQ H1 u x1 o a1=>?_⟩;split at e
 ·rename_i as bs;cases e;obtain⟨u1,u2,rfl,S,b2⟩:=a1.two;cases S with
  |tup h1 h2 h3=>
   cases b2 with
   |tup k1 k2 k3=>
    refine⟨_,_,rfl,⟨_,bz.of h1⟩,⟨_,bz.of k1⟩,q _ _ _ x1 o ⟨λw H2 c i d e=>?_,λw H2 c i h=>?_⟩⟩
    ·obtain⟨x',y',ex,C,rfl⟩:=Rv e;obtain⟨E,l,n⟩:=h3.get ex;obtain⟨v2,f,s⟩:=k3.get C;refine⟨⟨_,_,E,v2,bz.of (c.out h1 h2).1,bz.of (c.out k1 k2).1,l,f⟩,λy H3 Y=>?_⟩;obtain⟨p,m,rfl,A⟩:=Y;rw[A _ _ _ _ (bz.of (c.out h1 h2).1) (bz.of (c.out k1 k2).1) l f];exact⟨bg.new m _,λz j=>⟨j.new m _,At.newT j m (.cons (n.extG c) (.cons (s.extG c) .nil))⟩⟩
    ·rw[R4] at h;exact⟨_,_,bz.of (c.out h1 h2).1,bz.of (c.out k1 k2).1,by rw[h3.length,k3.length];lia⟩
 ·cases e
def qA(c:SG) (f:SE):SS:=λb d=>(f b d).bind λv a=>match c v b with
 |some σ1=>.ok (.nx σ1) a
 |none=>.stuck
end Dd
namespace Dd
open L2 PyProof.Rows
structure JE (X:Cx) (e:Expr) (f:SE):Prop where out:DE X e f
structure JT (X:Cx) (e:Expr) (f:ST):Prop where out:DT X e f
structure JW (X:Cx) (e:Expr) (f:ST):Prop where out:DW X e f
structure JA (X:Cx) (e:List Expr) (f:SA):Prop where out:DA X e f
structure JS (X:Cx) (s:Stmt) (f:SS):Prop where out:jX X s f
structure JB (X:Cx) (s:List Stmt) (f:SS):Prop where out:nL X s f
structure JO (X:Cx) (e:Option Expr) (f:DS->aa->bu (Option Int)):Prop where out:DO X e f
structure JG (X:Cx) (e:Expr) (b:SG):Prop where out:DG X e b
structure Ea (X:Cx) (e:List Expr) (b:List D->DS->Option DS):Prop where out:BM X e b
structure JI (X:Cx) (tg iter:Expr) (f:SA):Prop where out:DI X tg iter f
structure D9 (X:Cx) (ifs:List Expr) (c:ST):Prop where out:oq X ifs (ol X.K c)
structure JC (X:Cx) (op:CmpOp) (a b:Expr) (f:SE):Prop where out:PC X op a b (tD X.K f)
theorem JW.pt(h:JW X e t):JT X e t:=⟨PW.pt h.out⟩
theorem mB(h:PE X e (py i)):JE X e (aA i):=⟨FZ h⟩
theorem nP(h:PE X e (tC v))(k:∀a H,At X.K a H d v):JE X e (eC d):=⟨oK h k⟩
theorem zd{i j pos}:JE X (.Constant (.int i) j pos) (eC (.int i)):=⟨FR⟩
theorem k8{b j pos}:JE X (.Constant (.bool b) j pos) (eC (.bl b)):=⟨Pv⟩
theorem wP{j pos}:JE X (.Constant .none j pos) (eC .non):=⟨FU⟩
theorem cN(d:di X (binaryOp op) r)(c:iu X.K g r)(e:JE X a f)(h:JE X b f'):JE X (.BinOp a op b pos) (aU g f f'):=⟨Pq d c e.out h.out⟩
theorem vh(e:di X (compareOp op) r)(d:iu X.K g r)(i:JE X a f)(c:JE X b f')(h:behindInMarks op b=false):JE X (.Compare a [op] [b] pos) (aU g f f'):=⟨FO e d i.out c.out h⟩
theorem hY(e:di X (compareOp op) r)(d:iu X.K g r)(i:JE X a f)(c:JE X b f')(h:behindInMarks op b=false):JT X (.Compare a [op] [b] pos) (eB (aU g f f')):=⟨Hd e d i.out c.out h⟩
theorem rS{op}(h:JE X a f):JE X (.BoolOp op [a] pos) f:=⟨FW h.out⟩
section
variable {X:Cx}{a:Expr}{b:Expr}{rest:List Expr}{f:SE}{f':SE}{pos:Pos}
theorem rQ(c:JE X a f)(d:JE X (.BoolOp .And (b::rest) pos) f'):JE X (.BoolOp .And (a::b::rest) pos) (jD f f'):=⟨FN c.out d.out⟩
end
section
variable {X:Cx}{a:Expr}{b:Expr}{rest:List Expr}{f:SE}{f':SE}{pos:Pos}
theorem FX(c:JE X a f)(d:JE X (.BoolOp .Or (b::rest) pos) f'):JE X (.BoolOp .Or (a::b::rest) pos) (qM f f'):=⟨Pp c.out d.out⟩
end
theorem rR(b:JE X a f):JE X (.UnaryOp .Not a pos) (io f):=⟨FV b.out⟩
theorem oz{op}(h:JT X a t)(b:op=.And\/op=.Or):JW X (.BoolOp op [a] pos) t:=⟨Hi h.out b⟩
section
variable {X:Cx}{a:Expr}{b:Expr}{rest:List Expr}{t:ST}{t':ST}{pos:Pos}
theorem Eh(c:JT X a t)(d:JW X (.BoolOp .And (b::rest) pos) t'):JW X (.BoolOp .And (a::b::rest) pos) (jG t t'):=⟨Hh c.out d.out⟩
end
section
variable {X:Cx}{a:Expr}{b:Expr}{rest:List Expr}{t:ST}{t':ST}{pos:Pos}
theorem qT(c:JT X a t)(d:JW X (.BoolOp .Or (b::rest) pos) t'):JW X (.BoolOp .Or (a::b::rest) pos) (kX t t'):=⟨F2 c.out d.out⟩
end
theorem mC(b:JT X a t):JT X (.UnaryOp .Not a pos) (dW t):=⟨Hf b.out⟩
theorem FP(g:JT X c t)(d:JE X a f)(e:JE X b f'):JE X (.IfExp c a b pos) (BB t f f'):=⟨Pt g.out d.out e.out⟩
theorem f6:JA X [] aC:=⟨G2⟩
theorem eJ{x1}(h:JA X es g):JE X (.Tuple es x1 pos) (aT g):=⟨FY h.out⟩
theorem vi(h:JA X es g):JE X (.List es pos) (ip g):=⟨FS h.out⟩
theorem jP(h:JA X es g):JE X (.List es pos) (bZ g):=⟨G0 h.out⟩
theorem Ch:JO X none gr:=⟨Ji⟩
theorem Ci(a:JE X e f):JO X (some e) (gq f):=⟨Jj a.out⟩
theorem fH(d:JE X a f)(e:JE X b f')(c:jc b):JE X (.Subscript a b pos) (aU cB f f'):=⟨Ps d.out e.out c⟩
section
variable {X:Cx}{e:Expr}{f:SE}{pos:Pos}{lo:Option Expr}{hi:Option Expr}{l:DS->aa->bu (Option Int)}{h:DS->aa->bu (Option Int)}
theorem oM{b:Pos}(a:JE X e f)(d:JO X lo l)(c:JO X hi h):JE X (.Subscript e (.Slice lo hi none b) pos) (qL f l h):=⟨Po a.out d.out c.out⟩
end
theorem zf{x:Str}{id:String}(d:bF X (.builtin id) r)(h:jL X.K g r)(m:Gl X x)(k:X.mg x=none)(i:bootBuiltins x=some (.builtin id))(l:JA X (e::es) f)(j:x≠"__name__":=by decide)(b:(x==("__debug__" : Str))=false:=by decide)(c:starEach (e::es) X.env=(false,eval e X.env)::starEach es X.env:=by rfl)(a:(backTo pos (starEach es X.env)).any (·.1)=false:=by rfl):JE X (.Call (.Name x p) (e::es) [] pos) (aE g f):=⟨IU d h m k i l.out j b c a⟩
theorem jo{T:String}(d:bF X (.type T) r)(h:jL X.K g r)(m:Gl X x)(k:X.mg x=none)(i:bootBuiltins x=some (.type T))(l:JA X (e::es) f)(j:x≠"__name__":=by decide)(b:(x==("__debug__" : Str))=false:=by decide)(c:starEach (e::es) X.env=(false,eval e X.env)::starEach es X.env:=by rfl)(a:(backTo pos (starEach es X.env)).any (·.1)=false:=by rfl):JE X (.Call (.Name x p) (e::es) [] pos) (aE g f):=⟨Ld d h m k i l.out j b c a⟩
theorem uk:JE X (.Dict [] [] pos) eO:=⟨GX⟩
theorem xt{X:Cx}(c:X.A.units+1<cLine)(a:JE X i g)(b:JE X o f):JC X .In i o (aU (i4 false) g f):=⟨Gm c a.out b.out⟩
theorem FQ(h:JC X op a b t)(c:behindInMarks op b=false:=by first|exact nobehind _ ')' ')'|rfl):JE X (.Compare a [op] [b] pos) t:=⟨tN h.out c⟩
theorem He(h:JC X op a b t)(c:behindInMarks op b=false:=by first|exact nobehind _ ')' ')'|rfl):JT X (.Compare a [op] [b] pos) (eB t):=⟨F1 h.out c⟩
theorem IW{X:Cx}(c:X.A.units+1<cLine)(d:JE X o f)(a:JE X i g)(b:pN i):JE X (.Subscript o i pos) (aU fk f g):=⟨GW c d.out a.out b⟩
theorem Le{X:Cx}(c:X.A.units + 1<cLine)(d:JE X o f)(a:JE X e g)(b:JE X f' h)(m:M2 X o "get" apos e f' cpos):JE X (.Call (.Attribute o "get" apos) [e,f'] [] cpos) (ja f g h):=⟨IV c d.out a.out b.out m⟩
theorem IX{X:Cx}(c:X.A.units + 1<cLine)(b:JE X o f)(a:JE X e g)(m:M1 X o "pop" apos e cpos):JE X (.Call (.Attribute o "pop" apos) [e] [] cpos) (kU f g):=⟨GY c b.out a.out m⟩
theorem Cj{X:Cx}{a:Pos}(e:X.A.units+1<cLine)(d:JE X o f)(b:JE X i g)(j:JE X value h)(c:swapsWith value (some (.Subscript o i pos')) a.line X.env=pure false):JS X (.Assign [.Subscript o i pos'] value a) (gp f g h):=⟨Jn e d.out b.out j.out c⟩
theorem mE{b:Pos}(i:JE X o f)(j:JA X (e::es) ga)(d:attributeBase o "append" X.env (eval o X.env)=eval o X.env:=by rfl)(g:((backTo cpos (starEach (e::es) X.env)).all (λx=>!x.1)&&(backToKw cpos (keywordEach [] X.env)).all (λx=>x.1.isSome)
 && decide ((e::es).length + ([]:List Keyword).length + (if([]:List Keyword).isEmpty then 0 else 1)<30))=true:=by rfl) (c:(b.endLine==cpos.line)=true:=by rfl) (h:starEach (e::es) X.env=(false,eval e X.env)::starEach es X.env:=by rfl) (a:(backTo cpos (starEach es X.env)).any (·.1)=false:=by rfl):JE X (.Call (.Attribute o "append" b) (e::es) [] cpos) (bw f ga):=⟨Lc i.out j.out d g c h a⟩
theorem E9{b:Pos}(i:JE X o f)(j:JA X (e::es) ga)(d:attributeBase o "extend" X.env (eval o X.env)=eval o X.env:=by rfl)(g:((backTo cpos (starEach (e::es) X.env)).all (λx=>!x.1)&&(backToKw cpos (keywordEach [] X.env)).all (λx=>x.1.isSome)
 && decide ((e::es).length + ([]:List Keyword).length + (if([]:List Keyword).isEmpty then 0 else 1)<30))=true:=by rfl) (c:(b.endLine==cpos.line)=true:=by rfl) (h:starEach (e::es) X.env=(false,eval e X.env)::starEach es X.env:=by rfl) (a:(backTo cpos (starEach es X.env)).any (·.1)=false:=by rfl):JE X (.Call (.Attribute o "extend" b) (e::es) [] cpos) (eA f ga):=⟨Lg i.out j.out d g c h a⟩
theorem wQ{b:Pos}{a:Pos}(e:JE X o f)(d:attributeBase o "pop" X.env (eval o X.env)=eval o X.env:=by rfl)(c:(b.endLine==a.line)=true:=by rfl):JE X (.Call (.Attribute o "pop" b) [] [] a) (nF f):=⟨rE e.out d c⟩
theorem iS(a:JE X o f):JE X o (lV f):=⟨Pu a.out⟩
theorem hX:JB X [] fw:=⟨G9⟩
theorem zh(a:JE X e f):JS X (.Return (some e) pos) (ap f):=⟨Hb a.out⟩
theorem f7{a:Pos}(c:JE X e f)(b:swapsWith e none a.line X.env=pure false:=by rfl):JS X (.Expr e a) (br f):=⟨Jo c.out b⟩
theorem xV{X:Cx}{a:Pos}(b:X.N.Nodup)(c:X.N[i]?=some x)(j:L2.Loc X.env.scope x)(d:JE X e f)(g:swapsWith e (some (.Name x pos')) a.line X.env=pure false:=by rfl)(h:X.fn x=true\/X.env.scope.names.lookup x=some .local:=by first|exact .inl rfl|exact .inr rfl|assumption):JS X (.Assign [.Name x pos'] e a) (aF i f):=⟨Hc b c j d.out g h⟩
theorem zc(a:JS X sm s):JB X [sm] s:=⟨Ha a.out⟩
section
variable {X:Cx}{sm:Stmt}{rest:List Stmt}{s:SS}{t:SS}
theorem zb(b:JS X sm s)(a:JB X rest t):JB X (sm::rest) (aD s t):=⟨Jm b.out a.out⟩
end
theorem gI(e:JT X c b)(a:JB X a' s)(d:JB X b' t):JS X (.If c a' b' pos) (fc b s t):=⟨F0 e.out a.out d.out⟩
theorem Jl{X:Cx}(a:X.N.Nodup)(b:X.N[i]?=some x)(k:L2.Loc X.env.scope x)(c:JE X e f)(j:D5 X op ti)(d:PP X.K g ti)(h:X.fn x=true\/X.env.scope.names.lookup x=some .local:=by first|exact .inl rfl|exact .inr rfl|assumption):JS X (.AugAssign (.Name x pos') op e pos) (lH i g f):=⟨G7 a b k c.out j d h⟩
theorem QN{a:Pos}(c:JE X value h)(j:JE X o f)(b:JE X i g)(k:∀v,assign (.Subscript o i pos') X.env v=(do
 let ov ←holding [v] (eval o X.env)
 let iv ←holding [v,ov] (eval i X.env)
 standAt pos'
 holding [v,ov,iv] (setItem ov iv v)
 release [v,ov,iv] []):=by intro _;rfl) (d:swapsWithSole [.Subscript o i pos'] value a.line X.env=pure false:=by rfl) (e:swappedStores [.Subscript o i pos'] value X.env=pure none:=by rfl) (l:(assignEach [.Subscript o i pos'] X.env).map (·.2)=[assign (.Subscript o i pos') X.env]:=by rfl):JS X (.Assign [.Subscript o i pos'] value a) (fu f g h):=⟨Lq c.out j.out b.out k d e l⟩
theorem iR{X:Cx}(a:X.N.Nodup)(b:X.N[i]?=some x)(d:L2.Loc X.env.scope x)(c:X.fn x=true\/X.env.scope.names.lookup x=some .local:=by first|exact .inl rfl|exact .inr rfl|assumption):JG X (.Name x pos) (gN i):=⟨Jb a b d c⟩
theorem ll:Ea X [] cg:=⟨Jc⟩
theorem zl(c:JG X e t)(b:Ea X es u)(a:(assignEach (e::es) X.env).map (·.2)=assign e X.env::(assignEach es X.env).map (·.2):=by rfl):Ea X (e::es) (ai t u):=⟨Lj c.out b.out a⟩
theorem lf{X:Cx}(c:X.calm=true)(h:Ea X es u)(b:(assignEach es X.env).length=n:=by rfl)(a:(assignEach es X.env).findIdx? (·.1)=none:=by rfl):JG X (.Tuple es k pos) (gT n u):=⟨G3 c h.out b a⟩
theorem zy(a:JE X l f):JI X tg l (aH f):=⟨G5 a.out⟩
theorem ky(e:Gl X "range")(b:X.mg "range"=none)(d:JA X [a] g)(c:starEach [a] X.env=[(false,eval a X.env)]:=by rfl):JI X tg (.Call (.Name "range" p) [a] [] pos) (hG g):=⟨No e b d.out c⟩
theorem CH(h:Gl X "range")(e:X.mg "range"=none)(f:JA X [a,b] g)(d:starEach [a,b] X.env=[(false,eval a X.env),(false,eval b X.env)]:=by rfl)(c:starEach [b] X.env=[(false,eval b X.env)]:=by rfl):JI X tg (.Call (.Name "range" p) [a,b] [] pos) (qK g):=⟨Np h e f.out d c⟩
theorem Lk(a:JE X l f):JI X tg l (iK f):=⟨Jd a.out⟩
theorem xU{X:Cx}(f:PassesOwn '#' X.A X.env X.xe)(d:X.calm=true)(a:JI X tg iter it)(g:JG X tg bd)(c:JB X body b)(e:∀x,foldedSetIterable iter X.env x=pure x:=by intro _;rfl):JS X (.For tg iter body [] pos) (ba it bd b):=⟨G8 f d a.out g.out c.out e⟩
theorem uw{X:Cx}(e:PassesOwn '#' X.A X.env X.xe)(d:JT X c t)(a:JB X body b):JS X (.While c body [] pos) (cM t b):=⟨Lw e d.out a.out⟩
theorem nR{X:Cx}{N:List Str}(d:X.calm=true)(e:JI X tg iter it)(j:∀a C b s H,JG (fo X N scope a C b s H) tg bd)(h:∀a C b s H,D9 (fo X N scope a C b s H) ifs c)(g:∀a C b s H,JE (fo X N scope a C b s H) elt f)(S:bA X N k is scope)(i:∀x,foldedSetIterable iter X.env x=pure x:=by intro _;rfl):JE X (.ListComp elt [⟨tg,iter,ifs,0⟩] scope pos) (aG it k is bd c f):=⟨GV d e.out (λa C b s H=>(j a C b s H).out) (λa C b s H=>(h a C b s H).out) (λa C b s H=>(g a C b s H).out) S i⟩
theorem Qa{X:Cx}{N:List Str}{d:Pos}(e:X.calm=true)(l:X.N.Nodup)(h:X.N[i]?=some x)(q:L2.Loc X.env.scope x)(j:JI X tg iter it)(r:∀a C b s H,JG (fo X N scope a C b s H) tg bd)(n:∀a C b s H,D9 (fo X N scope a C b s H) ifs c)(m:∀a C b s H,JE (fo X N scope a C b s H) elt f)(S:bA X N k is scope)(g:swapsWith (.ListComp elt [⟨tg,iter,ifs,0⟩] scope pos) (some (.Name x pos')) d.line X.env=pure true:=by rfl)(p:X.fn x=true\/X.env.scope.names.lookup x=some .local:=by first|exact .inl rfl|exact .inr rfl|assumption)(o:∀x,foldedSetIterable iter X.env x=pure x:=by intro _;rfl):JS X (.Assign [.Name x pos'] (.ListComp elt [⟨tg,iter,ifs,0⟩] scope pos) d) (aF i (aG it k is bd c f)):=⟨Jp e l h q j.out (λa C b s H=>(r a C b s H).out) (λa C b s H=>(n a C b s H).out) (λa C b s H=>(m a C b s H).out) S g p o⟩
theorem p0:D9 X [] aI:=⟨Jf⟩
theorem Cg(h:JT X c t):D9 X [c] t:=⟨Jg h.out⟩
theorem xQ{X:Cx}(c:fG X.prog X.w X.K X.mg X.base x k ps F)(l:∀ f j v a,F f j=.ok v a->f.length=ps.length)(i:bN k X.A)(n:Gl X x)(m:JA X (e::es) g)(d:(x==("__debug__" : Str))=false:=by decide)(h:starEach (e::es) X.env=(false,eval e X.env)::starEach es X.env:=by rfl)(b:(backTo pos (starEach es X.env)).any (·.1)=false:=by rfl):JE X (.Call (.Name x p) (e::es) [] pos) (aE F g):=⟨GT c l i n m.out d h b⟩
theorem P2{P:Program}{w:World}{K:Fg}{i:Str->Option Value}{base h:Heap}{x:Str}{d:Stmt}{N g:List Str}{k:Nat}{b:SS}(T:ag K x d)(X:K.In h)(G:h.Ns mainGlobals i)(S:cb N g (af d))(q:∀(kV l m:Value) (p:Option Addr) (c n:Value) (j:List Value),j.length=g.length->bindArgs (W.fnOf x x (cE d) (bo d) (af d) .none kV l m p c n) ⟨j,[]⟩=pure (g.zip j))(e:∀(f:Addr) (c:Value) (A:Around) (a:List Env) (s:Shared) (H:Hp) (E:XK),bN k (A.deeper (envOfC x (af d) s.heap.objs.size f c)) ->
 JB (gy jM P w K i base N x (af d) f c A a s H E).nox (bo d) b):fG P w K i base x (k+1) g (cn N.length g.length b):=IP T X G S q (λf c A a s H E o=>(e f c A a s H E o).out)
theorem Jz{P:Program}{w:World}{K:Fg}{i:Str->Option Value}{base:Heap}{e:Stmt}{N g:List Str}{k:Nat}{b:SS}{f:Addr}{j:FuncData}(F:pR K "law" "law" e f j)(S:cb N g (af e))(m:g.length=1)(d:∀(c:Value) (A:Around) (a:List Env) (s:Shared) (H:Hp) (E:XK),bN k (A.deeper (envOfC "law" (af e) s.heap.objs.size f c)) ->
 JB (gy jM P w K i base N "law" (af e) f c A a s H E).nox (bo e) b) (holds:∀ l:List Int,l.length<=63->∃ h,cn N.length 1 b [.scr (l.map .int)] []=.ok (.bl true) h):gk P w K i base jM (k + 1) f j g (jw K):=Hy F S m (λc A a s H E n=>(d c A a s H E n).out) holds
theorem pT(h:JE X a f):JE X (.UnaryOp .USub a pos) (jk eH f):=⟨FT h.out⟩
theorem Fa(k:di X (compareOp op) r)(d:di X (compareOp op') r')(j:iu X.K g r)(e:iu X.K g' r')(m:JE X a f)(h:JE X b f')(i:JE X c f'')(l:lastMarks [op,op'] [b,c]=false:=by with_unfolding_all rfl):JT X (.Compare a [op,op'] [b,c] pos) (eB (dQ g g' f f' f'')):=⟨Lx k d j e m.out h.out i.out l⟩
theorem Cz:JS X sm f9:=⟨Lp⟩
theorem jQ(h:JE X a f)(c:∀b,isTrue a X.env b=(do let v ←b;standAt a.pos;holding [v] (truthy v)):=by intro _;rfl):JT X a (cD f):=⟨Hg h.out c⟩
theorem QM(b:Gl X "enumerate")(a:X.mg "enumerate"=none)(d:JE X l f)(c:starEach [l] X.env=[(false,eval l X.env)]:=by rfl):JI X (.Tuple elts k tpos) (.Call (.Name "enumerate" p) [l] [⟨some "start",.Constant (.int 1) j cpos,kpos⟩] pos) (hH f):=⟨Ll b a d.out c⟩
theorem zp(b:JE X e f)(a:JA X es g)(c:gd e=true:=by rfl):JA X (e::es) (aB f g):=⟨Li b.out a.out c⟩
theorem xS(h:Gl X "zip")(e:X.mg "zip"=none)(f:JA X [a,b] g)(d:starEach [a,b] X.env=[(false,eval a X.env),(false,eval b X.env)]:=by rfl)(c:starEach [b] X.env=[(false,eval b X.env)]:=by rfl):JI X (.Tuple elts k tpos) (.Call (.Name "zip" p) [a,b] [] pos) (iJ g):=⟨G6 h e f.out d c⟩
end Dd
namespace L2
open Spec PyProof.Rows
section
open AutoSeq1
end
end L2
namespace Dd
open L2
end Dd
namespace L2
open Spec PyProof.Rows
end L2
namespace Dd
open L2 PyProof.Rows
end Dd
namespace L2
open Spec PyProof.Rows
theorem Ve:fillsNumberSlot (.type "tuple") "mul"=pure false:=
 PySem.fillsNumberSlot_seq (id:="tuple.__mul__") (r:=some (.builtin "tuple.__rmul__")) yU.lookup (by decide +kernel) F.slot_tuple_rmul.lookup (by decide +kernel)
theorem Ky:seqRepeat? (.type "tuple")=pure (some (.builtin "tuple.__mul__")):=by
 unfold seqRepeat?;rw[PySem.seqSlot_of (T:="tuple") (name:="__mul__") (id:="tuple.__mul__") yU.lookup (by decide +kernel),PySem.seqSlot_of (T:="tuple") (name:="__rmul__") (id:="tuple.__rmul__") F.slot_tuple_rmul.lookup (by decide +kernel)]
 rfl
theorem MJ(a:Int)(t:Tok)(l:Addr)(b:Array Value)(n:Nat)(e:Option Addr)(f:Array (Option Value)):
  Meets (Builtin.«int.__rmul__» ⟨[.int a t,.ref l],[]⟩) (λ_ R s=>s.heap.get? l=some { cls:=.type "tuple",dict:=e,data:=.seq b n,slots:=f }/\R (.ok (.ret Value.notImplemented)) s):=
 .of_wp λc w A R s h=>by
  obtain⟨j,g,d,i,os⟩:=s;obtain⟨k,h⟩:=h
  wp_walk
  exact⟨_,rfl,h⟩
theorem nb(h:b=false):decide (b=true)=false:=by rw[h];rfl
section
open AutoSeq1
variable (l:Addr)(items:Array Value)(n:Nat)(dd:Option Addr)(sl:Array (Option Value))(x:Int)(u:Tok)
theorem NI(lo:-1000000<=x)(c:x<=0)(b:items.isEmpty=false):
  Meets (Builtin.«tuple.__mul__» ⟨[.ref l,.int x u],[]⟩) (λ_ R s=>s.heap.get? l=some { cls:=.type "tuple",dict:=dd,data:=.seq items n,slots:=sl }/\R (.ok (.ret (.ref s.heap.objs.size))) { s with heap:=s.heap.push { cls:=.type "tuple",data:=.seq #[] } }):=
 .of_wp λa w A R s h=>by
  obtain⟨f,g,d,e,os⟩:=s;obtain⟨i,h⟩:=h
  wp_walk
  try
   refine o8 ?c1 ?_
   case c1=>exact nb (by rw[uS];exact⟨dj '!',dj '!'⟩)
   wp_walk
  try
   refine o8 ?c1 ?_
   case c1=>exact nb (by rw[uS];exact⟨b,beq_false_of_ne '!'⟩)
   wp_walk
  try
   refine wpAny_ite_true ?c1 ?_
   case c1=>exact yb (by rw[NX];exact .inl (d5 c))
   wp_walk
  exact⟨_,rfl,h⟩
theorem LZ(b:x=1):
  Meets (Builtin.«tuple.__mul__» ⟨[.ref l,.int x u],[]⟩) (λ_ R s=>s.heap.get? l=some { cls:=.type "tuple",dict:=dd,data:=.seq items n,slots:=sl }/\R (.ok (.ret (.ref l))) s):=
 .of_wp λa w A R s h=>by
  obtain⟨e,g,d,c,os⟩:=s;obtain⟨f,h⟩:=h
  wp_walk
  try
   refine o8 ?c1 ?_
   case c1=>exact nb (by rw[uS];exact⟨dj '!',dj '!'⟩)
   wp_walk
  try
   refine wpAny_ite_true ?c1 ?_
   case c1=>exact yb (by rw[NX];exact .inr (by rw[b];rfl))
   wp_walk
  exact⟨_,rfl,h⟩
theorem NH(q:2<=x)(j:x<=1000000)(f:items.isEmpty=false)(m:((items.size:Nat):Int)*x<=1000000)(i:Builtin.Tuple.tupleTooMany (((items.size:Nat):Int)*x)=false)
  (c:(List.foldl (λa b=>a++b) #[] (List.replicate x.toNat items)).size<=sizeLine):
  Meets (Builtin.«tuple.__mul__» ⟨[.ref l,.int x u],[]⟩) (λ_ R s=>s.heap.get? l=some { cls:=.type "tuple",dict:=dd,data:=.seq items n,slots:=sl }/\R (.ok (.ret (.ref s.heap.objs.size))) { s with heap:=s.heap.push { cls:=.type "tuple",data:=.seq (List.foldl (λa b=>a++b) #[] (List.replicate x.toNat items)) } }):=
 .of_wp λe w A R s h=>by
  obtain⟨o,g,d,k,os⟩:=s;obtain⟨p,h⟩:=h
  wp_walk
  try
   refine o8 ?c1 ?_
   case c1=>exact nb (by rw[uS];exact⟨dj '!',dj '!'⟩)
   wp_walk
  try
   refine o8 ?c1 ?_
   case c1=>exact nb (by rw[uS];exact⟨f,beq_false_of_ne '!'⟩)
   wp_walk
  try
   refine o8 ?c1 ?_
   case c1=>exact nb (by rw[uS];exact⟨dj '!',f⟩)
   wp_walk
  try
   refine o8 ?c1 ?_
   case c1=>exact dj '!'
   wp_walk
  try
   refine o8 ?c1 ?_
   case c1=>exact nb i
   wp_walk
  try (refine o8 (dj (Nat.not_lt.mpr c)) ?_;wp_walk)
  exact⟨_,rfl,h⟩
end
noncomputable def dy{α:Type}(a:List α) (n:Int):List α:=(List.replicate n.toNat a).flatten
theorem Rp{c:Type}(b:List c):∀(n:Nat) (a:List c),(List.foldl (λ(d e:Array c)=>d++e) a.toArray (List.replicate n b.toArray))=(a++(List.replicate n b).flatten).toArray
 |0,a=>by simp
 |n+1,a=>by
  rw[ml,sJ,ml,sM,←dE,←Rp b n (a++b)]
  congr 1
  simp
theorem ah.times(r:ah xs us):∀n:Nat,ah (List.replicate n xs).flatten (List.replicate n us).flatten
 |0=>.nil
 |n+1=>by
  rw[ml,sM,ml,sM];exact r.append (ah.times r n)
def qD(K:Fg):R2:=λx y H Q=>∃t a n,x=.ref t/\y=.int n/\bz K H t a/\a≠[]/\-1000000<=n/\n<=1000000/\(a.length:Int)*n<=1000000/\(n=1->Q (.ref t) H)/\(n≠1->∀p,H p=none->Q (.ref p) (aq H p (.tup (dy a n))))
theorem Fj{b:Type}(a:List b):∀n:Nat,(List.replicate n a).flatten.length=n*a.length
 |0=>by simp
 |n+1=>by rw[ml,sM,dq,Fj a n,Nat.succ_mul];lia
theorem vw:di X (binaryOp .Mult) (qD X.K):=by
 intro aW s σ H x y v u Q I r1 r2 h;obtain⟨t,f,n,rfl,rfl,R,Y,lo,S,hz,q1,q2⟩:=h;cases r1;obtain⟨g,rfl⟩:=r2;obtain⟨d,r,⟨o,e,J,m,E⟩,z⟩:=I.tuple R;obtain⟨cls,A,data,w⟩:=o;dsimp only at J E;subst J E;have len:=r.length;have j:d.toArray.isEmpty=false:=by
  cases d with
  |nil=>cases r;exact absurd rfl Y
  |cons a l=>rfl
 have p:∀{C:Value->Shared->Prop},wpAny '#' X.A (call (.builtin "tuple.__mul__") [.ref t,.int n g]) C X.xe s->wpAny '#' X.A (binaryOp .Mult (.ref t) (.int n g)) C X.xe s:=λ{C} hq=>
  wpAny_binaryOp_repeat_ref (T:="tuple") (U:="int") ')' ⟨_,e,rfl⟩ (λs'=>typeIs_int s' n g) Ve F.fills_int_mul F.slot_int_rmul Ky F.slot_int_index.lookup
   (nX F.slot_int_rmul (typeIs_int s n g) F.entry_int_rmul (F.args_int_rmul_2 _ _) (MJ n g t d.toArray m A w) ⟨e,rfl,⟨_,e,rfl⟩,hq⟩)
 refine p ?_;by_cases c:n=1
 ·exact nX yU ⟨_,e,rfl⟩ Oc (Of _ _) (LZ t d.toArray m A w n g c) ⟨e,.ref t,H,I,rfl,q1 c⟩
 have done:∀ q:List Value,ah (dy f n) q->(dy f n).length<=sizeLine->EP X aW σ Q (.ref s.heap.objs.size) { s with heap:=s.heap.push { cls:=.type "tuple",data:=.seq q.toArray } }:=λq rt hl=>
  ⟨.ref s.heap.objs.size,_,I.laid (t':=s.toks) (o:=.tup (dy f n)) (λb ob hb=>bX _ hb) (aY _) ⟨hl,q,rt,IsTup.new s.heap _⟩,rfl,q2 c _ (I.hok.fresh (aY _))⟩
 have i:(dy f n).length=n.toNat*f.length:=Fj f n.toNat;by_cases c2:n<=0
 ·refine nX yU ⟨_,e,rfl⟩ Oc (Of _ _) (NI t d.toArray m A w n g lo c2 j) ⟨e,?_⟩;have G:dy f n=[]:=by unfold dy;rw[show n.toNat=0 by lia];rfl
  exact done [] (by rw[G];exact .nil) (by rw[G];exact ie _)
 ·have a0:n.toNat*f.length<=1000000:=by
   have:((n.toNat*f.length:Nat):Int)=(f.length:Int)*n:=by rw[Int.natCast_mul,Int.toNat_of_nonneg '!',Int.mul_comm]
   lia
  have k:n.toNat*f.length<=sizeLine:=by rw[iC];lia
  have P:List.foldl (λ(x1 x2:Array Value)=>x1++x2) #[] (List.replicate n.toNat d.toArray)=((List.replicate n.toNat d).flatten).toArray:=by
   have:=Rp d n.toNat []
   simpa using this
  have zi:((d.toArray.size:Nat):Int)*n<=1000000:=by rw[dH,←len];exact hz
  refine nX yU ⟨_,e,rfl⟩ Oc (Of _ _) (NH t d.toArray m A w n g '!' S j zi (dj (by rw[iC];lia)) (by rw[P,dH,Fj,←len];exact k)) ⟨e,?_⟩;rw[P];exact done _ (r.times n.toNat) (by rw[i];exact k)
end L2
namespace Dd
open L2 PyProof.Rows
abbrev O7:=oI (λ_ _=>True) λi j=>.int (Builtin.bitOr i j)
def fP(x y:D) (a:aa):bu D:=match x,y with
 |.tup xs,.int n=>if xs≠[]/\-1000000<=n/\n<=1000000/\(xs.length:Int)*n<=1000000 then .ok (.tup (dy xs n)) a else .stuck
 |_,_=>.stuck
theorem ae.times{K:Fg}{a:Loc}{H:Hp}{b:List D}{c:List V}(h:ae K a H b c):∀n:Nat,ae K a H (List.replicate n b).flatten (List.replicate n c).flatten
 |0=>.nil
 |n+1=>by
  rw[ml,sM,ml,sM];exact h.append (ae.times h n)
theorem vr{K:Fg}:iu K fP (qD K):=λk H j x y u v z g Q f a b e q=>by
 unfold fP at e;split at e
 ·rename_i xs n;split at e
  ·rename_i c;cases e;cases b;cases a with
   |tup h1 h2 h3=>
    have i:=h3.length;refine⟨_,_,n,rfl,rfl,bz.of h1,λz=>?_,c.2.1,c.2.2.1,by rw[i];exact c.2.2.2,λz=>?_,λz p d=>?_⟩
    ·subst z;cases h3;exact c.1 rfl
    ·subst z;refine q _ _ _ (.refl _ _) f ?_;have h:dy xs 1=xs:=by simp[dy]
     rw[h];exact .tup h1 h2 h3
    ·exact q _ _ _ (bg.new d _) (f.new d _) (.newT f d (h3.times n.toNat))
  ·cases e
 ·cases e
end Dd
namespace L2
open Spec PyProof.Rows PySem.W
end L2
namespace Dd
open L2 PyProof.Rows
end Dd
namespace L2
open Spec PyProof.Rows
end L2
namespace Dd
open L2 PyProof.Rows
end Dd
namespace Dd
variable {α:Type}
section
variable {motive:List α->Prop}
@[elab_as_elim] theorem AO (us:List α) (a:us.length=0) (h:motive []):motive us:=by rw[List.eq_nil_of_length_eq_zero a];exact h
@[elab_as_elim] theorem pI {n:Nat}(us:List α) (b:us.length=n+1) (h:∀a us,us.length=n->motive (a::us)):motive us:=by
 cases us with
 |nil=>cases b
 |cons a us=>exact h a us (Nat.succ.inj b)
@[elab_as_elim] theorem AN (us:List α) (b:us.length=1) (h:∀a,motive [a]):motive us:=pI us b λa us b=>AO us b (h a)
@[elab_as_elim] theorem pJ (us:List α) (c:us.length=2) (h:∀a b,motive [a,b]):motive us:=pI us c λa us c=>AN us c (h a)
@[elab_as_elim] theorem AM (us:List α) (d:us.length=3) (h:∀a b c,motive [a,b,c]):motive us:=pI us d λa us d=>pJ us d (h a)
@[elab_as_elim] theorem Pa (us:List α) (e:us.length=4) (h:∀a b c d,motive [a,b,c,d]):motive us:=pI us e λa us e=>AM us e (h a)
end
end Dd
namespace Dd
open L2
def fm(s:cq->cq):Nat->cq
 |0=>λ_ _=>.stuck
 |n+1=>s (fm s n)
theorem TN{K:Fg}{N:List Str}(T:ag K x b)(X:K.In h)(G:h.Ns mainGlobals mg)(S:cb N ps (af b))
  (y:∀(kV l o:Value) (r:Option Addr) (c t:Value) (j:List Value),j.length=ps.length->bindArgs (W.fnOf x x (cE b) (bo b) (af b) .none kV l o r c t) ⟨j,[]⟩=pure (ps.zip j)):fG P w K mg base x (k+1) ps (λ_ _=>.stuck):=
 QI T X G S y (λp H Q E g=>by obtain⟨u,n,b,v,i,a,z,e,m,q⟩:=g;exact m) λf c A d s H p Q E C g=>by obtain⟨u,n,b,v,i,a,z,e,m,q⟩:=g;cases e
theorem fG.iter{K:Fg}{L:Nat}(g:fG P w K mg base x L ps (λ_ _=>.stuck))(f:∀F b c v a,s F b c=.ok v a->b.length=ps.length)
  (e:∀F j,L<=j->(∀b c v a,F b c=.ok v a->b.length=ps.length)->fG P w K mg base x j ps F->fG P w K mg base x (j+1) ps (s F)):∀n,fG P w K mg base x (L+n) ps (fm s n):=λn=>by
 have d:∀n,(∀b c v a,fm s n b c=.ok v a->b.length=ps.length)/\fG P w K mg base x (L+n) ps (fm s n):=λn=>by
  induction n with
  |zero=>exact⟨λ_ _ _ _ h=>(by cases h),g⟩
  |succ n ih=>exact⟨f _,e _ _ (fK _ _) ih.1 ih.2⟩
 exact(d n).2
end Dd
namespace L2
open Spec PyProof.Rows
end L2
namespace Dd
open L2 PyProof.Rows
end Dd
namespace L2
open Spec PyProof.Rows
noncomputable def pQ(b:Int) (n:Nat):It where
 go:=λi _=>i<n
 yld:=λi H x a=>a=H/\x=.int (b-i)
 stop:=λi _=>n<=i
theorem Ra(a b:Int):Builtin.Range.rangeSize a b (-1)=((a-b).toNat:Int):=by
 unfold Builtin.Range.rangeSize;rw[if_neg ')'];simp only[C6,yM];split<;>lia
theorem Ul(e:-(2^60)<=a)(d:a<2^60)(f:-(2^60)<=b)(c:b<2^60):Builtin.Range.small a b (-1)=true:=by
 unfold Builtin.Range.small;rw[Ra];simp only[Builtin.Range.rangeFitsLong,iF,NX,qh,me];refine⟨by lia,Or.inr ?_⟩;rw[if_neg ')',iF,decide_eq_true_iff,decide_eq_true_iff];lia
theorem Tt{P:Program}{w:World}{K:Fg}{tg:Expr}(c:Addr)(g:Int)(n:Nat):ir P w K tg (pQ g n) [c] c (λi h=>IsRangeIter h c (g+(i:Nat)*(-1)) ((n:Int)-(i:Nat)) (-1)) where
 mem:=eY.mpr rfl
 obj:=λi h a b d=>by
  cases eY.mp d;exact⟨_,a,λv z=>by cases(show Data.fields _=Data.cell v from z)⟩
 keep:=λi h j a k=>k c (eY.mpr rfl) _ a
 item:=by
  intro X x u A p i R s S H E I m a l;subst x u A;obtain⟨C,G,T,y,r,q⟩:=m c (eY.mpr rfl);refine(Walks.range (prog:=X.prog) (w:=X.w) (I.ok.hd p) c g (-1) n).item i s _ _ l a λv j Q hv f U=>?_
  obtain⟨t,rfl⟩:=hv;have J:Inv X R S H {s with heap:=j,toks:=Q}:=I.turned (λb o d e=>U b o (by simpa using d) e) C G y r q;exact⟨_,rfl,lA (s:={ s with heap:=j,toks:=Q }) (n:="range_iterator") f rfl rfl ')' ⟨.int (g-i),H,J,⟨t,by rw[Int.mul_neg,Int.mul_one]; rfl⟩,⟨rfl,rfl⟩,f,λb d=>(m b d).1⟩⟩
 done:=by
  intro X x u A p i R s S H E I m a l;subst x u A;obtain⟨C,G,T,y,r,q⟩:=m c (eY.mpr rfl);have l:n<=i:=l;exact wpAny_pyNext_range_end (I.ok.hd p) a '!' λj Y=>⟨rfl,I.turned (t':=s.toks) (λb o d e=>Y b o d e) C G y r q⟩
 self:=λ_ _ _ _ _ a h=>wpAny_pyIter_rangeiter a h
def AT(c:TA):TI:=λa H R=>c a H λb H1=>∃i j:Int,b=[.int i,.int j,.int (-1)]/\(-(2^60)<=i/\i<2^60/\-(2^60)<=j/\j<2^60)/\R (pQ i (i-j).toNat) H1
theorem Jk{R:It->Hp->Prop}(I:'&')(h:-(2^60)<=a/\a<2^60/\-(2^60)<=b/\b<2^60)
  (q:R (pQ a (a-b).toNat) H):wpAny '#' X.A (pyIter (.ref s.heap.objs.size)) (PJ X aW σ tg R) E { s with heap:=s.heap.push { cls:=.type "range",data:=.fields #[.int a t,.int b u,.int (-1) v] },toks:=tk }:=by
 refine wpAny_pyIter_range (IsRange.new ..) (Ul h.1 h.2.1 h.2.2.1 h.2.2.2) ?_;have J:Inv X aW σ H { s with heap:=s.heap.push { cls:=.type "range",data:=.fields #[.int a t,.int b u,.int (-1) v] },toks:=tk }:=I.kept λb o e=>bX _ e
 refine⟨_,[_],_,_,H,rfl,J.kept (t':=tk) λb o e=>bX _ e,Tt _ a (a-b).toNat,?_,λc d=>?_,q⟩
 ·show IsRangeIter _ _ (a+((0:Nat):Int)*(-1)) ((((a-b).toNat:Nat):Int)-((0:Nat):Int)) (-1);rw[show a+((0:Nat):Int)*(-1)=a by simp,show(((a-b).toNat:Nat):Int)-((0:Nat):Int)=Builtin.Range.rangeSize a b (-1) by rw[Ra];lia];exact ed _ rfl
 ·cases eY.mp d;exact J.fpOk (aY _) (J.hok.fresh (aY _))
theorem S9(w:Gl X "range")(n:X.mg "range"=none)(v:PA X [a,b,c] ta)(l:starEach [a,b,c] X.env=[(false,eval a X.env),(false,eval b X.env),(false,eval c X.env)]:=by rfl)(d:starEach [b,c] X.env=[(false,eval b X.env),(false,eval c X.env)]:=by rfl):
  PI X tg (.Call (.Name "range" p) [a,b,c] [] pos) (AT ta):=by
 intro u s m H R I h;refine Call_ (l6 I w n boot_range (qy (aZ (v pos u s m H _ I h) λA x r=>?_) (by rw[l,d]) (by rw[d];rfl)));obtain⟨y,H1,o,f,i,j,e,g,q⟩:=r;subst e;cases f with
 |cons f rr=>
  cases rr with
  |cons r2 rr=>
   cases rr with
   |cons r3 rr=>
    cases rr;obtain⟨t,rfl⟩:=f;obtain⟨z,rfl⟩:=r2;obtain⟨k,rfl⟩:=r3;refine call_range_3 ')' (Jk o g q) (Or.inl (PyProof.noPylong_small ?_))
    decide
end L2
namespace Dd
open L2
noncomputable def lI(a:Int) (n:Nat):List D:=(List.range n).map λ(i:Nat)=>D.int (a-i)
def Ph(g:SA):SA:=λd c=>(g d c).bind λb a=>match b with
 |[.int i,.int j,.int k]=>if k=-1/\-(2^60)<=i/\i<2^60/\-(2^60)<=j/\j<2^60 then .ok (lI i (i-j).toNat) a else .stuck
 |_=>.stuck
theorem Qm(h:(lI hi n)[i]?=some x):i<n/\x=.int (hi-i):=by
 unfold lI at h;rw[eU] at h;rcases j8 i n with z|z
 ·rw[List.getElem?_range z] at h;exact⟨z,(fY h).symm⟩
 ·rw[qw (by rw[nZ];exact z)] at h;cases h
theorem Jw{K:Fg}:lZ K ρ H (pQ hi n) (lI hi n) where
 item:=λa H2 x i d e=>by
  obtain⟨b,rfl⟩:=Qm e;refine⟨b,λy H3 c=>?_⟩;obtain⟨rfl,rfl⟩:=c;exact⟨.refl _ _,λ_ r=>⟨r,.int _⟩⟩
 done:=λa H2 x i h=>by
  unfold lI at h;rw[av,nZ] at h;exact h
theorem TY(t:Gl X "range")(r:X.mg "range"=none)(s:JA X [a,b,c] g)(v:starEach [a,b,c] X.env=[(false,eval a X.env),(false,eval b X.env),(false,eval c X.env)]:=by rfl)(h:starEach [b,c] X.env=[(false,eval b X.env),(false,eval c X.env)]:=by rfl):JI X tg (.Call (.Name "range" p) [a,b,c] [] pos) (Ph g):=
 ⟨jr (S9 t r s.out v h) λI H R i=>by
 obtain⟨j,y,l,P,m,a,k,e,q⟩:=i;obtain⟨x,z,n,e⟩:=za e;split at e
 ·split at e
  ·rename_i d;cases e;obtain⟨rfl,d⟩:=d;refine⟨j,y,l,_,_,a,k,n,λo H1 u A f E=>?_⟩;cases E with
   |cons b1 r1=>
    obtain⟨w,J,rfl,G,C⟩:=r1.two;cases b1;cases G;cases C;exact⟨_,_,rfl,d,q _ _ _ A f Jw⟩
  ·cases e
 ·cases e⟩
end Dd
namespace Dd
open L2 PyProof.Rows
def kR(f:SE) (g:SA):SE:=λc d=>(f c d).bind λx b=>match x with
 |.ref n=>match b[n]? with
  |some (.lst _)=>(g c b).bind λe a=>match e,a[n]? with
   |[.int 0],some (.lst (y::zs))=>.ok y (a.set n (.lst zs))
   |_,_=>.stuck
  |_=>.stuck
 |_=>.stuck
theorem I0{c:Pos}(ho:JE X o f)(ha:JA X (e::es) ga)(g:attributeBase o "pop" X.env (eval o X.env)=eval o X.env:=by rfl)
  (m:((backTo cpos (starEach (e::es) X.env)).all (λx=>!x.1)&&(backToKw cpos (keywordEach [] X.env)).all (λx=>x.1.isSome)
   && decide ((e::es).length+([]:List Keyword).length+(if([]:List Keyword).isEmpty then 0 else 1)<30))=true:=by rfl)
  (d:(c.endLine==cpos.line)=true:=by rfl)(hs:starEach (e::es) X.env=(false,eval e X.env)::starEach es X.env:=by rfl)(b:(backTo cpos (starEach es X.env)).any (·.1)=false:=by rfl):
  JE X (.Call (.Attribute o "pop" c) (e::es) [] cpos) (kR f ga):=⟨fg (mF DP F.slot_list_pop F.type_list_pop LY ho.out ha.out g m d hs b) λτ H Q S=>by
 obtain⟨T,G,Y,v,a0,a,U,e,q⟩:=S;obtain⟨x,i,e1,e⟩:=za e;refine⟨T,G,Y,x,i,a,U,e1,λt H1 u I h J=>?_⟩;split at e
 ·split at e
  ·rename_i n _ xs hn;obtain⟨ys,s,e2,e⟩:=za e;obtain⟨p,rfl,hp,a4,k1,k2⟩:=gJ h J hn (by intro z;cases z);refine⟨.inl ⟨rfl,_,da.of k1⟩,t,G,i,ys,s,a.ext I,h,e2,λj H2 C P k a2=>?_⟩;split at e
   ·rename_i y zs A;cases e;obtain⟨w,rfl,a3⟩:=a2.one;cases a3;obtain⟨p',ep,l,R,r,m2⟩:=gJ k (J.ext P) A (by intro z;cases z);cases ep;cases m2 with
    |cons b1 b2=>
     rename_i w C;have E:bg j H2 j (aq H2 p (.lst C)):=bg.wr l (nU r) _;exact⟨p,_,0,0,w,rfl,rfl,r,by decide,by decide,by simp[seqIndex?],rfl,q _ _ _ ((I.trans P).trans E) (k.wr l (nU r) ⟨_,zu,b2.ext E⟩) (b1.ext E)⟩
   ·cases e
  ·cases e
 ·cases e⟩
end Dd
namespace L2
open Spec PyProof.Rows
theorem R1{a b:Type}{f:a->Option b}{g:a->b}:∀{l:List a},(∀x∈l,f x=some (g x))->l.filterMap f=l.map g
 |[],_=>rfl
 |x::l,h=>by
  rw[DB,h x eF,bP,R1 λy c=>h y (cH _ c)]
theorem Q5(a:Array Value):slicePick a none none (some (-1))=a.toList.reverse.toArray:=by
 have e:sliceRange (sliceBounds none none (some (-1)) a.size).1 (sliceBounds none none (some (-1)) a.size).2.1 (sliceBounds none none (some (-1)) a.size).2.2=(List.range a.size).map λk=>a.size-1-k:=by
  unfold sliceRange sliceBounds;simp only[uI,show ¬ ((-1:Int) > 0) by decide,iB];have d:(if(a.size:Int)-1 > -1 then((a.size:Int)-1 - -1 - -1-1) / - -1 else 0).toNat=a.size:=by
   rw[C6,yM];split<;>lia
  rw[d];refine mo λk c=>?_
  have:=bO.mp c;lia
 unfold slicePick;rw[e,Ol]
 congr 1
 cases hz:a.size with
 |zero=>
  have:a.toList=[]:=DQ.mp (by rw[gm];exact hz);rw[this]
  rfl
 |succ n=>
  have b:∀k,a.size-1-k<a.size:=λk=>by lia
  rw[R1 (g:=λk=>a[a.size-1-k]'(b k)) λk _=>by
   show a[n+1-1-k]?=_;rw[←hz]
   exact getElem?_pos a _ (b k)]
  refine N6 (by simp[hz]) λi h f=>?_
  rw[N5,List.getElem_range,List.getElem_reverse];simp
def zO(K:Fg) (d e:TE):TE:=λc H Q=>d c H λx H1=>e c H1 λy H2=>∃a b,x=.ref a/\y=.int (-1)/\da K H2 a b/\∀p,H2 p=none->Q (.ref p) (aq H2 p (.lst b.reverse))
theorem Cw:∀{c:List V}{d:List Value},ah c d->ah c.reverse d.reverse
 |[],_,h=>by cases h;exact .nil
 |x::c,_,h=>by
  cases h with
  |cons a b=>rw[nY,nY];exact(Cw b).append (.cons a .nil)
theorem Kb(G:PE X e te)(z:PE X es ts):PE X (.Subscript e (.Slice none none (some es) p2) pos) (zO X.K te ts):=by
 intro f s g H Q I h;refine Subscript_ (aZ (G f s g H _ I h) λv m d=>?_);obtain⟨x,H1,A,w,t⟩:=d;refine wpAny_Slice ?_;rw[Da,evalPart_some];refine am (am (aZ (z f m g H1 _ A t) λR c d=>?_));obtain⟨y,H3,u,n,a,J,rfl,rfl,P,q⟩:=d;obtain⟨k,rfl⟩:=n;cases w;have i:Inv X f g H3 { c with heap:=c.heap.push { cls:=.type "slice",data:=.fields #[.none,.none,.int (-1) k] } }:=u.kept (t':=c.toks) λb E q=>bX _ q
 obtain⟨C,r,j,p⟩:=i.list P;have l:=r.length;refine tail_any (ops:=[.ref a,.ref c.heap.objs.size]) j.isList.typeIs N9.lookup ?_ (by with_unfolding_all rfl);refine wpAny_getItem_list_slice j.isList (Oj ..) .none .none (.int (-1) k) '%' ?_ (by rw[dH]<;>lia);rw[Q5];refine⟨.ref _,_,i.laid (t':=c.toks) (o:=.lst J.reverse) (λb E q=>bX _ q) (aY _) ?_,rfl,q _ (i.hok.fresh (aY _))⟩;exact⟨by rw[qt];exact p,_,0,Cw r,ed _ rfl⟩
end L2
namespace Dd
open L2
theorem ae.rev{K:Fg}:∀{c:List D}{e:List V},ae K ρ H c e->ae K ρ H c.reverse e.reverse
 |[],_,h=>by cases h;exact .nil
 |d::c,_,h=>by
  cases h with
  |cons a b=>rw[nY,nY];exact(ae.rev b).append (.cons a .nil)
end Dd
namespace L2
open Spec PyProof.Rows
theorem UQ{s:Shared}{n:Nat}(e:s.heap.IsSliceOf sl .none .none (.int (-1) tk))(h:Q ((n:Int)-1,-1,n) s):wpAny '*' A (Builtin.Slice.sliceApplied (.ref sl) (pure (n:Int))) Q E s:=by
 obtain⟨os,b,f,a⟩:=id e;unfold Builtin.Slice.sliceApplied Builtin.Slice.sliceFields;refine ab (ab (iV b a (x:=.none) rfl (ab (iV b a (x:=.none) rfl (ab (iV b a (x:=.int (-1) tk) rfl (am ?_)))))));refine ab (HT.vU (.int (-1) tk) ?_);show wpAny _ _ (if((-1:Int)==0)=true then _ else _) _ _ s;rw[if_neg ')'];refine ab (HT.vU .none (ab (HT.vU .none (ab (am ?_)))));show wpAny _ _ (match Builtin.Slice.sliceAdjust none none (-1) (n:Int) with|(lo,c)=>pure (lo,(-1:Int),Builtin.Slice.slicePlaces lo c (-1))) _ _ s;have g:Builtin.Slice.sliceAdjust none none (-1) (n:Int)=((n:Int)-1,-1):=by
  unfold Builtin.Slice.sliceAdjust;simp
 have d:Builtin.Slice.slicePlaces ((n:Int)-1) (-1) (-1)=n:=by
  unfold Builtin.Slice.slicePlaces;simp only[show ¬ ((-1:Int) > 0) by decide,iB,C6,yM];split<;>lia
 rw[g];show wpAny _ _ (pure ((n:Int)-1,(-1:Int),Builtin.Slice.slicePlaces ((n:Int)-1) (-1) (-1))) _ _ s;rw[d];exact am h
theorem MM(a:Array Value):((List.range a.size).filterMap λ(m:Nat)=>a[((a.size:Int)-1+(m:Int)*(-1)).toNat]?).toArray=a.toList.reverse.toArray:=by
 rw[←Q5];unfold slicePick;have e:sliceRange (sliceBounds none none (some (-1)) a.size).1 (sliceBounds none none (some (-1)) a.size).2.1 (sliceBounds none none (some (-1)) a.size).2.2=(List.range a.size).map λk:Nat=>((a.size:Int)-1+(k:Int)*(-1)).toNat:=by
  unfold sliceRange sliceBounds;simp only[uI,show ¬ ((-1:Int) > 0) by decide,iB];have b:(if(a.size:Int)-1 > -1 then((a.size:Int)-1 - -1 - -1-1) / - -1 else 0).toNat=a.size:=by
   rw[C6,yM];split<;>lia
  rw[b];refine mo λk c=>?_
  lia
 rw[e,Ol]
 rfl
theorem VJ{s:Shared}(b:IsTup s.heap t items)(i:s.heap.IsSliceOf sl .none .none (.int (-1) tk))
  (h:Q (.ref s.heap.objs.size) { s with heap:=s.heap.push { cls:=.type "tuple",data:=.seq items.toList.reverse.toArray } })
  (f:items.size<=sizeLine):wpAny '*' A (getItem (.ref t) (.ref sl)) Q E s:=by
 have a:sizeOk (.seq items.toList.reverse.toArray):=by
  show items.toList.reverse.toArray.size<=sizeLine;rw[dH,qt,gm];exact f
 obtain⟨os,g,d,j⟩:=id i;have e:s.TypeIs (.ref sl) "slice":=⟨os,g,d⟩
 unfold getItem
 try with_reducible refine jj ?_
 first|refine ab (am ?_)|skip
 refine ab (Oa b.typeIs ')' ?_)
 refine ab (wpAny_callSpecial?_slot (name:=Str.ofString "__getitem__") b.typeIs u6
  (kD u6 b.typeIs PyProof.Rows.entry_tuple_getitem ?_ (PyProof.Rows.args_tuple_getitem _ _)))
 show wpAny _ _ (Builtin.Tuple.tupleItemsOf (.ref t) >>= _) _ _ s;refine ab (PyProof.Rows.tupleItemsOf_ b ?_);refine ab (uC e ?_);rw[if_pos ')'];refine ab (UQ i ?_);have c:¬ ((((items.size:Int)-1)==0&&(-1:Int)==1&&items.size==items.size)=true):=by
  intro q;rw[iF,iF] at q;exact absurd (eq_of_beq q.1.2) ')'
 show wpAny _ _ (if(((items.size:Int)-1)==0&&(-1:Int)==1&&items.size==items.size)=true then _ else _) _ _ s;rw[if_neg c,MM]
 first
  |exact ab (m:=Builtin.Tuple.tupleExact _) (jt (am ⟨_,rfl,am h⟩) a)
  |exact ab (m:=Builtin.Tuple.tupleExact _) (jt (ab (am (am ⟨_,rfl,am h⟩))) a)
  |exact ab (ab (m:=Builtin.Tuple.tupleExact _) (jt (am (am ⟨_,rfl,am h⟩)) a))
  |exact ab (ab (m:=Builtin.Tuple.tupleExact _) (jt (am ⟨_,rfl,am h⟩) a))
def tm(K:Fg) (d e:TE):TE:=λc H Q=>d c H λx H1=>e c H1 λy H2=>∃a b,x=.ref a/\y=.int (-1)/\bz K H2 a b/\∀p,H2 p=none->Q (.ref p) (aq H2 p (.tup b.reverse))
theorem Mi(G:PE X e te)(z:PE X es ts):PE X (.Subscript e (.Slice none none (some es) p2) pos) (tm X.K te ts):=by
 intro f s g H Q I h;refine Subscript_ (aZ (G f s g H _ I h) λv l d=>?_);obtain⟨x,H1,A,w,t⟩:=d;refine wpAny_Slice ?_;rw[Da,evalPart_some];refine am (am (aZ (z f l g H1 _ A t) λR c d=>?_));obtain⟨y,H3,u,m,a,J,rfl,rfl,P,q⟩:=d;obtain⟨n,rfl⟩:=m;cases w;have i:Inv X f g H3 { c with heap:=c.heap.push { cls:=.type "slice",data:=.fields #[.none,.none,.int (-1) n] } }:=u.kept (t':=c.toks) λb E q=>bX _ q
 obtain⟨C,r,j,p⟩:=i.tuple P;have k:=r.length;refine tail_any (ops:=[.ref a,.ref c.heap.objs.size]) j.typeIs u6.lookup ?_ (by with_unfolding_all rfl);refine VJ j (Oj ..) ?_ (by rw[dH]<;>lia);refine⟨.ref _,_,i.laid (t':=c.toks) (o:=.tup J.reverse) (λb E q=>bX _ q) (aY _) ?_,rfl,q _ (i.hok.fresh (aY _))⟩;exact⟨by rw[qt];exact p,_,Cw r,⟨_,ed _ rfl,rfl,_,rfl⟩⟩
theorem NR(h:PE X e t)(c:PE X e t'):PE X e (λa H Q=>t a H Q\/t' a H Q):=λb s a H Q I q=>by
 rcases q with q|q
 ·exact h b s a H Q I q
 ·exact c b s a H Q I q
end L2
namespace Dd
open L2
def iL(f g:SE):SE:=λc d=>(f c d).bind λx b=>(g c b).bind λy a=>match y with
 |.int (-1)=>match x with
  |.tup xs=>.ok (.tup xs.reverse) a
  |x=>match eI a x with
   |some xs=>.ok (.lst xs.reverse) a
   |none=>.stuck
 |_=>.stuck
theorem xP(C:JE X e f)(A:JE X es g):JE X (.Subscript e (.Slice none none (some es) p2) pos) (iL f g):=⟨fg (NR (Kb C.out A.out) (Mi C.out A.out)) λU H Q I=>by
 obtain⟨r,l,t,v,P,a,s,e,q⟩:=I;obtain⟨x,c,z,e⟩:=za e;obtain⟨y,G,E,e⟩:=za e;split at e
 ·split at e
  ·cases e;refine .inr ⟨r,l,t,_,c,a,s,z,λi H1 u j h n=>?_⟩;refine⟨i,l,c,_,_,a.ext j,h,E,λo H2 w k b m=>?_⟩;cases m;cases n.ext k with
   |tup h1 h2 h3=>exact⟨_,_,rfl,rfl,bz.of h1,λp d=>q _ _ _ ((j.trans k).trans (bg.new d _)) (b.new d _) (.newT b d h3.rev)⟩
  ·split at e
   ·rename_i Y S;cases e;refine .inl ⟨r,l,t,x,c,a,s,z,λi H1 u j h n=>?_⟩;refine⟨i,l,c,_,_,a.ext j,h,E,λo H2 w k b m=>?_⟩;cases m;obtain⟨p,T,rfl,R,J⟩:=k9 b (n.ext k) S;exact⟨_,_,rfl,rfl,da.of R,λp d=>q _ _ _ ((j.trans k).trans (bg.new d _)) (b.new d _) (.newL b d J.rev)⟩
   ·cases e
 ·cases e⟩
end Dd
namespace L2
open Spec PyProof.Rows
end L2
namespace Dd
open L2
end Dd
namespace L2
open Spec PyProof.Rows
end L2
namespace L2
namespace St
end St
end L2
namespace L2
open PySem.W PyProof.Rows Spec
namespace St
end St
end L2
namespace L2
open Spec PyProof.Rows PySem.W
end L2
namespace Dd
open L2 PyProof.Rows
end Dd
namespace L2
open Spec PyProof.Rows PySem.W
noncomputable def k7(i j:Int):Prop:=PySem.Builtin.Int.intBits i<=60000/\PySem.Builtin.Int.intBits j<=60000
theorem Ey:di X (binaryOp .Mult) (rI k7 λi j=>.int (i*j)):=tG λ_ _ _ _ _ _ _ a q=>mul_int q (.of_le a.1 a.2 ')')
end L2
namespace Dd
open L2 PyProof.Rows
instance instCMulW:DecidableRel k7:=λi j=>by unfold k7;infer_instance
abbrev nj:=oI k7 λi j=>.int (i*j)
end Dd
namespace L2
open Spec PyProof.Rows
end L2
namespace Dd
open L2 PyProof.Rows
end Dd
namespace L2
open Spec PyProof.Rows
end L2
namespace Dd
open L2 PyProof.Rows
end Dd
namespace L2
open Spec PyProof.Rows
end L2
namespace Dd
open L2 PyProof.Rows
end Dd
namespace L2
open Spec PyProof.Rows
end L2
namespace L2
open Spec PyProof.Rows Builtin Builtin.ObjectAttr
end L2
namespace L2
open Spec PyProof.Rows
end L2
namespace Dd
open L2 PyProof.Rows
end Dd
namespace L2
open Spec PyProof.Rows
end L2
namespace Dd
open L2 PyProof.Rows
end Dd
namespace L2
open Spec PyProof.Rows
end L2
namespace Dd
open L2 PyProof.Rows
end Dd
namespace L2
open Spec PyProof.Rows
end L2
namespace Dd
open L2 PyProof.Rows
end Dd
namespace L2
open Spec PyProof.Rows
def zV(_K:Fg):V->List V->Hp->VK->Prop:=λx c H Q=>∃(a:Addr) (k:cG) (v:V) (b:List (cG×V)),x=.ref a/\c=[kV k,v]/\H a=some (.dK b)/\b.length<sizeLine /\
 (∀u,cr b k=some u->Q u H)/\(cr b k=none->Q v (aq H a (.dK (et b k v))))
theorem JR: BK X "dict.setdefault" (zV X.K):=by
 intro Y s σ H x xs v U Q I E P h;obtain⟨a,k,d,b,rfl,rfl,e,hl,C,t⟩:=h;cases E;obtain⟨u,r,rfl,T,m⟩:=vals2 P;obtain⟨z,n,l,f,o⟩:=rF I.hok e;have p:l.length<=sizeLine:=by rw[←f.length];exact z
 have j:(et b k d).length<=sizeLine:=by have:=Fv b k d;lia
 refine uB SH o.typeIs F.entry_dict_setdefault (F.args_dict_setdefault_3 _ _ _) (kt_meets_setdefault (ay X.prog X.w) a (j3 T) n r) ⟨l,o,p,λw G=>?_,λS A i J=>?_⟩
 ·have c:=f.val k;rw[G] at c;cases g:cr b k with
  |none=>rw[g] at c;exact c.elim
  |some y=>rw[g] at c;exact⟨y,H,I.tok _,c,C y g⟩
 ·have g:cr b k=none:=by
   have c:=f.val k;rw[S] at c;cases g:cr b k with
   |none=>rfl
   |some y=>rw[g] at c;exact c.elim
  have R:∃q,A.get? a=some q:=let ⟨q,_,_,hq,_⟩:=i;⟨q,hq⟩
  exact⟨d,_,vp I (by rw[e];exact True.intro) J R (rT j n (f.put k m) i),m,t g⟩
def m9(d:List V) (H:Hp) (Q:VK):Prop:=∃(a:Addr) (n:Int) (c:List Int) (b:List (cG×V)),d=[.ref a]/\Rd H a (.dK b)/\b.map (·.1)=(n::c).map Sum.inl/\Q (.int (cL true n c)) H
theorem TR{X:Cx}(U:X.calm=true):bF X (.builtin "max") m9:=by
 intro aW s σ H xs us Q I r h;obtain⟨a,n,f,l,rfl,e,ek,q⟩:=h;obtain⟨u,rfl,ru⟩:=vals1 r;cases ru;obtain⟨z,hd,c,G,dd⟩:=j0 I.hok e;obtain⟨ep,R⟩:∃ep,s.heap.DictAt (ay X.prog X.w) a c ep:=by
  obtain⟨o,Y,ep,h⟩:=dd;exact⟨ep,o,Y,h⟩
 obtain⟨oI,St,j,W,au⟩:=(W.kdl_dict (prog:=X.prog) (w:=X.w) (knd:=ay X.prog X.w) (kvs:=c) (ep:=ep) hd).iter X.A.in1 s (I.ok.hd U) R;have J:c.map (·.1)=(n::f).map Sum.inl:=G.keys.symm.trans ek;have g:c.length=(n::f).length:=by have:=congrArg List.length J;simpa using this
 have d:∀i v,(∃k x,c[i]?=some (k,x)/\(ay X.prog X.w).is k v=true)->∃t,v=.int ((n::f).getD i 0) t:=λi v A=>by
  obtain⟨k,x,S,E⟩:=A;have P:(c.map (·.1))[i]?=some k:=by rw[eU,S];rfl
  rw[J,eU] at P;obtain⟨y,hy,rfl⟩:=gQ.mp P;rw[dM,hy];rcases nV (show hD (Sum.inl y) v=true from E) with⟨i,t,p,rfl⟩|⟨x,t,p,rfl⟩
  ·cases p;exact⟨t,rfl⟩
  ·cases p
 have C:a<s.heap.objs.size:=R.lt_size;refine call_max_walk (j _ _ ⟨s.heap.objs.size,_,_,_,_,St,_,rfl,W,au,λb hb=>?_,by rw[g];simp,CmpOf.ints_gt (λi=>(n::f).getD i 0) d,λv h' T hP E=>?_⟩)
 ·rw[o5];have m:b=s.heap.objs.size\/b=a:=by simpa using hb
  rcases m with z|z
  ·rw[z];exact yV _
  ·rw[z];exact Dr C
 ·obtain⟨t,rfl⟩:=d _ _ hP;rw[g,TL '%'];exact⟨.int (cL true n f),H,I.kept (t':=T) λb u e=>E b u (by simp;exact dY (cJ e)) (bX _ e),⟨_,rfl⟩,q⟩
def zW(_K:Fg):V->List V->Hp->VK->Prop:=λx c H Q=>∃(a:Addr) (k:cG) (v:V) (b:List (cG×V)),x=.ref a/\c=[kV k]/\H a=some (.dK b)/\cr b k=some v/\Q v (aq H a (.dK (dB b k)))
theorem JQ: BK X "dict.pop" (zW X.K):=by
 intro p s m H x j v o Q I b g h;obtain⟨a,k,d,c,rfl,rfl,e,l,q⟩:=h;cases b;obtain⟨u,rfl,i⟩:=g.one;exact rE I e i l (.inl rfl) λn t f r=>⟨d,_,f,r,q⟩
end L2
namespace Dd
open L2 PyProof.Rows
noncomputable def eK(a:List (Int×D)) (k:Int):Option D:=(a.find? λb=>decide (b.1=k)).map (·.2)
noncomputable def lK(a:List (Int×D)) (k:Int) (v:D):List (Int×D):=
 if(a.any λb=>decide (b.1=k))=true then a.map (λb=>if b.1=k then(b.1,v) else b) else a++[(k,v)]
noncomputable def iM(a:List (Int×D)) (k:Int):List (Int×D):=a.filter λb=>decide (b.1≠k)
theorem tH:(Sum.inl a:cG)=Sum.inl b↔a=b:=⟨λe=>Sum.inl.inj e,λe=>by rw[e]⟩
section
variable {K:Fg}{ρ:Loc}{H:Hp}{kvs:List (Int×D)}{vs:List (cG×V)}
theorem eE.val(h:eE K ρ H kvs vs)(k:Int):match eK kvs k with
  |some d=>∃v,cr vs (Sum.inl k)=some v/\At K ρ H d v
  |none=>cr vs (Sum.inl k)=none:=by
 induction h with
 |nil=>rfl
 |@cons p q ps qs h t ih=>
  obtain⟨b,f⟩:=h;by_cases e:p.1=k
  ·have a:eK (p::ps) k=some p.2:=by simp[eK,mh,e]
   rw[a];exact⟨q.2,vG (by rw[b,e]),f⟩
  ·have a:eK (p::ps) k=eK ps k:=by simp[eK,mh,e]
   have c:cr (q::qs) (Sum.inl k)=cr qs (Sum.inl k):=vF (by rw[b,tH];exact e);rw[a,c];exact ih
theorem eE.keys(h:eE K ρ H kvs vs):vs.map (·.1)=(kvs.map (·.1)).map Sum.inl:=by
 induction h with
 |nil=>rfl
 |@cons p q ps qs h t ih=>rw[bP,bP,bP,ih,h.1]
theorem eE.put(h:eE K ρ H kvs vs)(k:Int){d:D}{v:V}(a:At K ρ H d v):eE K ρ H (lK kvs k d) (et vs (Sum.inl k) v):=by
 have any:∀{kvs:List (Int×D)}{vs:List (cG×V)},eE K ρ H kvs vs->(kvs.any λc=>decide (c.1=k))=(vs.any λc=>decide (c.1=Sum.inl k)):=λh=>by
  induction h with
  |nil=>rfl
  |@cons p q ps qs h t ih=>
   rw[sB,sB,ih,h.1]
   congr 1
   simp only[tH]
 unfold lK et;rw[any h];split
 ·rename_i g;clear g any
  induction h with
  |nil=>exact .nil
  |@cons p q ps qs h t ih=>
   refine .cons ?_ ih;obtain⟨b,i⟩:=h;dsimp only;by_cases e:p.1=k
   ·rw[if_pos e,if_pos (by rw[b,e])];exact⟨b,a⟩
   ·rw[if_neg e,if_neg (by rw[b,tH];exact e)];exact⟨b,i⟩
 ·have f:∀{kvs:List (Int×D)}{vs:List (cG×V)},eE K ρ H kvs vs->eE K ρ H (kvs++[(k,d)]) (vs++[(Sum.inl k,v)]):=λh=>by
   induction h with
   |nil=>exact .cons ⟨rfl,a⟩ .nil
   |cons h t ih=>exact .cons h ih
  exact f h
theorem eE.drop(h:eE K ρ H kvs vs)(k:Int):eE K ρ H (iM kvs k) (dB vs (Sum.inl k)):=by
 unfold iM dB
 induction h with
 |nil=>exact .nil
 |@cons p q ps qs h t ih=>
  by_cases e:p.1=k
  ·rw[mU (by simp[e]),mU (by simp[h.1,e])];exact ih
  ·rw[mT (by simp[e]),mT (by simp[h.1,e])];exact .cons h ih
theorem eE.length(h:eE K ρ H kvs vs):kvs.length=vs.length:=sC h
end
section
variable {H:Hp}{vs:List (cG×V)}
theorem B1{p:Addr}(g:H p=some (.dK vs)):∀a u,H p≠some (.frz a u):=λa u z=>by rw[g] at z;cases z
end
def i9:SE:=λ_ a=>.ok (.ref a.length) (a++[.dI []])
def kS(f:SE) (g:SA):SE:=λc d=>(f c d).bind λx b=>match x with
 |.ref n=>match b[n]? with
  |some (.dI _)=>(g c b).bind λe a=>match e,a[n]? with
   |[.int k],some (.dI kvs)=>match eK kvs k with
    |some v=>.ok v (a.set n (.dI (iM kvs k)))
    |none=>.stuck
   |_,_=>.stuck
  |_=>.stuck
 |_=>.stuck
def gi(f:SE) (g:SA):SE:=λc e=>(f c e).bind λx b=>match x with
 |.ref n=>match b[n]? with
  |some (.dI _)=>(g c b).bind λh a=>match h,a[n]? with
   |[.int k,d],some (.dI kvs)=>if kvs.length<sizeLine then(match eK kvs k with
    |some v=>.ok v a
    |none=>.ok d (a.set n (.dI (lK kvs k d)))) else .stuck
   |_,_=>.stuck
  |_=>.stuck
 |_=>.stuck
def hU:List D->aa->bu D:=λb a=>match b with
 |[.ref n]=>match a[n]? with
  |some (.dI kvs)=>match kvs.map (·.1) with
   |k::ks=>.ok (.int (cL true k ks)) a
   |[]=>.stuck
  |_=>.stuck
 |_=>.stuck
def jF(f:SE):ST:=λc b=>(f c b).bind λv a=>match v with
 |.ref n=>match a[n]? with
  |some (.dI kvs)=>.ok (!kvs.isEmpty) a
  |_=>.stuck
 |_=>.stuck
theorem Lf:JE X (.Dict [] [] pos) i9:=⟨fg Mm λg H Q b p f=>by
 obtain⟨j,i,h,v,d,a,c,e,q⟩:=b;cases e;obtain⟨E,R⟩:=c.alloc f (x:=.dI []) (o:=.dK []) λE=>⟨[],zu,.nil⟩
 exact q _ _ _ E R (.last c.len.symm)⟩
section
variable {X:Cx}{o:Expr}{e:Expr}{a:Expr}{es:List Expr}{f:SE}{ga:SA}{apos:Pos}{cpos:Pos}
theorem IZ(ho:JE X o f)(ha:JA X (e::es) ga)(d:attributeBase o "pop" X.env (eval o X.env)=eval o X.env:=by rfl)
  (j:((backTo cpos (starEach (e::es) X.env)).all (λx=>!x.1)&&(backToKw cpos (keywordEach [] X.env)).all (λx=>x.1.isSome)
   && decide ((e::es).length+([]:List Keyword).length+(if([]:List Keyword).isEmpty then 0 else 1)<30))=true:=by rfl)
  (c:(apos.endLine==cpos.line)=true:=by rfl)(hs:starEach (e::es) X.env=(false,eval e X.env)::starEach es X.env:=by rfl)(b:(backTo cpos (starEach es X.env)).any (·.1)=false:=by rfl):
  JE X (.Call (.Attribute o "pop" apos) (e::es) [] cpos) (kS f ga):=⟨fg (mF DV DH F.type_dict_pop JQ ho.out ha.out d j c hs b) λτ H Q t=>by
 obtain⟨U,I,au,v,a0,a,Y,e,q⟩:=t;obtain⟨x,h,e1,e⟩:=za e;refine⟨U,I,au,x,h,a,Y,e1,λs H1 u J g P=>?_⟩;split at e
 ·rename_i n;split at e
  ·rename_i a5 h0;obtain⟨p,rfl,hp,a4,g0,_⟩:=gJ g P h0 (by intro z;cases z);obtain⟨ys,r,e2,e⟩:=za e;refine⟨.inr (.inr (.inl ⟨rfl,.inl ⟨_,g0⟩⟩)),s,I,h,ys,r,a.ext J,g,e2,λl H2 ws R m a2=>?_⟩;split at e
   ·rename_i k T hn;split at e
    ·rename_i z hv;cases e;obtain⟨w,rfl,a3⟩:=a2.one;cases a3;obtain⟨p',ep,i,A,y,C⟩:=gJ m (P.ext R) hn (by intro z;cases z);cases ep;have G:=C.val k;rw[hv] at G;obtain⟨S,g5,g6⟩:=G;have E:bg l H2 l (aq H2 p (.dK (dB A (Sum.inl k)))):=bg.wr i (B1 y) _;exact⟨p,Sum.inl k,S,A,rfl,rfl,y,g5,q _ _ _ ((J.trans R).trans E) (m.wr i (B1 y) ⟨_,zu,(C.drop k).ext E⟩) (g6.ext E)⟩
    ·cases e
   ·cases e
  ·cases e
 ·cases e⟩
theorem Lh(ho:JE X o f)(ha:JA X (e::es) ga)(h:attributeBase o "setdefault" X.env (eval o X.env)=eval o X.env:=by rfl)
  (t:((backTo cpos (starEach (e::es) X.env)).all (λx=>!x.1)&&(backToKw cpos (keywordEach [] X.env)).all (λx=>x.1.isSome)
   && decide ((e::es).length+([]:List Keyword).length+(if([]:List Keyword).isEmpty then 0 else 1)<30))=true:=by rfl)
  (c:(apos.endLine==cpos.line)=true:=by rfl)(hs:starEach (e::es) X.env=(false,eval e X.env)::starEach es X.env:=by rfl)(b:(backTo cpos (starEach es X.env)).any (·.1)=false:=by rfl):
  JE X (.Call (.Attribute o "setdefault" apos) (e::es) [] cpos) (gi f ga):=⟨fg (mF DV SH F.type_dict_setdefault JR ho.out ha.out h t c hs b) λτ H Q S=>by
 obtain⟨ρ,σ,au,v,a5,a,rp,e,q⟩:=S;obtain⟨x,r,e1,e⟩:=za e;refine⟨ρ,σ,au,x,r,a,rp,e1,λR H1 u U m a1=>?_⟩;split at e
 ·rename_i n;split at e
  ·rename_i a7 h0;obtain⟨p,rfl,hp,a6,g0,_⟩:=gJ m a1 h0 (by intro z;cases z);obtain⟨ys,I,e2,e⟩:=za e;refine⟨.inr (.inr (.inl ⟨rfl,.inl ⟨_,g0⟩⟩)),R,σ,r,ys,I,a.ext U,m,e2,λC H2 ws Y i a2=>?_⟩;split at e
   ·rename_i k d a0 hn;split at e
    ·rename_i A;obtain⟨w,w2,rfl,a3,a4⟩:=a2.two;cases a3;obtain⟨p',ep,s,G,T,P⟩:=gJ i (a1.ext Y) hn (by intro z;cases z);cases ep;have j:=P.val k;refine⟨p,Sum.inl k,w2,G,rfl,rfl,T,by rw[←P.length];exact A,λy g=>?_,λg=>?_⟩
     ·split at e
      ·rename_i z l;cases e;rw[l] at j;obtain⟨vv,J,g6⟩:=j;rw[J] at g;cases g;exact q _ _ _ (U.trans Y) i g6
      ·rename_i l;rw[l] at j;rw[show cr G (Sum.inl k)=none from j] at g;cases g
     ·split at e
      ·rename_i z l;rw[l] at j;obtain⟨vv,J,g6⟩:=j;rw[J] at g;cases g
      ·rename_i l;cases e;have E:bg C H2 C (aq H2 p (.dK (et G (Sum.inl k) w2))):=bg.wr s (B1 T) _;exact q _ _ _ ((U.trans Y).trans E) (i.wr s (B1 T) ⟨_,zu,(P.put k a4).ext E⟩) (a4.ext E)
    ·cases e
   ·cases e
  ·cases e
 ·cases e⟩
end
section
variable {e:Expr}{a:Expr}
theorem IM{K:Fg}:jL K hU m9:=λv H r o s z i Q b g e q=>by
 unfold hU at e;split at e
 ·split at e
  ·rename_i n l j;split at e
   ·rename_i k m h;cases e;obtain⟨u,rfl,a⟩:=g.one;obtain⟨p,rfl,t,d,c,f⟩:=gJ b a j (by intro z;cases z);exact⟨p,k,m,d,rfl,.inl c,by rw[f.keys,h],q _ _ _ (.refl _ _) b (.int _)⟩
   ·cases e
  ·cases e
 ·cases e
end
section
variable {X:Cx}{e:Expr}{a:Expr}{f:SE}
theorem Lz(h:JE X a f)(I:∀b,isTrue a X.env b=(do let v ←b;standAt a.pos;holding [v] (truthy v)):=by intro _;rfl):JT X a (jF f):=⟨j6 (Qi h.out I) λP H Q i=>by
 obtain⟨l,C,s,v,t,j,m,e,q⟩:=i;obtain⟨x,k,w,e⟩:=za e;refine⟨l,C,s,x,k,j,m,w,λy H1 u E d G=>?_⟩;split at e
 ·rename_i n;split at e
  ·rename_i c J;cases e;obtain⟨p,rfl,R,g,A,o⟩:=gJ d G J (by intro z;cases z);have r:c.isEmpty=g.isEmpty:=by
    have:=o.length;cases c<;>cases g<;>simp at this ⊢
   exact⟨_,.inr (.inr ⟨g,A,by rw[r]⟩),q _ _ E d⟩
  ·cases e
 ·cases e⟩
end
end Dd
namespace L2
open Spec PyProof.Rows
end L2
namespace Dd
open L2 PyProof.Rows
end Dd
namespace L2
open Spec PyProof.Rows
theorem LJ:Slot "reversed" (Str.ofString "__init__") "object.__init__":=by
 refine Slot.of (owner:="object") (n:="__init__") ?_ (by decide +kernel) (by decide +kernel) (by decide +kernel) ?_ ?_
 ·rw[sF,sS]
  kernel_rfl
 ·first
   |exact .inl (by decide +kernel)
   |exact .inr (by decide +kernel)
 ·rw[yN]
  kernel_rfl
theorem TU:TypeCalled "reversed" "reversed.__new__" "object.__init__":=⟨by decide +kernel,by kernel_rfl,⟨_,_,F.mro_reversed⟩,F.made_reversed,F.plain_reversed_new,F.sub_reversed_self,LJ⟩
theorem IB:isSubtype (.type "tuple") (.type "dict")=pure false:=by
 rw[yN]
 kernel_rfl
theorem AZ:typeLookup (.type "tuple") (Str.ofString "__getitem__")=pure (some (.builtin "tuple.__getitem__")):=by
 rw[sF,sS]
 kernel_rfl
theorem HG:typeLookup (.type "tuple") (Str.ofString "__reversed__")=pure none:=by
 rw[sF,sS]
 kernel_rfl
theorem JV: Meets (Builtin.«reversed.__new__» ⟨[.type "reversed",.ref a],[]⟩) (λ_ R s=>s.heap.IsTuple a items/\(items.size:Int)<2^63/\∀ h,R (.ok (.ret (.ref s.heap.objs.size))) { s with heap:=s.heap.push { cls:=.type "reversed",data:=.fields #[.ref a,rawInt ((items.size:Int)-1)] },toks:=h }):=
 .of_wp λe w A R s d=>by
  obtain⟨g,j,k⟩:=d;have m:=F.sub_reversed_self;have p:=IB;obtain⟨o,l,i,n⟩:=id g;have f:s.TypeIs (.ref a) "tuple":=⟨o,l,i⟩
  unfold Builtin.«reversed.__new__»
  refine ab (L2.aZ (Q:=λr c=>r=(Value.type "reversed",[Value.ref a])/\c=s) (by
   wp_walk
   exact⟨rfl,rfl⟩) λr c z=>?_)
  obtain⟨rfl,rfl⟩:=z;dsimp only
  refine ab (L2.aZ (Q:=λr b=>b=c) (by
   wp_walk
   rfl) λr b z=>?_)
  subst z
  refine ab (L2.aZ (Q:=λr c=>c=b) (by
   wp_walk
   rfl) λr c z=>?_)
  subst z;refine ab (sH f HG ?_);dsimp only
  refine ab (L2.aZ (Q:=λr b=>r=true/\b=c) (by
   wp_walk using (sH f AZ)
   exact⟨rfl,rfl⟩) λr b z=>?_)
  obtain⟨rfl,rfl⟩:=z;rw[if_neg ')'];refine ab (len_tuple g j ?_)
  wp_walk
  exact⟨_,rfl,k _⟩
theorem Tf:entryFor table "reversed.__new__"=some Builtin.«reversed.__new__»:=entryFor_of_tree (by kernel_rfl)
theorem P3{s:Shared}(d:s.heap.IsTuple a items)(e:(items.size:Int)<2^63)
 (f:∀ b,Q (.ref s.heap.objs.size) { s with heap:=s.heap.push { cls:=.type "reversed",data:=.fields #[.ref a,rawInt ((items.size:Int)-1)] },toks:=b }):wpAny '*' A (PySem.call (.type "reversed") [.ref a]) Q E s:=
 callType_new TU ')' (F.typeCall_reversed_1 _) (F.newCall_reversed_1 _) (λc=>F.args_object_init_2 c _) Tf (JV (items:=items)) ⟨d,e,λb=>⟨⟨_,ed _ rfl,rfl⟩,f b⟩⟩
theorem r9:Manifest.owners.lookup (String.ofList ("desrever".toList).reverse)=some Manifest.sig_reversed:=by kernel_rfl
theorem ut:Slot "reversed" "__next__" "reversed.__next__":=by
 refine Slot.of (owner:="reversed") (n:="__next__") ?_ (by decide +kernel) (by decide +kernel) (by decide +kernel) ?_ ?_
 ·rw[sF,sS]
  kernel_rfl
 ·first
   |exact .inl (by decide +kernel)
   |exact .inr (by decide +kernel)
 ·rw[yN]
  kernel_rfl
theorem Q8:entryFor table "reversed.__next__"=some Builtin.«reversed.__next__»:=entryFor_of_tree (by kernel_rfl)
theorem Qn(a:Value):argsOk "reversed.__next__" ⟨[a],[]⟩:=by
 unfold argsOk;rw[signature?_of (id:="reversed.__next__") (n:="__txen__".toList) (o:="desrever".toList) (by kernel_rfl) r9]
 kernel_rfl
theorem Ct:Slot "reversed" "__iter__" "reversed.__iter__":=by
 refine Slot.of (owner:="reversed") (n:="__iter__") ?_ (by decide +kernel) (by decide +kernel) (by decide +kernel) ?_ ?_
 ·rw[sF,sS]
  kernel_rfl
 ·first
   |exact .inl (by decide +kernel)
   |exact .inr (by decide +kernel)
 ·rw[yN]
  kernel_rfl
theorem Q9:entryFor table "reversed.__iter__"=some Builtin.«dict_keyiterator.__iter__» :=
 entryFor_alias (id':="dict_keyiterator.__iter__") (by kernel_rfl) rfl (by decide +kernel) (by kernel_rfl)
theorem Qp(a:Value):argsOk "reversed.__iter__" ⟨[a],[]⟩:=by
 unfold argsOk;rw[signature?_of (id:="reversed.__iter__") (n:="__reti__".toList) (o:="desrever".toList) (by kernel_rfl) r9]
 kernel_rfl
noncomputable def dC(h:Heap) (b a:Addr) (i:Int):Prop:=∃ o,h.get? b=some o/\o.cls=.type "reversed"/\o.data=.fields #[.ref a,.int i 0]
theorem dC.is{s:Shared}(x:dC s.heap it a i):s.TypeIs (.ref it) "reversed":=let ⟨o,e,c,_⟩:=x; ⟨o,e,c⟩
theorem Ql{s:Shared}{i:Nat}{W:Option Value->Shared->Prop}(h:IsTup s.heap a items)(d:dC s.heap it a (i:Int))(k:items[i]?=some u)(y:items.size<2^62)
  (e:∀g o,dC g it a ((i:Int)-1)->Heap.SameBut it s.heap g->W (some u) {s with heap:=g,toks:=o}):wpAny (model P w) B (pyNext (.ref it)) W E s:=by
 obtain⟨A,b,p,c⟩:=id d;have f:i<items.size:=(OG.mp k).1;obtain⟨q,v,t,z⟩:=id (show s.heap.IsTuple a items from h);have r:s.TypeIs (.ref a) "tuple":=⟨q,v,t⟩
 unfold pyNext;refine ab (qd (wpAny_callSpecial?_slot (name:=Str.ofString "__next__") d.is ut (kD ut d.is Q8 ?body (Qn _))))
 case body=>
  unfold Builtin.«reversed.__next__»;refine ab (m:=slotArgs "__next__" 0 _) (am ?_)
  dsimp only;refine ab (iV (i:=0) (x:=.ref a) b c rfl (ab (iV (i:=1) (x:=.int (i:Int) 0) b c rfl ?_)))
  try dsimp only
  rw[if_neg '!'];refine ab (sH r AZ ?_);rw[if_neg ')'];refine ab (wpAny_mkInt (ab (qd (getItem_tuple (j:=i) (x:=u) (s:={s with toks:=s.toks+1}) h '!' '!' ?_ k ?_))))
  ·have n:¬ ((i:Int)<0):=by lia
   simp[seqIndex?,n,f]
  ·dsimp only;refine ab (iV (i:=1) (x:=.int (i:Int) 0) (s:={s with toks:=s.toks+1}) b c rfl ?_);dsimp only;refine ab (sE (s:={s with toks:=s.toks+1}) b c '%' ?_);refine am ⟨_,rfl,am (e _ _ ?_ (qu ..))⟩;have l:=uO c (·.setIfInBounds 1 (rawInt ((i:Int)-1)));refine⟨_,mS _ b (DF l),(Oe ..).trans p,?_⟩;rw[l];simp[rawInt]
theorem yv{B:Around}{s:Shared}{W:Option Value->Shared->Prop}(o:j<0)(n:B.handled=none)(h:dC s.heap it a j)
  (k:∀g:Heap,Heap.ExtBut it s.heap g->W none {s with heap:=g}):wpAny (model P w) B (pyNext (.ref it)) W E s:=by
 obtain⟨r,d,q,f⟩:=id h;unfold pyNext;refine ab (qd (wpAny_callSpecial?_slot (name:=Str.ofString "__next__") h.is ut (kD ut h.is Q8 ?body (Qn _))))
 case body=>
  unfold Builtin.«reversed.__next__»;refine ab (m:=slotArgs "__next__" 0 _) (am ?_)
  dsimp only;refine ab (iV (i:=0) (x:=.ref a) d f rfl (ab (iV (i:=1) (x:=.int j 0) d f rfl ?_)))
  try dsimp only
  rw[if_pos o]
  refine ab (L2.aZ (Q:=λ_ e=>e=s) (by
   wp_walk
   rfl) λ_ e z=>?_)
  subst z
  refine ab (L2.aZ (Q:=λ_ c=>∃g,c={e with heap:=g}/\Heap.SameBut it e.heap g) (by
   wp_delta
   refine ab (sE d f '%' ?_);have l:=uO f (·.setIfInBounds 1 (rawInt (-1)))
   exact sE (mS _ d (DF l)) l '%' ⟨_,rfl,(qu ..).trans (qu ..)⟩) λ_ c z=>?_)
  obtain⟨g,rfl,p⟩:=z;refine ab ?_;unfold Builtin.SmallTypes.stopIteration;simp only[newExc,newTuple];refine ab (ab (jt (ab (m:=firstArgMember _ _) (oY (a:=Value.none) (by first|rfl|(simp only[firstArgMember];rfl)) (jt ?_ (by size_fits)))) (by size_fits)));simp only[raiseNew];refine ab (wpAny_handled ?_);rw[show B.in1.handled=none from n];refine ab (am (wpAny_throw ?_));refine ab (Dj (T:="StopIteration") (b:=true) ?ty isSubtype_stop (am (k _ ((p.extBut.push _).push _))))
  exact⟨_,ed _ rfl,rfl⟩
def PL(K:Fg) (a:Addr) (n:Nat):It:=
 ⟨λi H=>∃b x,bz K H a b/\b.length=n/\i<n/\b[n-1-i]?=some x,λi H x c=>c=H/\∀b,bz K H a b->b[n-1-i]?=some x,λi H=>n<=i⟩
theorem Qv{P:Program}{w:World}{K:Fg}{tg:Expr}(a it:Addr)(n:Nat):ir P w K tg (PL K a n) [it] it (λi h=>dC h it a ((n:Int)-1-i)) where
 mem:=by simp
 obj:=λi h f b g=>by
  have e:b=it:=by simpa using g
  subst e;obtain⟨o,e,c,d⟩:=f;exact⟨o,e,λv z=>by rw[d] at z;cases z⟩
 keep:=λi h l f k=>let ⟨o,e,r⟩:=f;⟨o,k it '%' o e,r⟩
 item:=by
  intro X J G S hc i aW s σ H E I q f m;subst J G S;obtain⟨xs,x,hq,hn,hi,hx⟩:=m;obtain⟨T,rv,p,hz⟩:=I.tuple hq;obtain⟨u,hu,ru⟩:=rv.get hx;have hl:=rv.length;obtain⟨U,Y,f2,R,C,y⟩:=q it '%';have ei:(n:Int)-1-i=((n-1-i:Nat):Int):=by lia
  have t:dC s.heap it a ((n-1-i:Nat):Int):=by rw[←ei];exact f
  have a0:=ew;refine Ql (items:=T.toArray) p t (u:=u) (by simpa using hu) (by simp only[dH];rw[iC] at hz;lia) λl tk j sb=>?_
  have I1:Inv X aW σ H {s with heap:=l,toks:=tk}:=I.turned (λb o g e=>(sb.2 b g).trans e) U Y R C y;obtain⟨o,e,c,d⟩:=id j;exact⟨u,rfl,lA (s:={s with heap:=l,toks:=tk}) e c d ')' ⟨x,H,I1,ru,⟨rfl,λys hy=>by rw[I.tuple_inj hy hq];exact hx⟩,by rw[show(n:Int)-1-((i+1:Nat):Int)=((n-1-i:Nat):Int)-1 by lia];exact j,λb g=>(q b g).1⟩⟩
 done:=by
  intro X J G S hc i aW s σ H E I q f m;subst J G S;have m:n<=i:=m;obtain⟨U,Y,f2,R,C,y⟩:=q it '%';exact yv '!' (I.ok.hd hc) f λl eb=>⟨rfl,I.turned (t':=s.toks) (λb o g e=>eb b o g e) U Y R C y⟩
 self:=λA i s Q E f h=>N8 f.is Ct (kD Ct f.is Q9 (am ⟨_,rfl, "reversed",_,f.is,ut.lookup,h⟩) (Qp _))
def AW(K:Fg) (c:TE):TI:=λd H R=>c d H λx H1=>∃a b,x=.ref a/\bz K H1 a b/\R (PL K a b.length) H1
section
variable {X:Cx}{tg:Expr}
theorem Ih{p j:Pos}{l:Expr}{n:TE}(Q:Gl X "reversed")(J:X.mg "reversed"=none)(G:PE X l n)
  (r:starEach [l] X.env=[(false,eval l X.env)]:=by rfl):PI X tg (.Call (.Name "reversed" p) [l] [] j) (AW X.K n):=by
 intro A s T H R I h;refine qo (l6 I Q J SD ?_);refine qy (e:=l) (rest:=[]) ?_ r rfl;rw[r];refine qq (aZ (G A s T H _ I h) λv c k=>?_);obtain⟨x,H1,i,E,C⟩:=k;refine sN ?_;obtain⟨a,m,rfl,z,q⟩:=C;cases E;obtain⟨f,U,Y,y⟩:=i.tuple z;have g:=U.length;have t:=ew;refine P3 (items:=f.toArray) Y (by simp only[dH];rw[iC] at y;lia) λu=>?_
 have d:dC (c.heap.push { cls:=.type "reversed",data:=.fields #[.ref a,rawInt ((f.toArray.size:Int)-1)] }) c.heap.objs.size a ((m.length:Int)-1-(0:Nat)):=⟨_,ed _ rfl,rfl,by rw[dH,g]; simp[rawInt]⟩
 refine(Qv (P:=X.prog) (w:=X.w) (K:=X.K) (tg:=tg) a c.heap.objs.size m.length).self _ 0 _ _ _ d ?_;refine⟨c.heap.objs.size,[c.heap.objs.size],_,_,H1,rfl,i.kept (t':=u) λb o e=>bX _ e,Qv a _ m.length,d,λb S=>?_,q⟩;have e:b=c.heap.objs.size:=by simpa using S
 subst e;exact i.fpOk (aY _) (i.hok.fresh (aY _))
end
end L2
namespace Dd
open Spec PyProof.Rows L2
def nD(f:SE):SA:=λc b=>(f c b).bind λx a=>match x with
 |.tup xs=>.ok xs.reverse a
 |_=>.stuck
theorem GA{K:Fg}{j:Loc}{H:Hp}{p:Addr}{f:List D}{c:List V}(l:∀b H2,eR j H b H2->bz K H2 p c)(g:ae K j H f c):lZ K j H (PL K p c.length) f.reverse where
 item:=λb H2 x i d e=>by
  have m:=g.length;have n:i<f.length:=by have:=(cK.mp e).1;simpa using this
  rw[List.getElem?_reverse n] at e;obtain⟨v,k,a⟩:=g.get e;rw[←m] at k;refine⟨⟨c,v,l _ _ x,rfl,by lia,k⟩,λy H3 q=>?_⟩;obtain⟨rfl,o⟩:=q;have:=o c (l _ _ x);rw[k] at this;cases this;exact⟨.refl _ _,λ_ r=>⟨r,a.extG x⟩⟩
 done:=λb H2 x i h=>by
  have m:=g.length;rw[qt] at h;show c.length<=i;lia
theorem G4(o:Gl X "reversed")(n:X.mg "reversed"=none)(m:DE X l f)(r:starEach [l] X.env=[(false,eval l X.env)]:=by rfl):DI X tg (.Call (.Name "reversed" p) [l] [] pos) (nD f):=jr (Ih o n m r) λA H R c=>by
 obtain⟨d,s,h,C,i,a,g,e,q⟩:=c;obtain⟨x,t,j,e⟩:=za e;cases x with
 |tup ys=>
  cases e;refine⟨d,s,h,_,_,a,g,j,λk H1 u v b w=>?_⟩;cases w with
  |tup h1 h2 h3=>exact⟨_,_,rfl,bz.of h1,q _ _ _ v b (GA (λy H2 z=>bz.of (z.out h1 h2).1) h3)⟩
 |_=>cases e
theorem Je(c:Gl X "reversed")(a:X.mg "reversed"=none)(d:JE X l f)(b:starEach [l] X.env=[(false,eval l X.env)]:=by rfl):JI X tg (.Call (.Name "reversed" p) [l] [] pos) (nD f):=⟨G4 c a d.out b⟩
end Dd
namespace L2
open Spec PyProof.Rows PySem.W
theorem Inv.thaw(I:'&')(h:H a=some (.frz ob (.dT kvs)))(G:∀o u,X.H₀ a≠some (.frz o u)):Inv X aW σ (aq H a (.dT kvs)) s:=by
 have d:∀{b:Addr}{u:HO},H b=some u->(∀o l,u≠.frz o (.dT l))->aq H a (.dT kvs) b=some u:=λ{b u} q n=>by
  rw[zq (by rintro rfl;rw[h] at q;cases q;exact n _ _ rfl)];exact q
 have f:∀{b:Addr},H b=none->aq H a (.dT kvs) b=none:=λ{b} q=>by
  rw[zq (by rintro rfl;rw[h] at q;cases q)];exact q
 refine⟨I.ok,I.os,I.bare,⟨I.base.keep,I.base.slot,λb o q n x=>f (I.base.free b o q n x),I.base.there,λb i q=>d (I.base.tups b i q) (λo l z=>by cases z),λb o u q=>?_,λb t q=>?_⟩,I.loc,I.cell,f I.free,λx c e=>f (I.freeC x c e),λp A=>?_,λb u q=>?_,I.len,λv e=>?_⟩
 ·have j:=I.base.frzs b o u q;by_cases hb:b=a
  ·subst hb;exact absurd q (G o u)
  ·rw[zq hb];exact j
 ·obtain⟨g,j⟩:=I.base.tbls b t q;exact⟨g,d j λo l z=>by cases z⟩
 ·obtain⟨E,m,k⟩:=I.pin p A;exact⟨E,f m,k⟩
 ·by_cases hb:b=a
  ·subst hb;rw[zu] at q;cases q;exact(I.hok b _ h).2.stay (λc v _ r=>r) (λc r=>d r (λo l z=>by cases z)) λc i r=>d r (λo l z=>by cases z)
  ·rw[zq hb] at q;exact(I.hok b u q).stay (λc v _ r=>r) (λc r=>d r (λo l z=>by cases z)) λc i r=>d r (λo l z=>by cases z)
 ·obtain⟨c,o,C,w,y⟩:=I.hnd v e;exact⟨c,o,C,d w (λo l z=>by cases z),y⟩
end L2
namespace Dd
open Spec PyProof.Rows L2
theorem MU{X:Cx}{aW:List (Addr×Obj)}{s:Shared}{τ:L2.St}{J g:Loc}{H H1:Hp}{au v:aa}{n:Nat}{Y A:List (List Int×D)}(I:Inv X aW τ H s)(rp:bD X.K J au H)(hn:au[n]?=some (.dT Y))(x:bg J H g H1)(d:bD X.K g v H1)(h1:v[n]?=some (.fT A)):
  ∃p k ob,H1 p=some (.frz ob (.dT k))/\(∀o u,X.H₀ p≠some (.frz o u))/\bg J H g (aq H1 p (.dT k))/\bD X.K g (v.set n (.dT A)) (aq H1 p (.dT k))/\Mv g H1 g (aq H1 p (.dT k)):=by
 obtain⟨p,G⟩:=rp.live n _ hn (by intro z;cases z);obtain⟨a1,C,_⟩:=rp.obj n p _ G hn;have H0:∀o u,X.H₀ p≠some (.frz o u):=λo u z=>by
  have:=I.base.frzs p o u z;rw[C] at this;cases this
 obtain⟨p',f⟩:=d.live n _ h1 (by intro z;cases z);have S:n < J.m.length:=(cK.mp G).1;have pp:p'=p:=by
  have:=x.old n p' S f;rw[G] at this;exact(fY (fY this)).symm
 subst pp;obtain⟨k,ob,hf,kv⟩:=d.obj n p' _ f h1;have R:∀{b:Addr}{u:HO},H1 b=some u->(∀o l,u≠.frz o (.dT l))->aq H1 p' (.dT k) b=some u:=λ{b u} q n=>by
  rw[zq (by rintro rfl;rw[hf] at q;cases q;exact n _ _ rfl)];exact q
 have w:Mv g H1 g (aq H1 p' (.dT k)):=⟨λ{b o} j ho=>⟨by
  rw[zq (by rintro rfl;exact ho.1 (dF f))];exact j,ho⟩,aY _,λ_ _ _ e=>e⟩
 refine⟨p',k,ob,hf,H0,⟨x.len,x.old,λb o j r=>?_,x.gho,λb o u j=>?_⟩,⟨by rw[d.len,iY],d.inj,λm b y P Q=>?_,λb j=>?_,λm y e ne=>?_⟩,w⟩
 ·obtain⟨E,U⟩:=x.keep b o j r;refine⟨?_,U⟩;rw[zq (by rintro rfl;exact r (dF G))];exact E
 ·have E:=x.frz b o u j;rw[zq (by rintro rfl;rw[C] at j;cases j)];exact E
 ·by_cases r:m=n
  ·subst r;have j:b=p':=by rw[f] at P;exact(fY (fY P)).symm
   subst j;have hl:m<v.length:=by rw[←d.len];exact(cK.mp f).1
   rw[pq hl] at Q;cases Q;exact⟨k,zu,Paired.mapP kv λp q z=>⟨z.1,z.2.mv w⟩⟩
  ·rw[fj (cO r)] at Q;have nb:b≠p':=λz=>by subst z;exact r (d.inj m n b P f)
   have o:=d.obj m b y P Q;cases y with
   |lst xs=>obtain⟨a,i,h⟩:=o;exact⟨a,by rw[zq nb];exact i,h.mv w⟩
   |dT kv'=>obtain⟨a,i,h⟩:=o;exact⟨a,by rw[zq nb];exact i,Paired.mapP h λp q z=>⟨z.1,z.2.mv w⟩⟩
   |fT kv'=>obtain⟨a,a0,i,h⟩:=o;exact⟨a,a0,by rw[zq nb];exact i,Paired.mapP h λp q z=>⟨z.1,z.2.mv w⟩⟩
   |dI kv'=>obtain⟨a,i,h⟩:=o;exact⟨a,by rw[zq nb];exact i,Paired.mapP h λp q z=>⟨z.1,z.2.mv w⟩⟩
   |dP ks=>obtain⟨a,i,n,l,u,h⟩:=o;exact⟨a,by rw[zq nb];exact i,n,l,u,h.map λ_ _ z=>z.mv w⟩
   |dead=>exact o.elim
   |tab=>
    obtain⟨c,ps,i,h⟩:=o;refine⟨c,ps,by rw[zq nb];exact i,h.1,λT cv e=>?_⟩;obtain⟨c',oc,a,t,E,U,k3⟩:=h.2 T cv e;exact⟨c',oc,a,t,E,R U (λo l z=>by cases z),k3⟩
 ·obtain⟨⟨u,hu⟩,n1⟩:=d.gh b j;refine⟨⟨u,?_⟩,n1⟩;rw[zq (by rintro rfl;exact n1 (dF f))];exact hu
 ·by_cases r:m=n
  ·subst r;exact⟨p',f⟩
  ·rw[fj (cO r)] at e;exact d.live m y e ne
def iI(i:Nat) (f:SS):SS:=λc b=>match c[i]? with
 |some (some (.ref n))=>match b[n]? with
  |some (.dT _)=>(f c b).bind λd a=>match d,a[n]? with
   |.nx σ1,some (.fT kvs)=>.ok (.nx σ1) (a.set n (.dT kvs))
   |_,_=>.stuck
  |_=>.stuck
 |_=>.stuck
theorem Jq{X:Cx}{c:Stmt}{f:SS}{i:Nat}(h:jX X c f):jX X c (iI i f):=by
 rintro S s P H E I ⟨G,σ,U,fl,Y,a,J,e,q⟩;unfold iI at e;split at e
 ·rename_i n hi;split at e
  ·rename_i a0 hn;obtain⟨w,l,A,e⟩:=za e;split at e
   ·rename_i k Q h1;cases e;refine aZ (h S s P H {nx:=λg m=>∃b,bg G H b m/\bD X.K b l m/\dc X.K b m k g,rt:=λ_ _=>False} I ⟨G,σ,U,.nx k,l,a,J,A,λb m g x r t=>⟨b,x,r,t⟩⟩) λw s1 z=>?_
    cases w with
    |next=>
     obtain⟨j,H1,I1,C,x1,y,a1⟩:=z;obtain⟨p,vs,ob,hf,H0,E1,R,T⟩:=MU I J hn x1 y h1
     exact⟨j,_,I1.thaw hf H0,q C _ j E1 R (Paired.mapP a1 λo v z d e=>by
      obtain⟨u,A,t⟩:=z d e
      exact⟨u,A,t.mv T⟩)⟩
    |brk=>obtain⟨_,_,_,z⟩:=z;exact z.elim
    |cont=>obtain⟨_,_,_,z⟩:=z;exact z.elim
    |ret u=>obtain⟨_,_,_,_,_,z⟩:=z;exact z.elim
   ·cases e
  ·cases e
 ·cases e
theorem Lu(h:JS X c f):JS X c (iI i f):=⟨Jq h.out⟩
end Dd
namespace Dd
open L2 PyProof.Rows
theorem sv{X:Cx}(b:X.N[i]?=some x:=by rfl)(d:vc X.env.scope x:=by first|exact Or.inl rfl|exact Or.inr (Or.inl rfl)|exact Or.inr (Or.inr rfl))(c:(x==("__debug__" : Str))=false:=by decide)
 (a:(x==("__classdict__" : Str))=false:=by decide):JE X (.Name x pos) (aA i):=mB (pv i b d c a)
theorem bG{X:Cx}(c:fG X.prog X.w X.K X.mg X.base x k ps F)(l:bN j X.A)(q:JA X (e::es) g)(o:∀f n v a,F f n=.ok v a->f.length=ps.length:=by exact λ_ _ _ _ h=>xW h)(m:k<=j:=by first|decide|lia)(r:Gl X x:=by rfl)
 (d:(x==("__debug__" : Str))=false:=by decide)(i:starEach (e::es) X.env=(false,eval e X.env)::starEach es X.env:=by rfl)(b:(backTo pos (starEach es X.env)).any (·.1)=false:=by rfl):JE X (.Call (.Name x p) (e::es) [] pos) (aE F g):=xQ c o (l.mono m) r q d i b
theorem bQ{X:Cx}{a:Pos}(b:X.N.Nodup)(d:JE X e f)(c:X.N[i]?=some x:=by rfl)(j:L2.Loc X.env.scope x:=by first|exact Or.inl rfl|exact Or.inr rfl)(g:swapsWith e (some (.Name x pos')) a.line X.env=pure false:=by rfl)(h:X.fn x=true\/X.env.scope.names.lookup x=some .local:=by first|exact .inl rfl|exact .inr rfl|assumption):
 JS X (.Assign [.Name x pos'] e a) (aF i f):=xV b c j d g h
theorem cR{X:Cx}(a:X.N.Nodup)(b:X.N[i]?=some x:=by rfl)(d:L2.Loc X.env.scope x:=by first|exact Or.inl rfl|exact Or.inr rfl)(c:X.fn x=true\/X.env.scope.names.lookup x=some .local:=by first|exact .inl rfl|exact .inr rfl|assumption):JG X (.Name x pos) (gN i):=iR a b d c
theorem dN(a:JI X tg iter it)(g:JG X tg bd)(c:JB X body b)(f:PassesOwn '#' X.A X.env X.xe:=by exact qe)(d:X.calm=true:=by rfl)(e:∀x,foldedSetIterable iter X.env x=pure x:=by intro _;rfl):
 JS X (.For tg iter body [] pos) (ba it bd b):=xU f d a g c e
theorem om(N:List Str) (e:JI X (.Name x p) iter it)(g:∀b C d s H,JE (fo X N scope b C d s H) elt f)(c:N.Nodup:=by decide +kernel)(S:bA X N k is scope:=by exact l8 (by rfl))(a:X.calm=true:=by rfl)
  (i:N.Nodup->∀b C d s H,JG (fo X N scope b C d s H) (.Name x p) (gN 0):=by exact λc _ _ _ _ _=>cR c)(h:∀x,foldedSetIterable iter X.env x=pure x:=by intro _;rfl):JE X (.ListComp elt [⟨.Name x p,iter,[],0⟩] scope pos) (aG it k is (gN 0) aI f):=
 nR a e (i c) (λ_ _ _ _ _=>p0) g S h
theorem ao(b:JE X a f)(c:gd a=true:=by rfl):JA X [a] (aB f aC):=zp b f6 c
theorem bC(e:JE X a f)(d:JE X b g)(h:gd a=true:=by rfl)(c:gd b=true:=by rfl):JA X [a,b] (aB f (aB g aC)):=zp e (ao d c) h
theorem dh(c:JE X a f)(d:JE X b g):JE X (.BinOp a .Add b pos) (aU aO f g):=cN Ex r8 c d
theorem fN(c:JE X a f)(d:JE X b g):JE X (.BinOp a .Sub b pos) (aU bH f g):=cN xo (iy λ_ _ _ _=>.int _) c d
structure En where
 P:Program
 w:World
 K:Fg
 mg:Str->Option Value
 base:Heap
 h:Heap
 X:K.In h
 G:h.Ns mainGlobals mg
abbrev Cl(Y:En) (x:Str) (k:Nat) (a:List Str) (F:cq):Prop:=fG Y.P Y.w Y.K Y.mg Y.base x k a F
section
variable {Y:En}{x:Str}{au:Stmt}{ps:List Str}{k:Nat}{b:SS}
theorem dG(N:List Str)(T:ag Y.K x au)(g:N.Nodup->∀(f:Addr) (d:Value) (A:Around) (e:List Env) (s:Shared) (H:Hp) (E:XK),bN k (A.deeper (envOfC x (af au) s.heap.objs.size f d))->JB (gy jM Y.P Y.w Y.K Y.mg Y.base N x (af au) f d A e s H E).nox (bo au) b)
 (S:cb N ps (af au):=by exact⟨rfl,rfl,rfl,by decide +kernel,rfl,by decide +kernel,by decide +kernel⟩)
 (m:∀(kV h i:Value) (l:Option Addr) (d j:Value) (a:List Value),a.length=ps.length->bindArgs (W.fnOf x x (cE au) (bo au) (af au) .none kV h i l d j) ⟨a,[]⟩=pure (ps.zip a):=by
  first|exact λ_ _ _ _ _ _ a c=>AN a c λ_=>rfl|exact λ_ _ _ _ _ _ a c=>pJ a c λ_ _=>rfl|exact λ_ _ _ _ _ _ a c=>AM a c λ_ _ _=>rfl|exact λ_ _ _ _ _ _ a c=>Pa a c λ_ _ _ _=>rfl|exact λ_ _ _ _ _ _ a c=>AO a c rfl):
 Cl Y x (k+1) ps (cn N.length ps.length b):=P2 T Y.X Y.G S m (g S.nd)
end
end Dd
namespace L2
open Spec PyProof.Rows PySem.W
end L2
namespace Dd
open L2 PyProof.Rows
end Dd
namespace L2
open Spec PyProof.Rows
end L2
namespace Dd
open L2 PyProof.Rows
end Dd
namespace L2
open Spec PyProof.Rows
end L2
namespace Dd
open L2 PyProof.Rows
end Dd
namespace L2
open Spec PyProof.Rows PySem.W
end L2
namespace Dd
open Spec PyProof.Rows PySem.W L2
end Dd
namespace Dd
open L2
def vJ:cq:=cn 5 2 (aD (aF 2 (eC (.int 0)))
 (aD (fc (eB (aU fQ (aA 1) (aE bU (aB (aA 0) aC)))) (aF 2 (aE lW (aB (aU cB (aA 0) (aA 1)) aC))) fw)
 (aD (aF 3 (aU aO (aU bR (eC (.int 7919)) (aA 1)) (eC (.int 17))))
 (aD (ba (hG (aB (aE fU (aB (aE bU (aB (aA 0) aC)) (aB (eC (.int 60)) aC))) aC)) (gN 4) (aF 3 (aU ik (aU aO (aU aO (aU bR (aA 3) (eC (.int 48271))) (aU ik (aU cB (aA 0) (aA 4)) (eC (.int 2147483647)))) (aA 4)) (eC (.int 2147483629)))))
 (aD (fc (eB (aU fQ (aA 2) (aU O6 (eC (.int 10)) (eC (.int 18))))) (aF 2 (eC (.int 0))) fw)
 (ap (bZ (aB (aA 2) (aB (aA 3) aC)))))))))
def zx:cq:=cn 5 2 (aD (fc (eB (aU qH (aU cB (aA 0) (eC (.int 0))) (eC (.int 0)))) (aD (aF 2 (aU ik (aU cB (aA 0) (eC (.int 0))) (aA 1)))
 (aD (fu (aA 0) (eC (.int 0)) (aU fR (aU cB (aA 0) (eC (.int 0))) (aA 1)))
 (ap (aA 2)))) fw)
 (aD (aF 3 (eC (.int 0)))
 (aD (aF 4 '+')
 (aD (cM (eB (aU fQ (aA 4) (aA 1))) (aD (fu (aA 0) '+' (aU ik (aU aO (aU bR (aU cB (aA 0) '+') (eC (.int 48271))) (eC (.int 7919))) (eC (.int 2147483647))))
 (aD (aF 3 (aU aO (aU bR (aA 3) (eC (.int 1073741789))) (aU ik (aU bR (aU fR (aU cB (aA 0) '+') (eC (.int 8))) (eC (.int 69621))) (eC (.int 1073741789)))))
 (aF 4 (aU bR (aA 4) (eC (.int 1073741789)))))))
 (ap (aU ik (aA 3) (aA 1)))))))
def jO:cq:=cn 2 2 (fc (eB (aU (i4 false) (aA 1) (aA 0))) (br (kU (aA 0) (aA 1))) (gp (aA 0) (aA 1) (eC (.bl true))))
def Fy:SS:=(gp (aA 1) (aA 2) (io (ja (aA 1) (aA 2) (eC (.bl false)))))
def j4:cq:=cn 3 1 (aD (aF 1 eO)
 (aD (ba (aH (aA 0)) (gN 2) Fy)
 (ap (aE bi (aB (aE bj (aB (aG (iK (aA 1)) 1 [1] (gN 0) (cD (aU fk (aA 1) (aA 0))) (aA 0)) aC)) aC)))))
def FH:SS:=(fc (kX (dW (cD (aE bp (aB (aA 2) (aB (eC (.ty "tuple")) aC))))) (cD (aE (eP false) (aB (aG (aH (aA 2)) 1 [] (gN 0) aI (qM (io (aE bp (aB (aA 0) (aB (eC (.ty "int")) aC)))) (aE bp (aB (aA 0) (aB (eC (.ty "bool")) aC))))) aC)))) (ap (eC (.bl false))) fw)
def rJ:cq:=cn 3 2 (aD (fc (kX (dW (cD (aE bp (aB (aA 0) (aB (eC (.ty "tuple")) aC))))) (eB (aU lN (aA 0) (aA 1)))) (ap (eC (.bl false))) fw)
 (aD (ba (aH (aA 0)) (gN 2) FH)
 (ap (eC (.bl true)))))
def Fz:SS:=(fc (eB (aU qH (aA 4) (eC (.int 0)))) (aD (br (bw (aA 3) (aB (aU aO '+' (aE zx (aB (aA 0) (aB (aU cB (ip (aB (aA 4) (aB (aE fU (aB (aA 4) (aB (eC (.int 5)) aC))) (aB (aE fU (aB (aA 4) (aB (eC (.int 2)) aC))) aC)))) (aE zx (aB (aA 0) (aB (eC (.int 3)) aC)))) aC)))) aC)))
 (aF 4 (aU bH (aA 4) (aU cB (aA 3) (jk eH '+'))))) fw)
def vK:cq:=cn 6 3 (aD (aF 3 (bZ aC))
 (aD (aF 4 (aA 1))
 (aD (ba (hG (aB (aE zx (aB (aA 0) (aB (aU aO (aA 2) '+') aC))) aC)) (gN 5) Fz)
 (ap (aE bi (aB (aA 3) aC))))))
def vQ:cq:=cn 4 4 (ap (aE j4 (aB (aG (hG (aB (aE zx (aB (aA 0) (aB (aU aO (aA 1) '+') aC))) aC)) 1 [0,2,3] (gN 0) aI (aE vK (aB (aA 1) (aB (aA 2) (aB (aA 3) aC))))) aC)))
def uz:SS:=(gp (aA 1) (aA 2) (eC (.bl true)))
def CN:cq:=cn 3 1 (aD (aF 1 eO)
 (aD (ba (aH (aA 0)) (gN 2) uz)
 (ap (aA 1))))
def CG:cq:=cn 2 2 (ap (aU lP (aU jA (aA 0) (aA 1)) (aA 1)))
def FJ:SS:=(fc (cD (aE CG (aB (aU bH (aU bH (aA 1) (aA 3)) '+') (aB (aU bH (aA 0) (aU bR (eC (.int 2)) (aA 3))) aC)))) (br (bw (aA 2) (aB (BB (eB (aU qH (aA 3) (eC (.int 0)))) (aT (aB (aU bH (aU aO (aA 0) (aA 1)) (aA 3)) (aB (aA 3) aC))) (aT (aB (aU aO (aA 0) (aA 1)) aC))) aC))) fw)
def wa:cq:=cn 4 2 (aD (aF 2 (bZ aC))
 (aD (ba (hG (aB (aU aO (aU fR (aA 0) (eC (.int 2))) '+') aC)) (gN 3) FJ)
 (ap (aE bj (aB (aA 2) aC)))))
def rL:cq:=cn 4 2 (aD (aF 2 (qL (aA 0) gr (gq (aA 1))))
 (aD (aF 3 (qL (aA 0) (gq (aU aO (aA 1) (eC (.int 2)))) gr))
 (ap (aG (aH (aE wa (aB (aU cB (aA 0) (aA 1)) (aB (aU cB (aA 0) (aU aO (aA 1) '+')) aC)))) 1 [3,2] (gN 0) aI (aU aO (aU aO (aA 2) (aA 0)) (aA 1))))))
def md:cq:=cn 1 1 (ap (jD (aE bp (aB (aA 0) (aB (eC (.ty "int")) aC))) (io (aE bp (aB (aA 0) (aB (eC (.ty "bool")) aC))))))
def vW:cq:=cn 2 2 (ap (jD (aE bp (aB (aA 1) (aB (eC (.ty "tuple")) aC))) (jD (aE (eP true) (aB (aG (aH (aA 1)) 1 [] (gN 0) aI (aE md (aB (aA 0) aC))) aC)) (aU (i4 false) (aA 1) (aA 0)))))
def CZ:cq:=cn 2 2 (ap (aU fQ (aA 0) (aU bR (eC (.int 2)) (aA 1))))
def oD:cq:=cn 2 2 (aD (fc (kX (dW (cD (aE md (aB (aA 1) aC)))) (dW (eB (dQ lO fQ (eC (.int 0)) (aA 1) (aU bH (aE bU (aB (aA 0) aC)) '+'))))) (ap (eC (.bl false))) fw)
 (ap (aE CZ (aB (aU cB (aA 0) (aA 1)) (aB (aU cB (aA 0) (aU aO (aA 1) '+')) aC)))))
def FF:SS:=(br (aE jO (aB (aA 0) (aB (aA 3) aC))))
def CV:cq:=cn 4 3 (aD (fc (dW (cD (aE vW (aB (aA 0) (aB (aA 1) aC))))) f9 fw)
 (aD (fc (dW (cD (aE oD (aB (aA 1) (aB (aA 2) aC))))) f9 fw)
 (aD (br (aE jO (aB (aA 0) (aB (aA 1) aC))))
 (ba (aH (aE rL (aB (aA 1) (aB (aA 2) aC)))) (gN 3) FF))))
def Ca:cq:=cn 1 1 (ap (aG (hG (aB (aU bH (aE bU (aB (aA 0) aC)) '+') aC)) 1 [0] (gN 0) (cD (aE oD (aB (aA 1) (aB (aA 0) aC)))) (aA 0)))
def uq:cq:=cn 1 1 (ap (aE iq (aB (aG (hH (aA 0)) 2 [] (gT 2 (ai (gN 0) (ai (gN 1) cg))) aI (aU bR (aA 0) (aA 1))) aC)))
def RZ:SS:=(br (aE jO (aB (aA 1) (aB (aA 2) aC))))
def Sx:SS:=(br (aE jO (aB (aA 1) (aB (aA 3) aC))))
def Se:SS:=(aD (aF 5 (aE zx (aB (aA 0) (aB (aU aO (aU fR (aA 3) (aU bH (aU pH (eC (.int 2)) (aA 4)) '+')) '+') aC))))
 (aD (aF 3 (aU bH (aA 3) (aU bR (aA 5) (aU bH (aU pH (eC (.int 2)) (aA 4)) '+'))))
 (br (bw (aA 2) (aB (aA 5) aC)))))
def Sf:SS:=(br (kR (aA 2) (aB (eC (.int 0)) aC)))
def CP:cq:=cn 6 2 (aD (aF 2 (bZ aC))
 (aD (aF 3 (aA 1))
 (aD (ba (Ph (aB (eC (.int 3)) (aB (jk eH '+') (aB (jk eH '+') aC)))) (gN 4) Se)
 (aD (cM (jG (eB (aU qH (aE bU (aB (aA 2) aC)) (eC (.int 0)))) (eB (aU lP (aU cB (aA 2) (eC (.int 0))) (eC (.int 0))))) Sf)
 (ap (aE bi (aB (iL (aA 2) (jk eH '+')) aC)))))))
def C3:cq:=cn 3 3 (ap (aE j4 (aB (aG (hG (aB (aE zx (aB (aA 0) (aB (aU aO (aA 1) '+') aC))) aC)) 1 [0,2] (gN 0) aI (aE CP (aB (aA 1) (aB (aA 2) aC)))) aC)))
def xH:SS:=(br (nF (aA 1)))
def C4:cq:=cn 2 1 (aD (aF 1 (aE jb (aB (aA 0) aC)))
 (aD (cM (jG (cD (aA 1)) (eB (aU lP (aU cB (aA 1) (jk eH '+')) (eC (.int 0))))) xH)
 (ap (aE bi (aB (aA 1) aC)))))
def Sc:SS:=(aD (lH 1 (oI (λ_ _=>True) λi j=>.int (i+j)) (aU bR (aA 2) (aA 3)))
 (aF 2 (aU aO (aU bR (eC (.int 2)) (aA 2)) '+')))
def vV:cq:=cn 4 1 (aD (aF 1 (eC (.int 0)))
 (aD (aF 2 '+')
 (aD (ba (aH (aA 0)) (gN 3) Sc)
 (ap (aA 1)))))
def rd:cq:=cn 3 3 (ap (aU aO (aU aO (qL (aA 0) gr (gq (aA 1))) (aT (aB (aU aO (aU cB (aA 0) (aA 1)) (aA 2)) aC))) (qL (aA 0) (gq (aU aO (aA 1) '+')) gr)))
def FI:SS:=(fc (eB (aU lP (aU jA (aU cB (aA 5) (aA 3)) (aA 8)) (eC (.int 0)))) (br (bw (aA 4) (aB (aT (aB (aE rd (aB (aA 5) (aB (aA 3) (aB (aA 8) aC)))) (aB (aE rd (aB (aA 6) (aB (aU bH (aA 2) '+') (aB (jk eH (aA 8)) aC)))) (aB (aU bH (aA 7) (aU pH (aA 8) (aA 2))) aC)))) aC))) fw)
def Sw:SS:=(ba (hG (aB (aU aO (aE fU (aB (aU cB (aA 6) (aU bH (aA 2) '+')) (aB (aU AI (aA 7) (aA 2)) aC))) '+') aC)) (gN 8) FI)
def C0:cq:=cn 9 3 (aD (aF 3 (aU bH (aU aO (aA 1) (aA 2)) '+'))
 (aD (aF 4 (bZ aC))
 (aD (ba (aH (aA 0)) (gT 3 (ai (gN 5) (ai (gN 6) (ai (gN 7) cg)))) Sw)
 (ap (lV (aA 4))))))
def So:SS:=(aF 4 (aE C0 (aB (aA 4) (aB (aA 1) (aB (aA 5) aC)))))
def Sq:SS:=(fc (eB (aU lP (aU jA (aU cB (aA 7) (aU bH (aA 1) '+')) (aA 9)) (eC (.int 0)))) (br (bw (aA 6) (aB (aT (aB (aE rd (aB (aA 7) (aB (aU bH (aA 1) '+') (aB (aA 9) aC)))) (aB (aA 8) aC))) aC))) fw)
def CW:cq:=cn 10 4 (aD (aF 4 (aG (aH (aA 0)) 2 [2] (gT 2 (ai (gN 0) (ai (gN 1) cg))) aI (aT (aB (aA 0) (aB (aA 1) (aB (aA 2) aC))))))
 (aD (ba (qK (aB '+' (aB (aU aO (aA 3) '+') aC))) (gN 5) So)
 (aD (aF 6 (bZ aC))
 (aD (ba (aH (aA 4)) (gT 3 (ai (gN 7) (ai (gN 8) (ai (gN 9) cg)))) Sq)
 (ap (lV (aA 6)))))))
def Sl:SS:=(aD (aF 4 (aU aO (aA 3) (aU fP (aT (aB (eC (.int 0)) aC)) (aU bH (aE bU (aB (aA 2) aC)) (aE bU (aB (aA 3) aC))))))
 (fc (cD (aE (eP true) (aB (aG (iJ (aB (aA 2) (aB (aA 4) aC))) 2 [] (gT 2 (ai (gN 0) (ai (gN 1) cg))) aI (aU lP (aU jA (aA 0) (aA 1)) (eC (.int 0)))) aC))) (br (bw (aA 1) (aB (aE bi (aB (aG (iJ (aB (aA 2) (aB (aA 4) aC))) 2 [] (gT 2 (ai (gN 0) (ai (gN 1) cg))) aI (aU aO (aA 0) (aA 1))) aC)) aC))) fw))
def CU:cq:=cn 5 1 (aD (aF 1 (bZ aC))
 (aD (ba (aH (aA 0)) (gT 2 (ai (gN 2) (ai (gN 3) cg))) Sl)
 (ap (lV (aA 1)))))
def SB:SS:=(aF 2 (aE CW (aB (aA 2) (aB (aA 3) (aB (aA 4) (aB (aE bU (aB (aA 1) aC)) aC))))))
def C2:cq:=cn 5 2 (aD (aF 2 (ip (aB (aT (aB (aU fP (aT (aB (eC (.int 0)) aC)) (aU aO (aE bU (aB (aA 0) aC)) (aE bU (aB (aA 1) aC)))) (aB (aA 1) aC))) aC)))
 (aD (ba (hH (aA 0)) (gT 2 (ai (gN 3) (ai (gN 4) cg))) SB)
 (ap (aG (aH (aE CU (aB (aA 2) aC))) 1 [] (gN 0) aI (aE C4 (aB (aA 0) aC))))))
def Ri:SS:=(br (aE jO (aB (aA 2) (aB (aA 5) aC))))
def Rj:SS:=(aD (fc (eB (aU qH (aU aO (aE vV (aB (aA 3) aC)) (aE vV (aB (aA 4) aC))) (eC (.int 16)))) f9 fw)
 (ba (aH (aE C2 (aB (aA 3) (aB (aA 4) aC)))) (gN 5) Ri))
def Rk:SS:=(ba (aH (aA 1)) (gN 4) Rj)
def BV:cq:=cn 6 2 (aD (aF 2 eO)
 (aD (ba (aH (aA 0)) (gN 3) Rk)
 (ap (aE bi (aB (aE bj (aB (aA 2) aC)) aC)))))
def RX:SS:=(aD (fc (eB (aU qH (aU jA (aA 4) (aA 5)) (eC (.int 0)))) (ap (eC .non)) fw)
 (aF 4 (aU O7 (aA 4) (aA 5))))
def RY:SS:=(aD (aF 3 (aG (hG (aB (eC (.int 5)) aC)) 1 [0,2] (gN 0) (eB (dQ lO fQ (eC (.int 0)) (aU bH (aA 2) (aA 0)) (eC (.int 5)))) (aU cB (aU cB (aA 1) (aA 0)) (aU bH (aA 2) (aA 0)))))
 (aD (aF 4 (eC (.int 0)))
 (aD (ba (aH (aA 3)) (gN 5) RX)
 (br (bw (aA 1) (aB (aE iq (aB (aA 3) aC)) aC))))))
def CF:cq:=cn 6 1 (aD (aF 1 (bZ aC))
 (aD (ba (qK (aB '+' (aB (eC (.int 9)) aC))) (gN 2) RY)
 (aD (cM (jG (eB (aU qH (aE bU (aB (aA 1) aC)) (eC (.int 0)))) (eB (aU lP (aU cB (aA 1) (jk eH '+')) (eC (.int 0))))) xH)
 (ap (aE bi (aB (aA 1) aC))))))
def R8:SS:=(br (bw (aA 4) (aB (aT (aB (aU bH (aA 5) (aU pH (aA 7) (aA 3))) (aB (aU aO (aA 6) (aT (aB (aA 7) aC))) aC))) aC)))
def R9:SS:=(ba (hG (aB (aU aO (aE fU (aB (aU cB (aA 1) (aU bH (aA 3) '+')) (aB (aU AI (aA 5) (aA 3)) aC))) '+') aC)) (gN 7) R8)
def Sa:SS:=(aD (aF 4 (bZ aC))
 (aD (ba (aH (aA 2)) (gT 2 (ai (gN 5) (ai (gN 6) cg))) R9)
 (aF 2 (lV (aA 4)))))
def CM:cq:=cn 8 2 (aD (aF 2 (ip (aB (aT (aB (aA 0) (aB (aT aC) aC))) aC)))
 (aD (ba (qK (aB '+' (aB (eC (.int 5)) aC))) (gN 3) Sa)
 (ap (aG (aH (aA 2)) 2 [] (gT 2 (ai (gN 0) (ai (gN 1) cg))) aI (aU aO (aT (aB (aA 0) aC)) (aA 1))))))
def Sg:SS:=(aD (aF 8 (aE bi (aB (aG (hG (aB (eC (.int 4)) aC)) 1 [6,7] (gN 0) aI (aU bH (aU cB (aA 1) (aA 0)) (aU cB (aA 2) (aU aO (aA 0) '+')))) aC)))
 (br (bw (aA 4) (aB (aT (aB (aU aO (aA 5) (aT (aB (aA 7) aC))) (aB (aA 8) aC))) aC))))
def Sh:SS:=(ba (aH (aE CM (aB (aA 3) (aB (aA 6) aC)))) (gN 7) Sg)
def Si:SS:=(aD (aF 4 (bZ aC))
 (aD (ba (aH (aA 2)) (gT 2 (ai (gN 5) (ai (gN 6) cg))) Sh)
 (aF 2 (lV (aA 4)))))
def CQ:cq:=cn 9 2 (aD (aF 2 (ip (aB (aT (aB (aT aC) (aB (aU aO (aE bi (aB (aA 1) aC)) (aU fP (aT (aB (eC (.int 0)) aC)) (aU bH (eC (.int 4)) (aE bU (aB (aA 1) aC))))) aC))) aC)))
 (aD (ba (aH (aU aO (aE bi (aB (aA 0) aC)) (aU fP (aT (aB (eC (.int 0)) aC)) (aU bH (eC (.int 4)) (aE bU (aB (aA 0) aC)))))) (gN 3) Si)
 (ap (aG (aH (aA 2)) 2 [] (gT 2 (ai (gN 0) (ai (gN 1) cg))) aI (aU aO (aT (aB (aU aO (aT (aB (eC (.int 0)) aC)) (aA 1)) aC)) (aA 0))))))
def FG:SS:=(br (eA (aA 2) (aB (aG (aH (aG (aH (aE CQ (aB (aA 3) (aB (aA 4) aC)))) 1 [] (gN 0) aI (aE CF (aB (aA 0) aC)))) 1 [] (gN 0) (eB (aU (nk true) (aA 0) (eC .non))) (aA 0)) aC)))
def Sb:SS:=(ba (aH (aA 1)) (gN 4) FG)
def CS:cq:=cn 5 2 (aD (aF 2 (bZ aC))
 (aD (ba (aH (aA 0)) (gN 3) Sb)
 (ap (aE j4 (aB (lV (aA 2)) aC)))))
def Sk:cq->SS:=λa=>(br (eA (aA 2) (aB (aG (aH (lV (aE a (aB (aU bH (aA 0) (aA 3)) (aB (aU fR (aA 3) (eC (.int 2))) aC))))) 1 [3] (gN 0) aI (aU aO (aT (aB (aA 1) aC)) (aA 0))) aC)))
def oH:cq->cq:=λa=>cn 4 2 (aD (fc (eB (aU lP (aA 0) (eC (.int 0)))) (ap (bZ (aB (aT aC) aC))) fw)
 (aD (aF 2 (bZ aC))
 (aD (ba (qK (aB '+' (aB (aU aO (aE fU (aB (aA 0) (aB (aA 1) aC))) '+') aC))) (gN 3) (Sk a))
 (ap (aA 2)))))
def R0:SS:=(br (aE CV (aB (aA 2) (aB (aA 3) (aB (aA 4) aC)))))
def Cy:cq:=cn 5 2 (aD (aF 2 (aE CN (aB (aA 0) aC)))
 (aD (ba (aH (aA 1)) (gT 2 (ai (gN 3) (ai (gN 4) cg))) R0)
 (ap (aE bi (aB (aE bj (aB (aA 2) aC)) aC)))))
def vZ:cq:=cn 2 2 (br (aE jO (aB (gi (aA 0) (aB (aE uq (aB (aA 1) aC)) (aB eO aC))) (aB (aA 1) aC))))
def Cb:SS:=(br (aE vZ (aB (aA 1) (aB (aA 2) aC))))
def EL:SS:=(br (aE vZ (aB (aA 1) (aB (aA 6) aC))))
def EM:SS:=(aD (aF 5 (aE Ca (aB (aA 2) aC)))
 (fc (cD (aA 5)) (aD (br (bw (aA 3) (aB (aT (aB (aA 2) (aB (aU cB (aA 5) (eC (.int 0))) aC))) aC)))
 (ba (aH (aE rL (aB (aA 2) (aB (aU cB (aA 5) (eC (.int 0))) aC)))) (gN 6) EL)) fw))
def EN:SS:=(aD (aF 4 (kS (aA 1) (aB (aE hU (aB (aA 1) aC)) aC)))
 (ba (aH (aE bj (aB (aA 4) aC))) (gN 2) EM))
def oJ:cq:=cn 7 1 (aD (aF 1 i9)
 (aD (ba (aH (aA 0)) (gN 2) Cb)
 (aD (aF 3 (bZ aC))
 (aD (cM (jF (aA 1)) EN)
 (ap (lV (aA 3)))))))
def vL:cq:=cn 1 1 (ap (aE Cy (aB (aA 0) (aB (aE oJ (aB (aA 0) aC)) aC))))
end Dd
namespace L2
namespace St
end St
end L2
namespace L2
open PySem.W PyProof.Rows Spec
namespace St
end St
end L2
namespace L2
open Spec PyProof.Rows PySem.W
end L2
namespace Dd
open L2 PyProof.Rows
end Dd
namespace L2
open Spec PyProof.Rows PySem.W
end L2
namespace Dd
open L2 PyProof.Rows
end Dd
namespace Dd
open L2
noncomputable def cF(j:Int):Prop:=-(2^62)<=j/\j<2^62
instance (j:Int):Decidable (cF j):=by unfold cF;infer_instance
theorem m4(b:-1000000000000<=j)(a:j<=1000000000000):cF j:=⟨by lia,by lia⟩
@[simp] theorem tJ:eC d σ au=.ok d au:=rfl
@[simp] theorem rW:aA i σ au=(match σ[i]? with
 |some (some d)=>.ok d au
 |_=>.stuck):=rfl
@[simp] theorem we:aU g f f' σ au=(f σ au).bind λx a=>(f' σ a).bind λy st2=>g x y st2:=rfl
@[simp] theorem VO:jk g f σ au=(f σ au).bind λx st1=>g x st1:=rfl
@[simp] theorem lh:aE g f σ au=(f σ au).bind λa st1=>g a st1:=rfl
@[simp] theorem wB:aC σ au=.ok [] au:=rfl
@[simp] theorem oy:aB f g σ au=(f σ au).bind λx a=>(g σ a).bind λb st2=>.ok (x::b) st2:=rfl
@[simp] theorem BC:eB f σ au=(f σ au).bind λv a=>(match v with
 |.bl b=>.ok b a
 |_=>.stuck):=rfl
@[simp] theorem ue:cD f σ au=(f σ au).bind λv a=>(match lG a v with
 |some b=>.ok b a
 |none=>.stuck):=rfl
@[simp] theorem rV:jD f f' σ au=(f σ au).bind λv a=>(match v with
 |.bl true=>f' σ a
 |.bl false=>.ok (.bl false) a
 |_=>.stuck):=rfl
@[simp] theorem F5:qM f f' σ au=(f σ au).bind λv a=>(match v with
 |.bl true=>.ok (.bl true) a
 |.bl false=>f' σ a
 |_=>.stuck):=rfl
@[simp] theorem wT:io f σ au=(f σ au).bind λv a=>(match v with
 |.bl b=>.ok (.bl (!b)) a
 |_=>.stuck):=rfl
@[simp] theorem GF:jG f f' σ au=(f σ au).bind λb st1=>if b=true then f' σ st1 else .ok false st1:=rfl
@[simp] theorem rD:kX f f' σ au=(f σ au).bind λb st1=>if b=true then .ok true st1 else f' σ st1:=rfl
@[simp] theorem wC:dW f σ au=(f σ au).bind λb st1=>.ok (!b) st1:=rfl
@[simp] theorem VR:aI σ au=.ok true au:=rfl
@[simp] theorem F4:BB c f f' σ au=(c σ au).bind λb st1=>if b=true then f σ st1 else f' σ st1:=rfl
@[simp] theorem Hk:aT g σ au=(g σ au).bind λb a=>if b.length<=sizeLine then .ok (.tup b) a else .stuck:=rfl
@[simp] theorem Hj:ip g σ au=(g σ au).bind λb a=>if b.length<=sizeLine then .ok (.lst b) a else .stuck:=rfl
@[simp] theorem Jr:bZ g σ au=(g σ au).bind λb a=>if b.length<=sizeLine then .ok (.ref a.length) (a++[.lst b]) else .stuck:=rfl
@[simp] theorem LB:dQ g g' f f' f'' σ au=(f σ au).bind λx d=>(f' σ d).bind λy b=>(g x y b).bind λz a=>(match z with
 |.bl true=>(f'' σ a).bind λw c=>g' y w c
 |.bl false=>.ok (.bl false) a
 |_=>.stuck):=rfl
@[simp] theorem VY:eO σ au=.ok (.ref au.length) (au++[.dT []]):=rfl
@[simp] theorem VP:fw σ au=.ok (.nx σ) au:=rfl
@[simp] theorem VV:zS σ au=.ok (.brk σ) au:=rfl
@[simp] theorem qV:ap f σ au=(f σ au).bind λv st1=>.ok (.ret v) st1:=rfl
@[simp] theorem V2:qB σ au=.ok (.ret .non) au:=rfl
@[simp] theorem EH:br f σ au=(f σ au).bind λ_ st1=>.ok (.nx σ) st1:=rfl
@[simp] theorem VW:aF i f σ au=(f σ au).bind λv st1=>.ok (.nx (σ.set i (some v))) st1:=rfl
@[simp] theorem Ix:aD s t σ au=(match s σ au with
 |.ok (.nx σ1) st1=>t σ1 st1
 |r=>r):=rfl
@[simp] theorem j7:fc c s t σ au=(c σ au).bind λb st1=>if b=true then s σ st1 else t σ st1:=rfl
@[simp] theorem Iu:lH i g f σ au=(match σ[i]? with
 |some (some x)=>(f σ au).bind λy b=>(g x y b).bind λz a=>.ok (.nx (σ.set i (some z))) a
 |_=>.stuck):=rfl
@[simp] theorem BQ:ba it bd body σ au=(it σ au).bind λa st1=>dU bd body a σ st1:=rfl
@[simp] theorem wV:aH f σ au=(f σ au).bind λx a=>(match gV x with
 |some xs=>.ok xs a
 |none=>.stuck):=rfl
@[simp] theorem Ga:hG g σ au=(g σ au).bind λb a=>(match b with
 |[.int j]=>if cF j then .ok (rng 0 j.toNat) a else .stuck
 |_=>.stuck):=rfl
@[simp] theorem Gb: qK g σ au=(g σ au).bind λb a=>(match b with
  |[.int i,.int j]=>if cF i/\cF j then .ok (rng i (j-i).toNat) a else .stuck
  |_=>.stuck):=by
  show(g σ au).bind _=_
  congr 1
  funext b a
  split
  · unfold cF
    simp only[and_assoc]
  · rename_i h
    first
      |rfl
      | (split
         · rename_i i j
           exact absurd rfl (h i j)
         · rfl)
@[simp] theorem V0:iK f σ au=(f σ au).bind λx a=>(match x with
 |.ref n=>(match a[n]? with
  |some (.dT kvs)=>.ok (aJ (kvs.map (·.1))) (a.set n (.fT kvs))
  |_=>.stuck)
 |_=>.stuck):=rfl
@[simp] theorem pV:aG it k is bd c f σ au=(it σ au).bind λd b=>if d.length<=sizeLine then(bx bd c f d (aV k is σ) b).bind λe a=>.ok (.lst e) a else .stuck:=rfl
@[simp] theorem F3:lV f σ au=(f σ au).bind λx a=>(match x with
 |.ref n=>(match a[n]? with
  |some (.lst xs)=>.ok (.lst xs) (a.set n .dead)
  |_=>.stuck)
 |_=>.stuck):=rfl
@[simp] theorem V1:gr σ au=.ok none au:=rfl
@[simp] theorem J9:gq f σ au=(f σ au).bind λv a=>(match v with
 |.int i=>.ok (some i) a
 |_=>.stuck):=rfl
@[simp] theorem F6 {lo:DS->aa->bu (Option Int)}:qL f lo hi σ au=(f σ au).bind λx c=>(lo σ c).bind λl b=>(hi σ b).bind λh a=>(match x with
 |.tup xs=>.ok (.tup (cutD xs l h)) a
 |x=>match eI a x with
  |some xs=>.ok (.lst (cutD xs l h)) a
  |none=>.stuck):=rfl
@[simp] theorem QO:bw f g σ au=(f σ au).bind λx b=>(match x,eI b x with
 |.ref n,some _=>(g σ b).bind λc a=>(match c,a[n]? with
  |[y],some (.lst xs)=>if xs.length<sizeLine then .ok .non (a.set n (.lst (xs++[y]))) else .stuck
  |_,_=>.stuck)
 |_,_=>.stuck):=rfl
@[simp] theorem Nq:eA f g σ au=(f σ au).bind λx b=>(match x,eI b x with
 |.ref n,some _=>(g σ b).bind λc a=>(match c,a[n]? with
  |[y],some (.lst xs)=>(match eI a y with
   |some zs=>if xs.length+zs.length<=sizeLine then .ok .non (a.set n (.lst (xs++zs))) else .stuck
   |none=>.stuck)
  |_,_=>.stuck)
 |_,_=>.stuck):=rfl
@[simp] theorem MN:fu f g h σ au=(h σ au).bind λv c=>(f σ c).bind λx b=>(g σ b).bind λy a=>(match x,y with
 |.ref n,.int k=>(match a[n]? with
  |some (.lst xs)=>(match kP xs.length k with
   |some j=>.ok (.nx σ) (a.set n (.lst (xs.set j v)))
   |none=>.stuck)
  |_=>.stuck)
 |_,_=>.stuck):=rfl
@[simp] theorem LC:ja f g h σ au=(f σ au).bind λx b=>(match pairsOf b x with
 |some _=>(g σ b).bind λy c=>(h σ c).bind λz a=>(match pairsOf a x,eG y with
  |some kvs,some k=>.ok ((cQ kvs k).getD z) a
  |_,_=>.stuck)
 |none=>.stuck):=rfl
@[simp] theorem VZ:kU f g σ au=(f σ au).bind λx b=>(match pairsOf b x with
 |some _=>(g σ b).bind λy a=>(match x,eG y with
  |.ref n,some k=>(match a[n]? with
   |some (.dT kvs)=>(match cQ kvs k with
    |some v=>.ok v (a.set n (.dT (iN kvs k)))
    |none=>.stuck)
   |_=>.stuck)
  |_,_=>.stuck)
 |none=>.stuck):=rfl
@[simp] theorem EG:gp f g h σ au=(h σ au).bind λv c=>(f σ c).bind λx b=>(g σ b).bind λy a=>(match x,eG y with
 |.ref n,some k=>(match a[n]? with
  |some (.dT kvs)=>if kvs.length<sizeLine then .ok (.nx σ) (a.set n (.dT (i3 kvs k v))) else .stuck
  |_=>.stuck)
 |_,_=>.stuck):=rfl
theorem wf:cn n np b ds au=if ds.length=np then(match b (ds.map some++List.replicate (n-np) none) au with
 |.ok (.ret v) st'=>.ok v st'
 |.ok (.nx _) st'=>.ok .non st'
 |.exc x st'=>.exc x st'
 |_=>.stuck) else .stuck:=rfl
@[simp] theorem O8 [DecidableRel C]:oI C h (.int i) (.int j) au=if C i j then .ok (h i j) au else .stuck:=rfl
@[simp] theorem VS:aO (.int i) (.int j) au=.ok (.int (i+j)) au:=rfl
@[simp] theorem xk:aO (.tup a) (.tup b) au=if a.length+b.length<=sizeLine then .ok (.tup (a++b)) au else .stuck:=rfl
@[simp] theorem VT:fQ (.int i) (.int j) au=.ok (.bl (decide (i<j))) au:=rfl
@[simp] theorem VU:eH (.int i) au=.ok (.int (-i)) au:=rfl
@[simp] theorem vR (ns:List Int):bv (ns.map .int)=some ns:=by
 induction ns with
 |nil=>rfl
 |cons n ns ih=>rw[bP,bv,ih];rfl
@[simp] theorem TJ (l:'$'):fC (aJ l)=some l:=by
 induction l with
 |nil=>rfl
 |cons n ns ih=>
  unfold aJ at ih ⊢;rw[bP,fC,vR,ih];rfl
@[simp] theorem rm (ns:List Int):eG (aL ns)=some ns:=vR ns
theorem Ce:dataOf au (.int i)=some (.int i):=rfl
@[simp] theorem Gf:lP (.int i) (.int j) au=.ok (.bl (decide (i=j))) au:=by
 show fy false (.int i) (.int j) au=_;unfold fy;rw[Ce,Ce];dsimp only;rw[if_pos ⟨rfl,rfl⟩];show bu.ok (D.bl (i==j)) au=_;rw[show(i==j)=decide (i=j) from by rw[mf];simp]
@[simp] theorem Gh:lN (.int i) (.int j) au=.ok (.bl (!decide (i=j))) au:=by
 show fy true (.int i) (.int j) au=_;unfold fy;rw[Ce,Ce];dsimp only;rw[if_pos ⟨rfl,rfl⟩];show bu.ok (D.bl (!(i==j))) au=_;rw[show(i==j)=decide (i=j) from by rw[mf];simp]
theorem Nm(a:List Int):cP (a.map .int)=some (dI a):=by
 induction a with
 |nil=>rfl
 |cons n a ih=>rw[bP,cP,ih];rfl
theorem Nn(l:'$'):cP (aJ l)=some (l.map eD):=by
 induction l with
 |nil=>rfl
 |cons n ns ih=>
  unfold aJ at ih ⊢;rw[bP,cP,ih,fq,Nm];rfl
abbrev aK(l:'$'):D:=.tup (aJ l)
theorem P9(l:'$'):dataOf au (aK l)=some (.tuple (l.map eD)):=by
 show(cP (aJ l)).map PyData.tuple=_;rw[Nn];rfl
theorem B4(a b:'$'):fy neg (aK a) (aK b) au=.ok (.bl (if neg then !decide (a=b) else decide (a=b))) au:=by
 unfold fy;rw[P9,P9];dsimp only;rw[if_pos ⟨RO a,RO b⟩];have e:PyData.eqv (.tuple (a.map eD)) (.tuple (b.map eD))=decide (a=b):=QJ a b;rw[e]
theorem small(n:Nat)(h:n<=1000000):n<=sizeLine:=by rw[iC];lia
theorem cx(n:Nat)(h:n<=1000000):n<sizeLine:=by rw[iC];lia
theorem xX(I:Nat->DS->aa->Prop):∀(g:List D) (k:Nat) (b:DS) (a:aa),I k b a ->
  (∀i x b a,g[i]?=some x->I (k+i) b a->∃j f c,bd x b=some j/\body j a=.ok (.nx f) c/\I (k+i+1) f c)->∃e d,dU bd body g b a=.ok (.nx e) d/\I (k+g.length) e d
 |[],k,b,a,h,_=>⟨b,a,rfl,h⟩
 |x::g,k,b,a,h,s=>by
  obtain⟨j,f,c,n,o,q⟩:=s 0 x b a rfl h;obtain⟨e,d,m,p⟩:=xX I g (k+1) f c q λi y b a r l=>by
   have:=s (i+1) y b a (by simpa using r) (by rw[show k+(i+1)=k+1+i by lia];exact l);rw[show k+(i+1)+1=k+1+i+1 by lia] at this;exact this
  refine⟨e,d,?_,by rw[dm,show k+(g.length+1)=k+1+g.length by lia];exact p⟩;unfold dU;rw[n];dsimp only;rw[o];exact m
theorem qU(I:Nat->DS->aa->Prop) (g:I 0 σ au)
  (s:∀i x σ au,xs[i]?=some x->I i σ au->∃b d a,bd x σ=some b/\body b au=.ok (.nx d) a/\I (i+1) d a):∃c st',dU bd body xs σ au=.ok (.nx c) st'/\I xs.length c st':=by
 have:=xX I xs 0 σ au g λi x σ au f e=>by
  rw[jS] at e ⊢;exact s i x σ au f e
 rw[jS] at this;exact this
theorem BO{lo:Int}(h:(rng lo n)[i]?=some x):i<n/\x=.int (lo+i):=pZ h
theorem lp(lo:Int)(n:Nat):(rng lo n).length=n:=by simp[rng]
theorem ER(I:Nat->List D->DS->aa->Prop):∀(n:List D) (k:Nat) (a:List D) (l:DS) (j:aa),I k a l j ->
  (∀i x a l j,n[i]?=some x->I (k+i) a l j->∃d b e,bd x l=some d/\c d j=.ok b e/\((b=false/\I (k+i+1) a d e)\/(b=true/\∃y g,f d e=.ok y g/\I (k+i+1) (a++[y]) d g))) ->
  ∃p o m,bx bd c f n l j=.ok p m/\I (k+n.length) (a++p) o m
 |[],k,a,l,j,h,_=>⟨[],l,j,rfl,by rw[lD];exact h⟩
 |x::n,k,a,l,j,h,s=>by
  have w:∀i y a l j,n[i]?=some y->I (k+1+i) a l j->∃d b e,bd y l=some d/\c d j=.ok b e/\((b=false/\I (k+1+i+1) a d e)\/(b=true/\∃z g,f d e=.ok z g/\I (k+1+i+1) (a++[z]) d g)):=λi y a l j C A=>by
   have:=s (i+1) y a l j (by simpa using C) (by rw[show k+(i+1)=k+1+i by lia];exact A);rw[show k+(i+1)+1=k+1+i+1 by lia] at this;exact this
  obtain⟨d,b,e,u,v,q⟩:=s 0 x a l j rfl h;rcases q with⟨rfl,q⟩|⟨rfl,y,g,E,q⟩
  ·obtain⟨p,o,m,t,r⟩:=ER I n (k+1) a d e q w;refine⟨p,o,m,?_,by rw[dm,show k+(n.length+1)=k+1+n.length by lia];exact r⟩;unfold bx;rw[u];dsimp only;rw[v];exact t
  ·obtain⟨p,o,m,t,r⟩:=ER I n (k+1) (a++[y]) d g q w;refine⟨y::p,o,m,?_,by rw[dm,show k+(n.length+1)=k+1+n.length by lia];rw[dE] at r;exact r⟩;unfold bx;rw[u];dsimp only;rw[v];dsimp only[zt];rw[if_pos rfl,E];dsimp only[zt];rw[t]
   rfl
theorem qY(I:Nat->List D->DS->aa->Prop) (m:I 0 [] σ au)
  (s:∀i x d σ au,xs[i]?=some x->I i d σ au->∃a b e,bd x σ=some a/\c a au=.ok b e/\((b=false/\I (i+1) d a e)\/(b=true/\∃y g,f a e=.ok y g/\I (i+1) (d++[y]) a g))):
  ∃k h st',bx bd c f xs σ au=.ok k st'/\I xs.length k h st':=by
 have:=ER I xs 0 [] σ au m λi x d σ au l j=>by
  rw[jS] at j ⊢;exact s i x d σ au l j
 rw[jS] at this
 simpa using this
theorem TC(I:Nat->DS->aa->Prop)(d:DS->aa->Prop) (r:I k σ au)(t:k<mW)
  (s:∀j σ au,I j σ au->∃b e,c σ au=.ok b e/\((b=false/\d σ e)\/(b=true/\∃i g f,body σ e=.ok (.nx g) f/\I i g f/\i<j))):∃a st',cM c body σ au=.ok (.nx a) st'/\d a st':=by
 have l:∀n j σ au,I j σ au->j<n->∃a st',dw c body n σ au=.ok (.nx a) st'/\d a st':=by
  intro n
  induction n with
  |zero=>intro j σ au _ h;lia
  |succ n ih=>
   intro j σ au u w;obtain⟨b,e,p,h⟩:=s j σ au u;unfold dw;rw[p];dsimp only[zt];rcases h with⟨rfl,h⟩|⟨rfl,i,g,f,m,v,x⟩
   ·exact⟨σ,e,by rw[if_neg ')'],h⟩
   ·obtain⟨a,st',o,q⟩:=ih i g f v '!';refine⟨a,st',?_,q⟩;rw[if_pos rfl,m];exact o
 exact l mW k σ au r t
@[simp] theorem Wd:cy au (.tup xs)=some xs:=rfl
@[simp] theorem Wc:cy au (.scr xs)=some xs:=rfl
@[simp] theorem Wb:cy au (.lst xs)=some xs:=rfl
@[simp] theorem Wa:gV (.tup xs)=some xs:=rfl
@[simp] theorem V8:gV (.lst xs)=some xs:=rfl
@[simp] theorem V9:gV (.scr xs)=some xs:=rfl
@[simp] theorem VX:eI au (.lst xs)=some xs:=rfl
theorem nQ(h:au[n]?=some (.lst xs)):eI au (.ref n)=some xs:=by
 unfold eI;dsimp only;rw[h]
theorem oC(h:au[n]?=some (.lst xs)):cy au (.ref n)=some xs:=nQ h
theorem lc(h:cy au x=some xs)(a:L2.atI xs i=some d):cB x (.int i) au=.ok d au:=by
 unfold cB;rw[h];dsimp only;rw[a]
theorem xK(h:cy au x=some xs):bU [x] au=.ok (.int xs.length) au:=by
 unfold bU;dsimp only;rw[h]
@[simp] theorem V5:bU [.tup xs] au=.ok (.int xs.length) au:=rfl
@[simp] theorem V3:bU [.lst xs] au=.ok (.int xs.length) au:=rfl
@[simp] theorem V4:bU [.scr xs] au=.ok (.int xs.length) au:=rfl
@[simp] theorem VQ:lW [.int i] au=.ok (.int (if i<0 then -i else i)) au:=rfl
@[simp] theorem VN:va g [.int i,.int j] au=.ok (.int (g i j)) au:=rfl
@[simp] theorem V6:iq [aL ns] au=.ok (.int ns.sum) au:=by
 unfold iq;simp
@[simp] theorem We:bi [.tup xs] au=.ok (.tup xs) au:=rfl
@[simp] theorem TK:bi [.lst xs] au=.ok (.tup xs) au:=rfl
theorem Fp(h:au[n]?=some (.lst xs)):bi [.ref n] au=.ok (.tup xs) au:=by
 unfold bi;dsimp only;rw[nQ h]
theorem UT{l:'$'}(h:l.length<=1000000):bj [.lst (aJ l)] au=.ok (.lst (aJ (aw l))) au:=by
 unfold bj;simp[h]
theorem US(h:au[n]?=some (.dT kvs))(a:kvs.length<=1000000):bj [.ref n] au=.ok (.lst (aJ (aw (kvs.map (·.1))))) au:=by
 unfold bj eI pairsOf;simp[h,a]
theorem PY{j:Nat}(h:xs[j]?=some d):L2.atI xs (j:Int)=some d:=vo h
theorem l9{a:aa}(h:n<a.length):(a.set n o)[n]?=some o:=pq h
section
variable {au:aa}{n:Nat}
theorem gP{o:O}(h:au[n]?=some o):n<au.length:=(cK.mp h).1
end
theorem MQ{a:aa}:(a.set n o).set n p=a.set n p:=List.set_set _
section
variable {au:aa}{n:Nat}{i:Int}
theorem Iy{o:O}(h:au[n]?=some o):au.set n o=au:=by
 apply Ds;intro i;by_cases e:i=n
 ·subst e;rw[pq (gP h),h]
 ·rw[fj (cO e)]
end
theorem je{a:List D}(h:a.length=np)(e:b (a.map some++List.replicate (n-np) none) au=.ok (.ret v) st'):cn n np b a au=.ok v st':=by
 rw[wf,if_pos h,e]
theorem rG{a:List D}(h:a.length=np)(e:b (a.map some++List.replicate (n-np) none) au=.ok (.nx σ) st'):cn n np b a au=.ok .non st':=by
 rw[wf,if_pos h,e]
noncomputable abbrev fB(c x:Int):O:=.lst [.int c,.int x]
def cS(a:aa) (n:Nat):Prop:=∃c x:Int,a[n]?=some (fB c x)/\0<=c/\0<=x
structure cI (au st':aa) (n:Nat):Prop where
 len:au.length<=st'.length
 keep:∀ i,i<au.length->i≠n->st'[i]?=au[i]?
 bag:cS st' n
theorem cI.trans(a:cI au st1 n)(b:cI st1 st2 n):cI au st2 n:=
 ⟨ax a.len b.len,λi d c=>(b.keep i (df d a.len) c).trans (a.keep i d c),b.bag⟩
theorem cI.set{a:aa}{n:Nat}{c x:Int}(h:cS a n)(f:0<=c)(b:0<=x):cI a (a.set n (fB c x)) n:=by
 obtain⟨_,_,e,_⟩:=h;exact⟨by rw[iY];exact aY _,λi _ d=>fj (cO d),c,x,l9 (gP e),f,b⟩
theorem cI.more{a:aa}{n:Nat}(h:cS a n)(g:aa):cI a (a++g) n:=by
 obtain⟨c,x,e,d,b⟩:=h;exact⟨by rw[dq];lia,λi h _=>h8 h,c,x,by rw[h8 (gP e)];exact e,d,b⟩
theorem vx{au:aa}{n:Nat}{m:Int}(o:cS au n)(h1:1<=m)(h2:m<2^1000):
  ∃r f,zx [.ref n,.int m] au=.ok (.int r) f/\0<=r/\r<m/\cI au f n/\f.length=au.length:=by
 obtain⟨c,x,l,v,G⟩:=id o;have E:∀{c x:Int}{au:aa},au[n]?=some (fB c x)->cB (.ref n) (.int 0) au=.ok (.int c) au:=λh=>lc (oC h) rfl
 have u:∀{c x:Int}{au:aa},au[n]?=some (fB c x)->cB (.ref n) (.int 1) au=.ok (.int x) au:=λh=>lc (oC h) rfl
 by_cases h0:0<c
 ·have J:gv c m:=⟨by lia,h2⟩
  have X:kP 2 0=some 0:=rfl;refine⟨c%m,au.set n (fB (c/m) x),je rfl ?_,yR _ '!',Int.emod_lt_of_pos _ '!',cI.set o (Int.ediv_nonneg v '!') G,iY⟩;simp[E l,h0,l,X,show(0:Int)<m by lia,J]
 ·have g:=gP l
  have W:=TC (c:=eB (aU fQ (aA 4) (aA 1))) (body:=aD (fu (aA 0) '+' (aU ik (aU aO (aU bR (aU cB (aA 0) '+') (eC (.int 48271))) (eC (.int 7919))) (eC (.int 2147483647))))
   (aD (aF 3 (aU aO (aU bR (aA 3) (eC (.int 1073741789))) (aU ik (aU bR (aU fR (aU cB (aA 0) '+') (eC (.int 8))) (eC (.int 69621))) (eC (.int 1073741789)))))
   (aF 4 (aU bR (aA 4) (eC (.int 1073741789)))))) (k:=1000) (σ:=[some (.ref n),some (.int m),none,some (.int 0),some (.int 1)]) (au:=au)
   (λj i s=>∃b a d rr:Int,i=[some (.ref n),some (.int m),none,some (.int d),some (.int rr)]/\s=au.set n (fB b a)/\0<=b/\0<=a/\0<=d/\j<=1000/\2^(1000-j)<=rr)
   (λi s=>∃b a d:Int,(∃rr,i=[some (.ref n),some (.int m),none,some (.int d),some (.int rr)])/\s=au.set n (fB b a)/\0<=b/\0<=a/\0<=d)
   ⟨c,x,0,1,rfl,(Iy l).symm,v,G,by lia,by lia,by decide⟩ ')' (by
    rintro j i s ⟨b,a,d,rr,rfl,rfl,q,C,A,a4,T⟩;have w:(au.set n (fB b a))[n]?=some (fB b a):=l9 g;by_cases hlt:rr<m
    ·have hj:1<=j:=by
      rcases Dx j with z|z
      ·subst z;have R:(2:Int)^1000<=rr:=T;lia
      ·exact z
     have S:kP 2 1=some 1:=rfl;have H:eS a 48271:=.inr ⟨by decide,by decide⟩;have U:eS d 1073741789:=.inr ⟨by decide,by decide⟩;have Y:eS rr 1073741789:=.inr ⟨by decide,by decide⟩;have P:∀y:Int,(au.set n (fB b y))[n]?=some (fB b y):=λy=>l9 g
     have Q:∀y:Int,eS y 69621:=λy=>.inr ⟨by decide,by decide⟩
     have I:∀y:Int,gv y 8:=λy=>⟨by decide,by decide +kernel⟩
     refine⟨true,au.set n (fB b a),by simp[hlt],.inr ⟨rfl,j-1,_,au.set n (fB b ((a*48271+7919)%2147483647)),?_,⟨b,(a*48271+7919)%2147483647,d*1073741789+(a*48271+7919)%2147483647/8*69621%1073741789,rr*1073741789,rfl,rfl,q,?_,?_,by lia,?_⟩,by lia⟩⟩
     ·simp[u w,w,S,H,U,Y,Q,I,u (P _)]
     ·exact yR _ '!'
     ·have q:0<=d*1073741789:=Df A '!';have C:=yR ((a*48271+7919)%2147483647/8*69621) (show(1073741789:Int)≠0 by lia);lia
     ·have e:(2:Int)^(1000-(j-1))=2^(1000-j)*2:=by
       rw[←Int.pow_succ];congr 1;lia
      rw[e];have hp:(0:Int)<=2^(1000-j):=Int.pow_nonneg ')';lia
    ·exact⟨false,_,by simp[hlt],.inl ⟨rfl,b,a,d,⟨rr,rfl⟩,rfl,q,C,A⟩⟩)
  obtain⟨a0,f,e,b,a,d,p,t,k1,k2,k3⟩:=W;obtain⟨rr,rfl⟩:=p;subst t;refine⟨d%m,au.set n (fB b a),je rfl ?_,yR _ '!',Int.emod_lt_of_pos _ '!',cI.set o k1 k2,iY⟩;simp[E l,h0,e,show(0:Int)<m by lia]
theorem Rm{a:List Int}(h:j<a.length):L2.atI (a.map D.int) (j:Int)=some (.int a[j]):=vo (by rw[eU,cV h];rfl)
theorem GH{a:List Int}{i:Nat}(C:a.length<=63)(z:i<=100000):∃c x:Int,0<=c/\0<=x/\vJ [.scr (a.map .int),.int i] au=.ok (.ref au.length) (au++[fB c x]):=by
 have d:∃c:Int,0<=c/\fc (eB (aU fQ (aA 1) (aE bU (aB (aA 0) aC)))) (aF 2 (aE lW (aB (aU cB (aA 0) (aA 1)) aC))) fw [some (.scr (a.map .int)),some (.int i),some (.int 0),none,none] au
   = .ok (.nx [some (.scr (a.map .int)),some (.int i),some (.int c),none,none]) au:=by
  by_cases h:i<a.length
  ·have e:cB (.scr (a.map .int)) (.int i) au=.ok (.int a[i]) au:=lc rfl (Rm h);refine⟨if a[i]<0 then -a[i] else a[i],by split<;>lia,?_⟩;simp[h,e]
  ·exact⟨0,by lia,by simp[h]⟩
 obtain⟨c,t,f⟩:=d;have q:(if(60:Int)<(a.length:Int) then(60:Int) else a.length).toNat<=a.length:=by split<;>lia
 have W:=qU (bd:=gN 4) (body:=aF 3 (aU ik (aU aO (aU aO (aU bR (aA 3) (eC (.int 48271))) (aU ik (aU cB (aA 0) (aA 4)) (eC (.int 2147483647)))) (aA 4)) (eC (.int 2147483629))))
  (xs:=rng 0 (if(60:Int)<(a.length:Int) then(60:Int) else a.length).toNat) (σ:=[some (.scr (a.map .int)),some (.int i),some (.int c),some (.int (7919*i+17)),none]) (au:=au)
  (λj l s=>s=au/\∃(b:Int) (v:Option D),l=[some (.scr (a.map .int)),some (.int i),some (.int c),some (.int b),v]/\0<=b) ⟨rfl,_,none,rfl,by lia⟩ (by
   rintro j x l s y ⟨rfl,b,v,rfl,g⟩;obtain⟨A,rfl⟩:=BO y;have m:j<a.length:=by lia
   have e:cB (.scr (a.map .int)) (.int (0+j)) s=.ok (.int a[j]) s:=lc rfl (by rw[su];exact Rm m);rw[su] at e;have r:eS b 48271:=.inr ⟨by decide,by decide⟩;refine⟨_,[some (.scr (a.map .int)),some (.int i),some (.int c),some (.int ((b*48271+a[j]%2147483647+j)%2147483629)),some (.int (0+j))],s,rfl,?_,rfl,_,_,rfl,yR _ '!'⟩
   simp[e,r])
 obtain⟨w,u,e,rfl,b,v,rfl,g⟩:=W;have n:eS 7919 (i:Int):=.inl ⟨by decide,by decide⟩;have o:jN 10 18:=⟨by decide,by decide,by decide⟩
 have p:cF (if(60:Int)<(a.length:Int) then(60:Int) else a.length):=by
  split<;>exact m4 '!' '!'
 by_cases hlt:c<1000000000000000000
 ·refine⟨0,b,by lia,g,je rfl ?_⟩;have k:=small 2 '!';simp at f;simp[f,n,p,e,o,hlt,k]
 ·refine⟨c,b,t,g,je rfl ?_⟩;have k:=small 2 '!';simp at f;simp[f,n,p,e,o,hlt,k]
theorem ft(h:s σ au=.ok (.nx σ1) st1)(k:t σ1 st1=r):aD s t σ au=r:=by
 rw[Ix,h];exact k
noncomputable def aR(a:'$') (k:List Int):List (List Int):=if k∈a then a.filter (λx=>decide (x≠k)) else a++[k]
def aP(l:'$'):List (List Int):=l.foldl aR []
theorem ln:x∈aR ks k↔(x∈ks/\x≠k)\/(x=k/\k∉ks):=by
 unfold aR;split
 ·rename_i h;simp[gA,h]
 ·rename_i h;simp only[fh,eY];constructor
  ·rintro(z|rfl)
   ·exact .inl ⟨z,λe=>h (e ▸ z)⟩
   ·exact .inr ⟨rfl,h⟩
  ·rintro(⟨z,_⟩|⟨z,_⟩)
   ·exact .inl z
   ·exact .inr z
theorem p7{c:'$'}(h:c.Nodup):(aR c k).Nodup:=by
 unfold aR;split
 ·exact h.filter _
 ·rename_i f;rw[sL];exact⟨h,by simp,λa g b d=>by simp at d;subst d;exact λe=>f (e ▸ g)⟩
theorem RT(a:'$')(k:List Int):(aR a k).length<=a.length+1:=by
 unfold aR;split
 ·exact qk (uW _ _)
 ·simp
theorem pY:∀(l b:'$'),b.Nodup->(l.foldl aR b).Nodup/\(l.foldl aR b).length<=b.length+l.length/\∀x,x∈l.foldl aR b↔(l.count x+if x∈b then 1 else 0)%2=1
 |[],b,h=>⟨h,by simp,λx=>by by_cases e:x∈b<;>simp[e]⟩
 |a::l,b,h=>by
  obtain⟨f,g,d⟩:=pY l (aR b a) (p7 h);refine⟨f,?_,λx=>?_⟩
  ·have:=RT b a;rw[sJ,dm];lia
  ·rw[sJ,d x,yQ];by_cases e:x=a
   ·subst e;by_cases k:x∈b
    ·have q:x∉aR b x:=by rw[ln];simp[k]
     simp only[q,k,hZ,iB,uH]<;>lia
    ·have q:x∈aR b x:=by rw[ln];simp[k]
     simp only[q,k,hZ,iB,uH]<;>lia
   ·have c:(a==x)=false:=by simpa using λz:a=x=>e z.symm
    by_cases k:x∈b
    ·have q:x∈aR b a:=by rw[ln];simp[k,e]
     simp[q,k,c]
    ·have q:x∉aR b a:=by rw[ln];simp[k,e]
     simp[q,k,c]
theorem vS(l:'$'):(aP l).Nodup:=(pY l [] o6).1
theorem ry(l:'$'):(aP l).length<=l.length:=by have:=(pY l [] o6).2.1;simpa [aP] using this
theorem rb:x∈aP l↔l.count x%2=1:=by have:=(pY l [] o6).2.2 x;simpa [aP] using this
theorem CO{a b:'$'}(d:a.Nodup)(c:b.Nodup)(h:∀x,x∈a↔x∈b):a.Perm b:=(List.perm_ext_iff_of_nodup d c).mpr h
theorem RK{a:'$'}(h:a.Perm b):aw a=aw b:=E5 ((zj a).trans h) (Cu a)
def aQ(l:'$'):List (List Int):=aw (aP l)
theorem vt{l m:'$'}(a:m.Nodup)(h:∀x,x∈m↔l.count x%2=1):aw m=aQ l:=RK (CO a (vS l) λx=>by rw[h,rb])
theorem L9:x∈aQ l↔l.count x%2=1:=by unfold aQ;rw[(zj _).mem_iff,rb]
theorem EW(h:x∈aQ l):x∈l:=by
 rw[L9] at h;rcases Dx (l.count x) with z|z
 ·rw[z] at h;cases h
 ·exact yZ.mp z
theorem UD(l:'$'):(aQ l).length<=l.length:=by unfold aQ;rw[v8];exact ry l
theorem rq(l:'$'):(aQ l).Nodup:=(zj _).nodup_iff.mpr (vS l)
noncomputable abbrev aS(a:'$'):List (List Int×D):=a.map λk=>(k,.bl true)
theorem Fm:cQ (aS ks) k=if k∈ks then some (.bl true) else none:=by
 induction ks with
 |nil=>rfl
 |cons a ks ih=>
  unfold cQ aS at ih ⊢;rw[bP,mh];by_cases e:a=k
  ·simp[e]
  ·simp only[dj e];rw[ih];simp[bT,show ¬ k=a from λz=>e z.symm]
theorem TZ:iN (aS ks) k=aS (ks.filter λx=>decide (x≠k)):=by
 unfold iN aS;rw[NW]
 rfl
theorem Fh(h:k∉ks):i3 (aS ks) k (.bl true)=aS (ks++[k]):=by
 unfold i3;rw[if_neg]
 ·simp[aS]
 ·simp only[List.any_map,N7,not_exists,not_and];intro x a e;have:x=k:=by simpa using e
  exact h (this ▸ a)
theorem Cs(h:au[n]?=some (.dT kvs)):pairsOf au (.ref n)=some kvs:=by
 unfold pairsOf;dsimp only;rw[h]
theorem Mh(h:au[n]?=some (.fT kvs)):pairsOf au (.ref n)=some kvs:=by
 unfold pairsOf;dsimp only;rw[h]
theorem ym(h:pairsOf au (.ref n)=some kvs):i4 false (aL k) (.ref n) au=.ok (.bl (cQ kvs k).isSome) au:=by
 unfold i4;rw[rm,h]
 rfl
theorem L8(h:pairsOf au (.ref n)=some kvs)(a:cQ kvs k=some v):fk (.ref n) (aL k) au=.ok v au:=by
 unfold fk;rw[rm,h];dsimp only;rw[a]
theorem vq(h:au[n]?=some (.dT (aS ks)))(g:ks.length<=1000000):jO [.ref n,aL k] au=.ok .non (au.set n (.dT (aS (aR ks k)))):=by
 have a:=ym (k:=k) (Cs h);rw[Fm] at a;by_cases hk:k∈ks
 ·refine rG (σ:=[some (.ref n),some (aL k)]) rfl ?_;rw[if_pos hk] at a;have e:cQ (aS ks) k=some (.bl true):=by rw[Fm,if_pos hk]
  have b:aR ks k=ks.filter λx=>decide (x≠k):=by unfold aR;rw[if_pos hk]
  rw[b,←TZ];have f:=Cs h;have c:=rm k;simp only[aL,aS] at *
  simp[a,f,c,h,e]
 ·refine rG (σ:=[some (.ref n),some (aL k)]) rfl ?_;rw[if_neg hk] at a;have b:aR ks k=ks++[k]:=by unfold aR;rw[if_neg hk]
  rw[b,←Fh hk];have c:=rm k;have d:(aS ks).length<sizeLine:=by rw[av];exact cx _ g
  simp only[aL,aS] at *
  simp[a,c,h,d];rw[av] at d;exact d
theorem jg{l:'$'}{i:Nat}(h:(aJ l)[i]?=some x):∃k,l[i]?=some k/\x=aL k:=by
 unfold aJ at h;rw[eU] at h;cases e:l[i]? with
 |none=>rw[e] at h;cases h
 |some k=>rw[e] at h;exact⟨k,rfl,(fY h).symm⟩
theorem ze(l:'$'):(aJ l).length=l.length:=av _
theorem zg{a:Type}{l:List a}{i:Nat}{k:a}(h:l[i]?=some k):l.take (i+1)=l.take i++[k]:=by
 obtain⟨b,e⟩:=cK.mp h;rw[OI b,e]
theorem wL(a:List D)(k:Nat):cutD a none (some (k:Int))=a.take k:=by
 unfold cutD;rw[HT.Qr,HT.yw,List.drop_zero,Nat.sub_zero];rcases Nat.le_total k a.length with h|h
 ·rw[j9 h]
 ·rw[yW h,fi,sT h]
theorem P7(a:List D)(k:Nat):cutD a (some (k:Int)) none=a.drop k:=by
 unfold cutD;rw[HT.Qr,HT.yw];rcases Nat.le_total k a.length with h|h
 ·rw[j9 h,sT (by rw[qg];exact aY _)]
 ·rw[yW h,N3,List.drop_of_length_le h];simp
theorem Sd(l a:'$')(h:a.Nodup):(l.foldl aR a).length<=a.length+l.length:=(pY l a h).2.1
theorem KA{a b:List Int}:(a.map D.int)++(b.map D.int)=(a++b).map D.int:=fX.symm
theorem Fx(h:au[n]?=some (.dT (aS ks)))(a:ks.length<=1000000):bj [.ref n] au=.ok (.lst (aJ (aw ks))) au:=by
 rw[US h (by rw[av];exact a),fJ]
 congr 2
 exact congrArg (λl=>aJ (aw l)) (List.map_id ks)
end Dd
namespace K07
open L2
noncomputable def gZ(e k:Int):Bool:=decide (V.int (Builtin.bitAnd e k)=V.int k)
theorem TM(a b:Nat):Builtin.bitAnd (a:Int) (b:Int)=((a&&&b:Nat):Int):=rfl
theorem Ma(a b:Nat):gZ a b=decide (a&&&b=b):=by
 unfold gZ;rw[TM];by_cases h:a&&&b=b
 ·rw[h];simp
 ·rw[dj h];refine dj λe=>h ?_
  injection e with e
  exact_mod_cast e
end K07
namespace K23
open L2 K07
noncomputable def gX(a b c:Int):List Int:=if 0<c then[a+b-c,c] else[a+b]
def aX(a b:Int) (n:Nat):List (List Int):=((List.range n).filter λ(c:Nat)=>gZ (b-c-1) (a-2*c)).map λ(c:Nat)=>gX a b c
theorem Tj{a b:Int}{n:Nat}(h:gZ (b-n-1) (a-2*n)=true):aX a b (n+1)=aX a b n++[gX a b n]:=by
 unfold aX;rw[sK,sO,fX];simp[Dm,h]
theorem MK{a b:Int}{n:Nat}(h:¬ gZ (b-n-1) (a-2*n)=true):aX a b (n+1)=aX a b n:=by
 unfold aX;rw[sK,sO];simp[Dm,h]
theorem CD(a b:Int)(n:Nat):(aX a b n).length<=n:=by
 unfold aX;rw[av];exact ax (uW _ _) '%'
end K23
namespace Dd
open L2 K07 K23
theorem UE:CG [.int e,.int k] au=.ok (.bl (gZ e k)) au:=by
 refine je rfl ?_;have:decide (Builtin.bitAnd e k=k)=gZ e k:=by
  unfold gZ;rw[mf];simp
 simp[this]
theorem Uy:md [.int i] au=.ok (.bl true) au:=rfl
theorem LD:CZ [.int a,.int b] au=.ok (.bl (decide (a<2*b))) au:=by
 refine je rfl ?_;have m:eS 2 b:=.inl ⟨by decide,by decide⟩;simp[m]
theorem vT(r:List Int):(r.map D.int).length=r.length:=av _
theorem um{r:List Int}{i:Nat}{x:Int}(h:r[i]?=some x):cB (aL r) (.int i) au=.ok (.int x) au:=lc rfl (vo (by rw[eU,h];rfl))
theorem PZ:bU [aL r] au=.ok (.int r.length) au:=by show bu.ok (D.int ((r.map D.int).length:Nat)) au=_;rw[av]
theorem VC(Q:1<=a)(z:a<=60)(R:-1000<=b)(x:b<=1000):∃g,wa [.int a,.int b] au=.ok (.lst (aJ (aw (aX a b (a/2+1).toNat)))) (au++g):=by
 have W:=qU (bd:=gN 3) (body:=FJ) (xs:=rng 0 (a/2+1).toNat) (σ:=[some (.int a),some (.int b),'"',none]) (au:=au++[.lst []])
  (λi l s=>(∃v,l=[some (.int a),some (.int b),'"',v])/\s=au++[.lst (aJ (aX a b i))]) ⟨⟨none,rfl⟩,rfl⟩ (by
   rintro i y l s A ⟨⟨v,rfl⟩,rfl⟩;obtain⟨J,rfl⟩:=BO A;have r:i<=60:=by lia
   have P:=CD a b i;have m:eS 2 (0+(i:Int)):=.inl ⟨by decide,by decide⟩;have h:=UE (au:=au++[.lst (aJ (aX a b i))]) (e:=b-(0+(i:Int))-1) (k:=a-2*(0+(i:Int)));have o:(au++[O.lst (aJ (aX a b i))])[au.length]?=some (.lst (aJ (aX a b i))):=by simp
   have p:=nQ o;have f:(aJ (aX a b i)).length<sizeLine:=by rw[ze];exact cx _ '!'
   have q:=small 1 '!';have C:=small 2 '!';refine⟨[some (.int a),some (.int b),'"',some (.int (0+i))],[some (.int a),some (.int b),'"',some (.int (0+i))],au++[.lst (aJ (aX a b (i+1)))],rfl,?_,⟨_,rfl⟩,rfl⟩;unfold FJ;rw[su] at *
   by_cases c:gZ (b-i-1) (a-2*i)=true
   ·rw[Tj c];rw[c] at h;by_cases c2:0<i
    ·have n:gX a b i=[a+b-i,(i:Int)]:=by unfold gX;rw[if_pos '!']
     have d:(aX a b i).length<sizeLine:=by rw[ze] at f;exact f
     simp[h,m,p,d,c2,C,n,lG,aJ]
    ·have H:i=0:=by lia
     subst H;have n:gX a b 0=[a+b]:=by unfold gX;rw[if_neg '!']
     have d:(aX a b 0).length<sizeLine:=by rw[ze] at f;exact f
     simp at h m;simp[h,m,p,d,q,n,lG,aJ]
   ·have I:gZ (b-i-1) (a-2*i)=false:=by simpa using c
    rw[MK c];rw[I] at h
    simp[h,m,lG])
 obtain⟨G,w,e,⟨v,rfl⟩,rfl⟩:=W;rw[lp] at e;refine⟨[.lst (aJ (aX a b (a/2+1).toNat))],je rfl ?_⟩;have E:gv a 2:=⟨by decide,by decide +kernel⟩
 have u:cF (a/2+1):=m4 '!' '!';have j:(aX a b (a/2+1).toNat).length<=1000000:=by have:=CD a b (a/2+1).toNat;lia
 have o:(au++[O.lst (aJ (aX a b (a/2+1).toNat))])[au.length]?=some (.lst (aJ (aX a b (a/2+1).toNat))):=by simp
 have t:bj [.ref au.length] (au++[.lst (aJ (aX a b (a/2+1).toNat))])=.ok (.lst (aJ (aw (aX a b (a/2+1).toNat)))) (au++[.lst (aJ (aX a b (a/2+1).toNat))]):=by
  unfold bj;simp[nQ o,j]
 simp[E,u,e,t]
noncomputable def bh(r:List Int) (p:Nat):Prop:=∃a b:Int,r[p]?=some a/\r[p+1]?=some b/\a<2*b
instance (r:List Int) (p:Nat):Decidable (bh r p):=
 match h1:r[p]?,h2:r[p+1]? with
 |some a,some b=>if h:a<2*b then .isTrue ⟨a,b,h1,h2,h⟩ else .isFalse λ⟨x,y,e1,e2,e3⟩=>by rw[h1] at e1;rw[h2] at e2;cases e1;cases e2;exact h e3
 |none,_=>.isFalse λ⟨x,y,e1,_⟩=>by rw[h1] at e1;cases e1
 |some _,none=>.isFalse λ⟨x,y,_,e2,_⟩=>by rw[h2] at e2;cases e2
theorem RF{r:List Int}{p:Int}:oD [aL r,.int p] au=.ok (.bl (decide (0<=p/\bh r p.toNat))) au:=by
 have j:=Uy (au:=au) (i:=p);have f:=PZ (au:=au) (r:=r);by_cases h:0<=p/\p<r.length-1
 ·obtain⟨k,rfl⟩:∃k:Nat,p=k:=⟨p.toNat,by lia⟩
  have v:k<r.length:=by lia
  have u:k+1<r.length:=by lia
  have d:r[k]?=some r[k]:=cV v;have e:r[k+1]?=some r[k+1]:=cV u;have n:=um (au:=au) d;have g:=um (au:=au) e;rw[NV] at g;have q:=LD (au:=au) (a:=r[k]) (b:=r[k+1]);have s:(r[k]<2*r[k+1])↔bh r k:=⟨λz=>⟨_,_,d,e,z⟩,λ⟨a,b,l,c,z⟩=>by rw[d] at l;rw[e] at c;cases l;cases c;exact z⟩
  refine je rfl ?_;have o:(k:Int)<r.length-1:=h.2;simp only[aL] at *
  generalize D.tup (r.map D.int)=R at *
  simp[j,f,n,o,lG];simp at g;simp[g,q,s]
 ·have t:¬ (0<=p/\bh r p.toNat):=λm=>by
   obtain⟨z,a,b,l,c,_⟩:=m;have:=(cK.mp c).1;exact h ⟨z,by lia⟩
  refine je rfl ?_;rw[dj t];simp only[aL] at *
  generalize D.tup (r.map D.int)=R at *
  by_cases z:0<=p
  ·have c:¬ p<(r.length:Int)-1:=λy=>h ⟨z,y⟩
   simp[j,f,z,c,lG]
  ·simp[j,f,z,lG]
def bt(r:List Int) (p:Nat):List (List Int):=(aw (aX (r.getD p 0) (r.getD (p+1) 0) (r.getD p 0/2+1).toNat)).map λtwo=>r.take p++two++r.drop (p+2)
theorem RS(r:List Int)(p:Nat):(bt r p).length<=(r.getD p 0/2+1).toNat:=by
 unfold bt;rw[av,v8];exact CD _ _ _
theorem UN:∀r∈aX a b n,r.length<=2:=λr d=>by
 unfold aX at d;obtain⟨c,_,rfl⟩:=cU.mp d;show(gX a b c).length<=2;unfold gX;split<;>simp
theorem Q2{a b:List Int}(h:a.length+b.length<=1000000):aO (aL a) (aL b) au=.ok (aL (a++b)) au:=by
 rw[xk,if_pos (by rw[av,av];exact small _ h),KA]
theorem IT(r:List Int)(k:Nat):cutD (r.map .int) none (some (k:Int))=(r.take k).map .int:=by rw[wL,List.map_take]
theorem Nh(r:List Int)(k:Nat):cutD (r.map .int) (some (k:Int)) none=(r.drop k).map .int:=by rw[P7,List.map_drop]
theorem Sn{r:List Int}{p:Nat}(J:p+1<r.length)(P:r.length<=100)(x:1<=r.getD p 0)(m:r.getD p 0<=60)(C:-1000<=r.getD (p+1) 0)(k:r.getD (p+1) 0<=1000):
  ∃g,rL [aL r,.int p] au=.ok (.lst (aJ (bt r p))) (au++g):=by
 have A:r[p]?=some (r.getD p 0):=by rw[dM,cV '!'];rfl
 have t:r[p+1]?=some (r.getD (p+1) 0):=by rw[dM,cV '!'];rfl
 generalize hA:r.getD p 0=a at *
 generalize hB:r.getD (p+1) 0=b at *
 obtain⟨g,e⟩:=VC (au:=au) x m C k;have Q:(aw (aX a b (a/2+1).toNat)).length<=100:=by
  rw[v8];have:=CD a b (a/2+1).toNat;lia
 have W:=qY (bd:=gN 0) (c:=aI) (f:=aU aO (aU aO (aA 2) (aA 0)) (aA 1)) (xs:=aJ (aw (aX a b (a/2+1).toNat))) (σ:=[none,some (aL (r.drop (p+2))),some (aL (r.take p))]) (au:=au++g)
  (λi d o s=>s=au++g/\(∃v,o=[v,some (aL (r.drop (p+2))),some (aL (r.take p))])/\d=aJ (((aw (aX a b (a/2+1).toNat)).take i).map λtwo=>r.take p++two++r.drop (p+2))) ⟨rfl,⟨none,rfl⟩,rfl⟩ (by
   rintro i y d o s z ⟨rfl,⟨v,rfl⟩,rfl⟩;obtain⟨two,q,rfl⟩:=jg z;have X:two.length<=2:=UN two ((zj _).mem_iff.mp (dF q));have S:(r.take p).length<=100:=by rw[gC];lia
   have U:(r.drop (p+2)).length<=100:=by rw[qg];lia
   have w:=Q2 (au:=au++g) (a:=r.take p) (b:=two) '!';have j:=Q2 (au:=au++g) (a:=r.take p++two) (b:=r.drop (p+2)) (by rw[dq];lia);refine⟨[some (aL two),some (aL (r.drop (p+2))),some (aL (r.take p))],true,au++g,rfl,rfl,.inr ⟨rfl,aL (r.take p++two++r.drop (p+2)),au++g,?_,rfl,⟨_,rfl⟩,?_⟩⟩
   ·show(aO (aL (r.take p)) (aL two) (au++g)).bind _=_;rw[w];exact j
   ·rw[zg q,fX]
    simp[aJ])
 obtain⟨T,H,u,j,rfl,_,rfl⟩:=W;rw[ze,fi] at j;refine⟨g,je rfl ?_⟩;have h:(aJ (aw (aX a b (a/2+1).toNat))).length<=sizeLine:=by rw[ze];exact small _ '!'
 have E:=um (au:=au) A;have l:=um (au:=au) t;rw[NV] at l;have I:=IT r p;have n:=Nh r (p+2);rw[NV] at n;refine ft (σ1:=[some (aL r),some (.int p),some (aL (r.take p)),none]) (st1:=au) (by simp[I]) ?_;refine ft (σ1:=[some (aL r),some (.int p),some (aL (r.take p)),some (aL (r.drop (p+2)))]) (st1:=au) ?_ ?_
 ·simp at n;simp[n]
 ·have G:aH (aE wa (aB (aU cB (aA 0) (aA 1)) (aB (aU cB (aA 0) (aU aO (aA 1) '+')) aC))) [some (aL r),some (.int p),some (aL (r.take p)),some (aL (r.drop (p+2)))] au=.ok (aJ (aw (aX a b (a/2+1).toNat))) (au++g):=by
   simp only[aL] at *
   generalize D.tup (r.map D.int)=R at *
   simp at l;simp[E,l,e]
  rw[qV,pV,G,zt,if_pos h];show((bx _ _ _ _ [none,some (aL (r.drop (p+2))),some (aL (r.take p))] _).bind _).bind _=_;rw[j];unfold bt;rw[hA,hB]
  rfl
theorem Ux{l a:'$'}(h:a.Nodup):(l.foldl aR a).Nodup:=(pY l a h).1
theorem Nv{l a:'$'}(h:a.Nodup):aw (l.foldl aR a)=aQ (a++l):=by
 refine vt (Ux h) λx=>?_
 rw[(pY l a h).2.2,uK,yT h];by_cases e:x∈a<;>simp[e]<;>lia
theorem U5{l:'$'}(n:l.Nodup)(q:l.length<=1000000):CN [aK l] au=.ok (.ref au.length) (au++[.dT (aS l)]):=by
 have W:=qU (bd:=gN 2) (body:=uz) (xs:=aJ l) (σ:=[some (aK l),'"',none]) (au:=au++[.dT []])
  (λi b s=>(∃v,b=[some (aK l),'"',v])/\s=au++[.dT (aS (l.take i))]) ⟨⟨none,rfl⟩,rfl⟩ (by
   rintro i y b s o ⟨⟨v,rfl⟩,rfl⟩;obtain⟨k,a,rfl⟩:=jg o;have j:(au++[O.dT (aS (l.take i))])[au.length]?=some (.dT (aS (l.take i))):=by simp
   have p:=(cK.mp a).1;have d:k∉l.take i:=λz=>by
    have e:(l.take (i+1)).Nodup:=(Du (i+1) l).nodup n;rw[zg a,sL] at e;exact e.2.2 k z k '%' rfl
   have c:(aS (l.take i)).length<sizeLine:=by
    rw[av,gC];exact cx _ '!'
   have h:=rm k;have m:=Fh d;refine⟨[some (aK l),'"',some (aL k)],[some (aK l),'"',some (aL k)],au++[.dT (aS (l.take (i+1)))],rfl,?_,⟨_,rfl⟩,rfl⟩;rw[zg a,←m];unfold uz;simp only[aL] at *
   rw[EG];simp only[tJ,zt,rW,u4,Ox,h,j,c,hZ]
   simp)
 obtain⟨g,f,e,⟨v,rfl⟩,rfl⟩:=W;rw[ze,fi] at e;refine je rfl ?_;refine ft (σ1:=[some (aK l),'"',none]) (st1:=au++[.dT []]) '%' ?_;refine ft (σ1:=[some (aK l),'"',v]) (st1:=au++[.dT (aS l)]) (by rw[BQ];exact e) rfl
theorem M6{r:List Int}(j:r.length<=1000000)(k:DS):aG (aH (aA 1)) 1 [] (gN 0) aI (aE md (aB (aA 0) aC)) [some τ0,some (aL r)] au=.ok (.lst (r.map λ_=>D.bl true)) au:=by
 have W:=qY (bd:=gN 0) (c:=aI) (f:=aE md (aB (aA 0) aC)) (xs:=r.map D.int) (σ:=[none]) (au:=au)
  (λi a d s=>s=au/\(∃v,d=[v])/\a=(r.take i).map λ_=>D.bl true) ⟨rfl,⟨none,rfl⟩,rfl⟩ (by
   rintro i y a d s b ⟨rfl,⟨v,rfl⟩,rfl⟩;rw[eU] at b;cases hx:r[i]? with
   |none=>rw[hx] at b;cases b
   |some x=>
    rw[hx] at b;cases b;refine⟨[some (.int x)],true,s,rfl,rfl,.inr ⟨rfl,.bl true,s,rfl,rfl,⟨_,rfl⟩,?_⟩⟩;rw[zg hx]
    simp)
 obtain⟨l,h,g,e,rfl,_,rfl⟩:=W;rw[vT,fi] at e;rw[pV];show(if(r.map D.int).length<=sizeLine then _ else _)=_;rw[if_pos (by rw[vT];exact small _ j)];show((bx _ _ _ _ [none] _).bind _)=_;rw[e]
 rfl
theorem UR(r:List Int):bJ (r.map λ_=>D.bl true)=some (r.map λ_=>true):=by
 induction r with
 |nil=>rfl
 |cons a r ih=>rw[bP,bJ,ih];rfl
theorem U9(h:au[n]?=some (.dT (aS ks)))(c:r∈ks)(i:r.length<=1000000):vW [.ref n,aL r] au=.ok (.bl true) au:=by
 refine je rfl ?_;have f:=M6 (au:=au) (τ0:=.ref n) i [];have a:=ym (k:=r) (Cs h);rw[Fm,if_pos c] at a;have d:eP true [.lst (r.map λ_=>D.bl true)] au=.ok (.bl true) au:=by
  unfold eP;simp[UR]
 have b:aE bp (aB (aA 1) (aB (eC (.ty "tuple")) aC)) [some (.ref n),some (aL r)] au=.ok (.bl true) au:=rfl
 have e:aE (eP true) (aB (aG (aH (aA 1)) 1 [] (gN 0) aI (aE md (aB (aA 0) aC))) aC) [some (.ref n),some (aL r)] au=.ok (.bl true) au:=by
  rw[lh,oy,f];exact d
 have g:aU (i4 false) (aA 1) (aA 0) [some (.ref n),some (aL r)] au=.ok (.bl true) au:=a;show ap _ [some (.ref n),some (aL r)] au=_;rw[qV,rV,b,zt];show(jD _ _ [some (.ref n),some (aL r)] au).bind _=_;rw[rV,e,zt];show(aU (i4 false) (aA 1) (aA 0) [some (.ref n),some (aL r)] au).bind _=_;rw[g]
 rfl
theorem Vp(h:au[n]?=some (.dT (aS ks)))(U:ks.Nodup)(X:ks.length<=500000)(A:r∈ks)(H:r.length<=100)(t:bh r p)
  (I:1<=r.getD p 0)(j:r.getD p 0<=60)(P:-1000<=r.getD (p+1) 0)(f:r.getD (p+1) 0<=1000):
  ∃g,CV [.ref n,aL r,.int p] au=.ok .non ((au.set n (.dT (aS ((r::bt r p).foldl aR ks))))++g):=by
 have x:p+1<r.length:=by
  obtain⟨a,b,_,z,_⟩:=t;exact(cK.mp z).1
 have o:=gP h;have E:=U9 h A '!';have u:=RF (au:=au) (r:=r) (p:=p);rw[d5 (p:=0<=(p:Int)/\bh r (p:Int).toNat) ⟨by lia,by rw[n0];exact t⟩] at u;have Q:=vq (k:=r) h '!';obtain⟨g,G⟩:=Sn (au:=au.set n (.dT (aS (aR ks r)))) x H I j P f;have Y:=RS r p;have m:=p7 (k:=r) U;have R:=RT ks r;have W:=qU (bd:=gN 3) (body:=FF) (xs:=aJ (bt r p)) (σ:=[some (.ref n),some (aL r),some (.int p),none]) (au:=au.set n (.dT (aS (aR ks r)))++g)
  (λi d s=>(∃v,d=[some (.ref n),some (aL r),some (.int p),v])/\s=au.set n (.dT (aS (((bt r p).take i).foldl aR (aR ks r))))++g) ⟨⟨none,rfl⟩,rfl⟩ (by
   rintro i y d s J ⟨⟨v,rfl⟩,rfl⟩;obtain⟨k,l,rfl⟩:=jg J;have q:(au.set n (.dT (aS (((bt r p).take i).foldl aR (aR ks r))))++g)[n]?=some (.dT (aS (((bt r p).take i).foldl aR (aR ks r)))):=by
    rw[h8 (by rw[iY];exact o),l9 o]
   have c:(((bt r p).take i).foldl aR (aR ks r)).length<=1000000:=by
    have:=Sd ((bt r p).take i) (aR ks r) m;rw[gC] at this;lia
   have w:=vq (k:=k) q c;have T:(au.set n (.dT (aS (((bt r p).take i).foldl aR (aR ks r))))++g).set n (.dT (aS (aR (((bt r p).take i).foldl aR (aR ks r)) k)))=au.set n (.dT (aS (((bt r p).take (i+1)).foldl aR (aR ks r))))++g:=by
    rw[zg l,qi,List.set_append_left _ _ (by rw[iY];exact o),MQ]
    rfl
   rw[T] at w;refine⟨[some (.ref n),some (aL r),some (.int p),some (aL k)],[some (.ref n),some (aL r),some (.int p),some (aL k)],_,rfl,?_,⟨_,rfl⟩,rfl⟩;unfold FF;rw[EH,lh];show((jO [.ref n,aL k] _).bind _)=_;rw[w]
   rfl)
 obtain⟨S,C,e,⟨v,rfl⟩,rfl⟩:=W;rw[ze,fi] at e;refine⟨g,rG (σ:=[some (.ref n),some (aL r),some (.int p),v]) rfl ?_⟩;refine ft (σ1:=[some (.ref n),some (aL r),some (.int p),none]) (st1:=au) ?_ ?_
 ·rw[j7,wC,ue,lh];show((((vW [.ref n,aL r] au).bind _).bind _).bind _)=_;rw[E]
  rfl
 refine ft (σ1:=[some (.ref n),some (aL r),some (.int p),none]) (st1:=au) ?_ ?_
 ·rw[j7,wC,ue,lh];show((((oD [aL r,.int p] au).bind _).bind _).bind _)=_;rw[u]
  rfl
 refine ft (σ1:=[some (.ref n),some (aL r),some (.int p),none]) (st1:=au.set n (.dT (aS (aR ks r)))) ?_ ?_
 ·rw[EH,lh];show((jO [.ref n,aL r] au).bind _)=_;rw[Q]
  rfl
 ·rw[BQ,wV,lh];show((((rL [aL r,.int p] _).bind _)).bind _)=_;rw[G];exact e
structure jd (f:Nat->D) (kvs:List (List Int×D)) (l:List (List Int)):Prop where
 nd:(kvs.map (·.1)).Nodup
 mem:∀k,k∈kvs.map (·.1)↔k∈l
 val:∀p∈kvs,p.2=f (l.count p.1)
 len:kvs.length<=l.length
theorem jd.nil(f:Nat->D):jd f [] []:=⟨o6,λk=>by simp,λp h=>(by cases h),by simp⟩
theorem jd.at(h:jd f b l)(k:List Int):cQ b k=if k∈l then some (f (l.count k)) else none:=by
 have d:∀b:List (List Int×D),(∀p∈b,p.2=f (l.count p.1))->cQ b k=if k∈b.map (·.1) then some (f (l.count k)) else none:=by
  intro b
  induction b with
  |nil=>intro _;rfl
  |cons a b c=>
   intro g;have c:=c λp i=>g p (cH _ i)
   unfold cQ at c ⊢;rw[mh];by_cases e:a.1=k
   ·have:=g a eF;simp only[e,qb,Option.map_some,bP,bT,true_or,hZ];rw[this,e]
   ·simp only[dj e];rw[c];simp only[bP,bT,show ¬ k=a.1 from λz=>e z.symm,false_or]
 rw[d b h.val];simp only[h.mem]
theorem jd.put(h:jd f kvs l)(k:List Int):jd f (i3 kvs k (f (l.count k+1))) (l++[k]):=by
 have any:(kvs.any λd=>decide (d.1=k))=decide (k∈l):=by
  rw[mf,qh,←h.mem,N7,cU];constructor
  ·rintro⟨x,n,e⟩;exact⟨x,n,by simpa using e⟩
  ·rintro⟨p,hp,e⟩;exact⟨p,hp,by simpa using e⟩
 unfold i3;rw[any];by_cases hk:k∈l
 ·rw[if_pos (by simpa using hk)];have c:(kvs.map λd=>if d.1=k then(d.1,f (l.count k+1)) else d).map (·.1)=kvs.map (·.1):=by
   rw[fJ]
   congr 1
   funext p
   dsimp only[Function.comp];split<;>rfl
  refine⟨by rw[c];exact h.nd,λx=>?_,λp hp=>?_,?_⟩
  ·rw[c,h.mem,fh,eY];exact⟨.inl,λz=>z.elim id λe=>e ▸ hk⟩
  ·obtain⟨q,m,rfl⟩:=cU.mp hp;have:=h.val q m;by_cases e:q.1=k
   ·rw[if_pos e];dsimp only;rw[e,uK];simp
   ·rw[if_neg e,this,uK];have:List.count q.1 [k]=0:=by rw[uM];simpa using e
    rw[this];rfl
  ·rw[av,dq];have:=h.len;lia
 ·rw[if_neg (by simpa using hk)];refine⟨?_,λx=>?_,λp hp=>?_,?_⟩
  ·rw[fX,sL];refine⟨h.nd,by simp,λa o b g=>?_⟩;simp at g;subst g;exact λe=>hk ((h.mem _).mp (e ▸ o))
  ·rw[fX,fh,h.mem,fh];simp
  ·rcases fh.mp hp with hp|hp
   ·have j:=h.val p hp;have i:p.1≠k:=λe=>hk ((h.mem _).mp (e ▸ cU.mpr ⟨p,hp,rfl⟩))
    rw[j,uK];have:List.count p.1 [k]=0:=by rw[uM];simpa using i
    rw[this];rfl
   ·simp at hp;subst hp;rw[uK,uM.mpr hk];simp
  ·rw[dq,dq];have:=h.len;simp;exact this
noncomputable def lM(n:Nat):D:=.bl (decide (n%2=1))
theorem NK(n:Nat):lM (n+1)=.bl (!decide (n%2=1)):=by
 unfold lM
 congr 1
 by_cases h:n%2=1
 ·rw[d5 h,dj '!'];rfl
 ·rw[dj h,d5 '!'];rfl
theorem RH(X:gV x=some (aJ l))(hl:l.length<=1000000)(m:(aP l).length<=1000000):∃g,j4 [x] au=.ok (aK (aQ l)) (au++g):=by
 have W:=qU (bd:=gN 2) (body:=Fy) (xs:=aJ l) (σ:=[some x,'"',none]) (au:=au++[.dT []])
  (λi d s=>∃(v:Option D) (a:List (List Int×D)),d=[some x,'"',v]/\s=au++[.dT a]/\jd lM a (l.take i)) ⟨none,[],rfl,rfl,jd.nil _⟩ (by
   rintro i y d s t ⟨v,a,rfl,rfl,b⟩;obtain⟨k,q,rfl⟩:=jg t;have G:=b.put k;have r:(au++[O.dT a])[au.length]?=some (.dT a):=by simp
   have j:(cQ a k).getD (.bl false)=.bl (decide ((l.take i).count k%2=1)):=by
    rw[b.at];split
    ·rfl
    ·rename_i z;rw[uM.mpr z];rfl
   have A:=rm k;have S:=Cs r;have E:a.length<sizeLine:=by
    have h1:=b.len;have h2:(l.take i).length<=l.length:=by rw[gC];exact mj _ _
    exact cx _ '!'
   refine⟨[some x,'"',some (aL k)],[some x,'"',some (aL k)],au++[.dT (i3 a k (lM ((l.take i).count k+1)))],rfl,?_,some (aL k),_,rfl,rfl,by rw[zg q];exact G⟩;rw[NK];unfold Fy;simp only[aL] at *
   simp only[EG,wT,LC,rW,tJ,u4,Ox,zt,S,A,j,r,E,hZ]
   simp)
 obtain⟨U,R,e,v,a,rfl,rfl,b⟩:=W;rw[ze,fi] at b;have V:=qY (bd:=gN 0) (c:=cD (aU fk (aA 1) (aA 0))) (f:=aA 0) (xs:=aJ (a.map (·.1))) (σ:=[none,'"']) (au:=au++[.fT a])
  (λi n d s=>s=au++[.fT a]/\(∃w:Option D,d=[w,'"'])/\n=aJ (((a.map (·.1)).take i).filter λk=>decide (l.count k%2=1))) ⟨rfl,⟨none,rfl⟩,rfl⟩ (by
   rintro i y n d s t ⟨rfl,⟨w,rfl⟩,rfl⟩;obtain⟨k,q,rfl⟩:=jg t;have r:(au++[O.fT a])[au.length]?=some (.fT a):=by simp
   have C:k∈l:=(b.mem k).mp (dF q);have j:cQ a k=some (lM (l.count k)):=by rw[b.at,if_pos C]
   have A:fk (.ref au.length) (aL k) (au++[O.fT a])=.ok (lM (l.count k)) _:=L8 (Mh r) j;refine⟨[some (aL k),'"'],decide (l.count k%2=1),au++[.fT a],rfl,?_,?_⟩
   ·rw[ue];show((fk (.ref au.length) (aL k) (au++[O.fT a])).bind _)=_;rw[A]
    rfl
   ·by_cases m:l.count k%2=1
    ·refine .inr ⟨d5 m,aL k,_,rfl,rfl,⟨_,rfl⟩,?_⟩;rw[zg q,sO];simp[m,aJ]
    ·refine .inl ⟨dj m,rfl,⟨_,rfl⟩,?_⟩;rw[zg q,sO]
     simp[m,aJ])
 obtain⟨ys,Y,P,j,rfl,⟨w,rfl⟩,rfl⟩:=V;rw[ze,fi] at j;refine⟨[.fT a],je rfl ?_⟩;have J:((a.map (·.1)).filter λk=>decide (l.count k%2=1)).Nodup:=b.nd.filter _;have H:∀k,k∈((a.map (·.1)).filter λk=>decide (l.count k%2=1))↔l.count k%2=1:=λk=>by
  rw[gA,b.mem,qh];refine⟨λh=>h.2,λh=>⟨?_,h⟩⟩;rcases Dx (l.count k) with z|z
  ·rw[z] at h;cases h
  ·exact yZ.mp z
 have E:aw ((a.map (·.1)).filter λk=>decide (l.count k%2=1))=aQ l:=vt J H;have u:((a.map (·.1)).filter λk=>decide (l.count k%2=1)).length<=1000000:=by
  have p:=CO J (vS l) λk=>by rw[H,rb]
  rw[p.length_eq];exact m
 have I:=UT (au:=au++[.fT a]) u;rw[E] at I;have o:(aJ (a.map (·.1))).length<=sizeLine:=by
  rw[ze,av];exact small _ (by have:=b.len;lia)
 refine ft (σ1:=[some x,'"',none]) (st1:=au++[.dT []]) '%' ?_;refine ft (σ1:=[some x,'"',v]) (st1:=au++[.dT a]) (by simp[X,e]) ?_;have Q:aG (iK (aA 1)) 1 [1] (gN 0) (cD (aU fk (aA 1) (aA 0))) (aA 0) [some x,'"',v] (au++[.dT a])=.ok (.lst (aJ ((a.map (·.1)).filter λk=>decide (l.count k%2=1)))) (au++[.fT a]):=by
  rw[pV];have T:iK (aA 1) [some x,'"',v] (au++[.dT a])=.ok (aJ (a.map (·.1))) (au++[.fT a]):=by
   simp
  rw[T,zt,if_pos o];show(bx _ _ _ _ [none,'"'] _).bind _=_;rw[j]
  rfl
 rw[qV,lh,oy,lh,oy,Q];simp only[zt,wB,I,TK]
theorem B6{m:Int}(h:m<=1000):m<2^1000:=Dw h (by decide +kernel)
theorem Jh(a:0<j)(b:j<=1000):gv i j:=⟨a,Dw b (by decide +kernel)⟩
theorem i5(b:-10000<=j)(a:j<=10000):eS i j:=.inr ⟨by lia,by lia⟩
theorem eM(b:-10000<=j)(a:j<=10000):cF j:=m4 '!' '!'
theorem M7(a:f σ au=.ok (.ref n) st1)(d:st1[n]?=some (.lst xs0))(e:g σ st1=.ok [y] st2)(c:st2[n]?=some (.lst xs))(b:xs.length<sizeLine):
  bw f g σ au=.ok .non (st2.set n (.lst (xs++[y]))):=by
 rw[QO,a,zt,nQ d];dsimp only;rw[e,zt,c];dsimp only;rw[if_pos b]
structure ak (r:List Int) (most:Int) (long:Nat):Prop where
 pos:∀p∈r,1<=p
 sum:r.sum<=most
 len:r.length<=long
theorem jh{r:List Int}(h:∀p∈r,1<=p):0<=r.sum:=by
 induction r with
 |nil=>simp
 |cons a r ih=>
  rw[kB];have:=h a eF;have:=ih λp b=>h p (cH _ b)
  lia
theorem cI.over(d:cI au s n)(j:n<au.length)(h:au.length<=k):cI au (s.set k o) n:=by
 obtain⟨c,x,b,a,e⟩:=d.bag;exact⟨by rw[iY];exact d.len,λi g f=>by rw[fj '!'];exact d.keep i g f,c,x,by rw[fj '!'];exact b,a,e⟩
theorem EO(a:List D)(y:D):L2.atI (a++[y]) (-1)=some y:=by
 unfold L2.atI kP;rw[dq];have e:((-1:Int)+((a.length+[y].length:Nat):Int)).toNat=a.length:=by simp;lia
 rw[if_neg '!',if_pos (by simp;lia),e];simp
theorem T6{n:Nat}{m L:Int}{Q:Nat}(eL:L=Q)(a4:Q<=100)(R:cS au n)(h0:0<=m)(h1:m<=900):∃r b,vK [.ref n,.int m,.int L] au=.ok (aL r) b/\ak r m Q/\cI au b n:=by
 have U:n<au.length:=by obtain⟨_,_,e,_⟩:=R;exact gP e
 have B0:cS (au++[.lst []]) n:=(cI.more R [.lst []]).bag;obtain⟨t,st1,e1,t0,t1,D1,G⟩:=vx B0 (m:=L+1) '!' (B6 '!');have k1:st1[au.length]?=some (.lst []):=by rw[D1.keep au.length '%' '!'];simp
 have W:=qU (bd:=gN 5) (body:=Fz) (xs:=rng 0 t.toNat) (σ:=[some (.ref n),some (.int m),some (.int L),'"',some (.int m),none]) (au:=st1)
  (λi C s=>cI au s n/\au.length<s.length/\∃(r:List Int) (left:Int) (v:Option D),C=[some (.ref n),some (.int m),some (.int L),'"',some (.int left),v]/\left=m-r.sum/\s[au.length]?=some (.lst (r.map .int))/\ak r m i)
  ⟨(cI.more R _).trans D1,by rw[G];simp,[],m,none,rfl,by simp,k1,⟨λp h=>(by cases h),by simpa using h0,by simp⟩⟩ (by
   rintro i x C s hx ⟨o,j,r,left,v,rfl,a,y,c⟩;obtain⟨hi,rfl⟩:=BO hx;generalize hI:(0:Int)+(i:Int)=I;unfold Fz;have rs:=jh c.pos;have a3:i<200:=by lia
   by_cases hpos:0<left
   ·obtain⟨A,s2,e2,a0,a1,X,l2⟩:=vx o.bag (m:=3) '!' (B6 '!');have k:∃q:Int,1<=q/\q<=left/\cB (.lst [.int left,.int (if 5<left then 5 else left),.int (if 2<left then 2 else left)]) (.int A) s2=.ok (.int q) s2:=by
     rcases(show A=0\/A=1\/A=2 by lia) with rfl|rfl|rfl
     ·exact⟨left,by lia,by lia,rfl⟩
     ·exact⟨if 5<left then 5 else left,by split<;>lia,by split<;>lia,rfl⟩
     ·exact⟨if 2<left then 2 else left,by split<;>lia,by split<;>lia,rfl⟩
    obtain⟨q,q1,q2,e3⟩:=k;obtain⟨p,s3,P,b0,b1,Y,l3⟩:=vx X.bag (m:=q) q1 (B6 '!');have S:s2[au.length]?=some (.lst (r.map .int)):=by rw[X.keep au.length j '!'];exact y
    have H:s3[au.length]?=some (.lst (r.map .int)):=by rw[Y.keep au.length '!' '!'];exact S
    have J:=small 3 '!';have E:(r.map D.int).length<sizeLine:=by rw[vT];exact cx _ (by have:=c.len;lia)
    have d:au.length<s3.length:=by lia
    have l:aB (aU aO '+' (aE zx (aB (aA 0) (aB (aU cB (ip (aB (aA 4) (aB (aE fU (aB (aA 4) (aB (eC (.int 5)) aC))) (aB (aE fU (aB (aA 4) (aB (eC (.int 2)) aC))) aC)))) (aE zx (aB (aA 0) (aB (eC (.int 3)) aC)))) aC)))) aC
      [some (.ref n),some (.int m),some (.int L),'"',some (.int left),some (.int I)] s=.ok [.int (1+p)] s3:=by
     simp[e2,e3,P,J]
    have w:=M7 (f:=aA 3) (σ:=[some (.ref n),some (.int m),some (.int L),'"',some (.int left),some (.int I)]) rfl y l H E;have u:(s3.set au.length (.lst (r.map D.int++[D.int (1+p)])))[au.length]?=some (.lst ((r++[1+p]).map .int)):=by
     rw[l9 d,fX];rfl
    have g:cB (.ref au.length) (.int (-1)) (s3.set au.length (.lst (r.map D.int++[D.int (1+p)])))=.ok (.int (1+p)) (s3.set au.length (.lst (r.map D.int++[D.int (1+p)]))):=by
     refine lc (oC u) ?_;rw[fX];exact EO _ _
    refine⟨[some (.ref n),some (.int m),some (.int L),'"',some (.int left),some (.int I)],[some (.ref n),some (.int m),some (.int L),'"',some (.int (left-(1+p))),some (.int I)],s3.set au.length (.lst (r.map D.int++[D.int (1+p)])),rfl,?_,?_,by rw[iY];exact d,r++[1+p],_,_,rfl,?_,u,?_⟩
    ·rw[j7];show(if decide (0<left)=true then _ else _)=_;rw[if_pos (d5 hpos)];refine ft (σ1:=[some (.ref n),some (.int m),some (.int L),'"',some (.int left),some (.int I)]) (st1:=s3.set au.length (.lst (r.map D.int++[D.int (1+p)]))) ?_ ?_
     ·rw[EH,w]
      rfl
     ·simp[g]
    ·exact((o.trans X).trans Y).over U (aY _)
    ·rw[a,js];simp;lia
    ·refine⟨λz hz=>?_,?_,?_⟩
     ·rcases fh.mp hz with hz|hz
      ·exact c.pos z hz
      ·simp at hz;lia
     ·rw[js];simp;lia
     ·rw[dq];have:=c.len;simp;lia
   ·refine⟨[some (.ref n),some (.int m),some (.int L),'"',some (.int left),some (.int I)],[some (.ref n),some (.int m),some (.int L),'"',some (.int left),some (.int I)],s,rfl,?_,o,j,r,left,_,rfl,a,y,⟨c.pos,c.sum,qk c.len⟩⟩;rw[j7];show(if decide (0<left)=true then _ else _)=_;rw[if_neg (by rw[dj hpos];decide)]
    rfl)
 obtain⟨a5,b,e,o,j,r,left,v,rfl,a,y,c⟩:=W;rw[lp] at c;refine⟨r,b,je rfl ?_,⟨c.pos,c.sum,by have:=c.len;lia⟩,o⟩;have a2:=small 0 '!';have T:cF t:=eM '!' '!';refine ft (σ1:=[some (.ref n),some (.int m),some (.int L),'"',none,none]) (st1:=au++[.lst []]) '%' ?_;refine ft (σ1:=[some (.ref n),some (.int m),some (.int L),'"',some (.int m),none]) (st1:=au++[.lst []]) '%' ?_;refine ft (σ1:=[some (.ref n),some (.int m),some (.int L),'"',some (.int left),v]) (st1:=b) ?_ ?_
 ·have P:hG (aB (aE zx (aB (aA 0) (aB (aU aO (aA 2) '+') aC))) aC) [some (.ref n),some (.int m),some (.int L),'"',some (.int m),none] (au++[.lst []])=.ok (rng 0 t.toNat) st1:=by
   simp[e1,T]
  rw[BQ,P];exact e
 ·rw[qV,lh];show((bi [.ref au.length] b).bind _)=_;rw[Fp y]
  rfl
theorem Uz{n:Nat}{A m L:Int}{lg:Nat}(S:L=lg)(u:lg<=100)(hA:0<=A)(C:A<=60)(J:cS au n)(R:0<=m)(I:m<=900):
  ∃l d,vQ [.ref n,.int A,.int m,.int L] au=.ok (aK l) d/\(∀r∈l,ak r m lg)/\l.Nodup/\(l.length:Int)<=A/\tR l/\cI au d n:=by
 obtain⟨t,st1,G,Y,t1,U,_⟩:=vx J (m:=A+1) '!' (B6 '!');have W:=qY (bd:=gN 0) (c:=aI) (f:=aE vK (aB (aA 1) (aB (aA 2) (aB (aA 3) aC)))) (xs:=rng 0 t.toNat) (σ:=[none,some (.ref n),some (.int m),some (.int L)]) (au:=st1)
  (λi e p s=>cI au s n/\(∃w:Option D,p=[w,some (.ref n),some (.int m),some (.int L)])/\∃l:List (List Int),e=aJ l/\(∀r∈l,ak r m lg)/\l.length=i) ⟨U,⟨none,rfl⟩,[],rfl,λr h=>(by cases h),rfl⟩ (by
   rintro i y e p s hy ⟨b,⟨w,rfl⟩,l,rfl,j,k⟩;obtain⟨r,Q,v,H,T⟩:=T6 S u b.bag R I;refine⟨[some y,some (.ref n),some (.int m),some (.int L)],true,s,rfl,rfl,.inr ⟨rfl,aL r,Q,?_,b.trans T,⟨_,rfl⟩,l++[r],by simp[aJ],λz hz=>?_,by simp[k]⟩⟩
   ·simp[v]
   ·rcases fh.mp hz with hz|hz
    ·exact j z hz
    ·simp at hz;subst hz
     exact H)
 obtain⟨ys,X,a,v,b,_,l,rfl,j,k⟩:=W;rw[lp] at k;obtain⟨g,P⟩:=RH (au:=a) (x:=.lst (aJ l)) (l:=l) rfl '!' (by have:=ry l;lia);refine⟨aQ l,a++g,je rfl ?_,λr h=>j r (EW h),rq l,by have:=UD l;lia,Cu _,b.trans (.more b.bag g)⟩;have q:cF t:=eM '!' '!';have o:(rng 0 t.toNat).length<=sizeLine:=by rw[lp];exact small _ '!'
 have E:hG (aB (aE zx (aB (aA 0) (aB (aU aO (aA 1) '+') aC))) aC) [some (.ref n),some (.int A),some (.int m),some (.int L)] au=.ok (rng 0 t.toNat) st1:=by
  simp[G,q]
 show ap _ [some (.ref n),some (.int A),some (.int m),some (.int L)] au=_;rw[qV,lh,oy,pV,E,zt,if_pos o];show(((((bx _ _ _ _ [none,some (.ref n),some (.int m),some (.int L)] st1).bind _).bind _).bind _).bind _)=_;rw[v];show((j4 [.lst (aJ l)] a).bind _)=_;rw[P]
 rfl
end Dd
namespace Dd
open L2
def WP{b:Type}(r:bu b) (Q:b->aa->Prop):Prop:=match r with
 |.ok a au=>Q a au
 |_=>False
theorem WP.get{b:Type}{r:bu b}{Q:b->aa->Prop}(h:WP r Q):∃a au,r=.ok a au/\Q a au:=by
 cases r with
 |ok a au=>exact⟨a,au,rfl,h⟩
 |exc x au=>exact h.elim
 |stuck=>exact h.elim
theorem WP.of{b:Type}{r:bu b}{Q:b->aa->Prop}{a:b}(e:r=.ok a au)(h:Q a au):WP r Q:=by rw[e];exact h
theorem WP.mono{c:Type}{r:bu c}{Q Q':c->aa->Prop}(h:WP r Q)(k:∀a b,Q a b->Q' a b):WP r Q':=by
 obtain⟨a,b,rfl,q⟩:=h.get;exact k a b q
theorem zk{c b:Type}{r:bu c}{f:c->aa->bu b}{Q:b->aa->Prop}:WP (r.bind f) Q=WP r (λa d=>WP (f a d) Q):=by
 cases r<;>rfl
def ke(t:SS) (Q:Fl->aa->Prop):Fl->aa->Prop:=λfl a=>match fl with
 |.nx σ=>WP (t σ a) Q
 |fl=>Q fl a
theorem vn:WP (aD s t σ au) Q=WP (s σ au) (ke t Q):=by
 unfold aD;cases s σ au with
 |ok fl st1=>cases fl<;>rfl
 |exc x au=>rfl
 |stuck=>rfl
theorem BU{d:Type} [Decidable c]{a b:bu d}{Q:d->aa->Prop}:WP (if c then a else b) Q=if c then WP a Q else WP b Q:=by
 split<;>rfl
theorem E8{b:Type} [Decidable c]{a:bu b}{Q:b->aa->Prop}:WP (if c then a else .stuck) Q=(c/\WP a Q):=by
 by_cases h:c
 ·rw[if_pos h];simp[h]
 ·rw[if_neg h];simp[h,WP]
def tr(Q:D->aa->Prop):Fl->aa->Prop:=λb a=>match b with
 |.ret v=>Q v a
 |.nx _=>Q .non a
 |_=>False
theorem fW{n c:Nat}{b:SS}{a:List D}{d:aa}{Q:D->aa->Prop}(h:a.length=c)(k:WP (b (a.map some++List.replicate (n-c) none) d) (tr Q)):WP (cn n c b a d) Q:=by
 obtain⟨f,g,e,q⟩:=k.get;unfold cn;rw[if_pos h,e];cases f<;>first|exact q|exact q.elim
def bK(Q:Bool->aa->Prop):D->aa->Prop:=λv a=>match v with
 |.bl b=>Q b a
 |_=>False
def gK(a:SG) (Q:Fl->aa->Prop) (c:DS):D->aa->Prop:=λv b=>match a v c with
 |some σ1=>Q (.nx σ1) b
 |none=>False
theorem W:(∀{G:Type}{a:G}{e:aa}{Q:G->aa->Prop},WP (.ok a e) Q=Q a e)
 /\ (∀{s t:SS}{m:DS}{e:aa}{Q:Fl->aa->Prop},WP (aD s t m e) Q=WP (s m e) (ke t Q))
 /\ (∀{t:SS}{m:DS}{e:aa}{Q:Fl->aa->Prop},ke t Q (.nx m) e=WP (t m e) Q)
 /\ (∀{t:SS}{v:D}{e:aa}{Q:Fl->aa->Prop},ke t Q (.ret v) e=Q (.ret v) e)
 /\ (∀{t:SS}{m:DS}{e:aa}{Q:Fl->aa->Prop},ke t Q (.brk m) e=Q (.brk m) e)
 /\ (∀{t:SS}{m:DS}{e:aa}{Q:Fl->aa->Prop},ke t Q (.ct m) e=Q (.ct m) e)
 /\ (∀{v:D}{e:aa}{Q:D->aa->Prop},tr Q (.ret v) e=Q v e)
 /\ (∀{m:DS}{e:aa}{Q:D->aa->Prop},tr Q (.nx m) e=Q .non e)
 /\ (∀{b:Bool}{e:aa}{Q:Bool->aa->Prop},bK Q (.bl b) e=Q b e)
 /\ (∀{d:D}{m:DS}{e:aa}{Q:D->aa->Prop},WP (eC d m e) Q=Q d e)
 /\ (∀{g:D->D->aa->bu D}{f r:SE}{m:DS}{e:aa}{Q:D->aa->Prop},WP (aU g f r m e) Q=WP (f m e) (λx l=>WP (r m l) (λy p=>WP (g x y p) Q)))
 /\ (∀{g:D->aa->bu D}{f:SE}{m:DS}{e:aa}{Q:D->aa->Prop},WP (jk g f m e) Q=WP (f m e) (λx l=>WP (g x l) Q))
 /\ (∀{g:List D->aa->bu D}{f:SA}{m:DS}{e:aa}{Q:D->aa->Prop},WP (aE g f m e) Q=WP (f m e) (λx l=>WP (g x l) Q))
 /\ (∀{m:DS}{e:aa}{Q:List D->aa->Prop},WP (aC m e) Q=Q [] e)
 /\ (∀{f:SE}{g:SA}{m:DS}{e:aa}{Q:List D->aa->Prop},WP (aB f g m e) Q=WP (f m e) (λx l=>WP (g m l) (λn p=>Q (x::n) p)))
 /\ (∀{f:SE}{m:DS}{e:aa}{Q:Bool->aa->Prop},WP (eB f m e) Q=WP (f m e) (bK Q))
 /\ (∀{f r:ST}{m:DS}{e:aa}{Q:Bool->aa->Prop},WP (jG f r m e) Q=WP (f m e) (λb l=>if b=true then WP (r m l) Q else Q false l))
 /\ (∀{f r:ST}{m:DS}{e:aa}{Q:Bool->aa->Prop},WP (kX f r m e) Q=WP (f m e) (λb l=>if b=true then Q true l else WP (r m l) Q))
 /\ (∀{f:ST}{m:DS}{e:aa}{Q:Bool->aa->Prop},WP (dW f m e) Q=WP (f m e) (λb l=>Q (!b) l))
 /\ (∀{m:DS}{e:aa}{Q:Bool->aa->Prop},WP (aI m e) Q=Q true e)
 /\ (∀{f r:SE}{m:DS}{e:aa}{Q:D->aa->Prop},WP (jD f r m e) Q=WP (f m e) (bK λb l=>if b=true then WP (r m l) Q else Q (.bl false) l))
 /\ (∀{f r:SE}{m:DS}{e:aa}{Q:D->aa->Prop},WP (qM f r m e) Q=WP (f m e) (bK λb l=>if b=true then Q (.bl true) l else WP (r m l) Q))
 /\ (∀{f:SE}{m:DS}{e:aa}{Q:D->aa->Prop},WP (io f m e) Q=WP (f m e) (bK λb l=>Q (.bl (!b)) l))
 /\ (∀{c:ST}{f r:SE}{m:DS}{e:aa}{Q:D->aa->Prop},WP (BB c f r m e) Q=WP (c m e) (λb l=>if b=true then WP (f m l) Q else WP (r m l) Q))
 /\ (∀{g:SA}{m:DS}{e:aa}{Q:D->aa->Prop},WP (aT g m e) Q=WP (g m e) (λn l=>n.length<=sizeLine/\Q (.tup n) l))
 /\ (∀{g:SA}{m:DS}{e:aa}{Q:D->aa->Prop},WP (ip g m e) Q=WP (g m e) (λn l=>n.length<=sizeLine/\Q (.lst n) l))
 /\ (∀{g:SA}{m:DS}{e:aa}{Q:D->aa->Prop},WP (bZ g m e) Q=WP (g m e) (λn l=>n.length<=sizeLine/\Q (.ref l.length) (l++[.lst n])))
 /\ (∀{m:DS}{e:aa}{Q:D->aa->Prop},WP (eO m e) Q=Q (.ref e.length) (e++[.dT []]))
 /\ (∀{m:DS}{e:aa}{Q:Fl->aa->Prop},WP (fw m e) Q=Q (.nx m) e)
 /\ (∀{m:DS}{e:aa}{Q:Fl->aa->Prop},WP (zS m e) Q=Q (.brk m) e)
 /\ (∀{m:DS}{e:aa}{Q:Fl->aa->Prop},WP (Wo m e) Q=Q (.ct m) e)
 /\ (∀{m:DS}{e:aa}{Q:Fl->aa->Prop},WP (qB m e) Q=Q (.ret .non) e)
 /\ (∀{f:SE}{m:DS}{e:aa}{Q:Fl->aa->Prop},WP (ap f m e) Q=WP (f m e) (λv l=>Q (.ret v) l))
 /\ (∀{f:SE}{m:DS}{e:aa}{Q:Fl->aa->Prop},WP (br f m e) Q=WP (f m e) (λ_ l=>Q (.nx m) l))
 /\ (∀{i:Nat}{f:SE}{m:DS}{e:aa}{Q:Fl->aa->Prop},WP (aF i f m e) Q=WP (f m e) (λv l=>Q (.nx (m.set i (some v))) l))
 /\ (∀{u:SG}{f:SE}{m:DS}{e:aa}{Q:Fl->aa->Prop},WP (qA u f m e) Q=WP (f m e) (gK u Q m))
 /\ (∀{c:ST}{s t:SS}{m:DS}{e:aa}{Q:Fl->aa->Prop},WP (fc c s t m e) Q=WP (c m e) (λb l=>if b=true then WP (s m l) Q else WP (t m l) Q))
 /\ (∀{z:SA}{u:SG}{w:SS}{m:DS}{e:aa}{Q:Fl->aa->Prop},WP (ba z u w m e) Q=WP (z m e) (λn l=>WP (dU u w n m l) Q))
 /\ (∀{z:SA}{k:Nat}{is:List Nat}{u:SG}{c:ST}{f:SE}{m:DS}{e:aa}{Q:D->aa->Prop},WP (aG z k is u c f m e) Q=WP (z m e) (λn l=>n.length<=sizeLine/\WP (bx u c f n (aV k is m) l) (λH p=>Q (.lst H) p)))
 /\ (∀{z:SA}{k:Nat}{is:List Nat}{u:SG}{c:ST}{f:SE}{m:DS}{e:aa}{Q:D->aa->Prop},WP (nG z k is u c f m e) Q=WP (z m e) (λn l=>n.length<=sizeLine/\WP (bx u c f n (aV k is m) l) (λH p=>Q (.ref p.length) (p++[.lst H]))))
 /\ (∀{C:Int->Int->Prop} [DecidableRel C] {h:Int->Int->D}{i j:Int}{e:aa}{Q:D->aa->Prop},WP (oI C h (.int i) (.int j) e) Q=(C i j/\Q (h i j) e))
 /\ (∀{i j:Int}{e:aa}{Q:D->aa->Prop},WP (aO (.int i) (.int j) e) Q=Q (.int (i+j)) e)
 /\ (∀{a b:List D}{e:aa}{Q:D->aa->Prop},WP (aO (.tup a) (.tup b) e) Q=(a.length+b.length<=sizeLine/\Q (.tup (a++b)) e))
 /\ (∀{i j:Int}{e:aa}{Q:D->aa->Prop},WP (fQ (.int i) (.int j) e) Q=Q (.bl (decide (i<j))) e)
 /\ (∀{i j:Int}{e:aa}{Q:D->aa->Prop},WP (fy false (.int i) (.int j) e) Q=Q (.bl (decide (i=j))) e)
 /\ (∀{i j:Int}{e:aa}{Q:D->aa->Prop},WP (fy true (.int i) (.int j) e) Q=Q (.bl (!decide (i=j))) e)
 /\ (∀{i:Int}{e:aa}{Q:D->aa->Prop},WP (eH (.int i) e) Q=Q (.int (-i)) e)
 /\ (∀{i j:Int}{g:Int->Int->Int}{e:aa}{Q:D->aa->Prop},WP (va g [.int i,.int j] e) Q=Q (.int (g i j)) e)
 /\ (∀{i:Int}{e:aa}{Q:D->aa->Prop},WP (lW [.int i] e) Q=Q (.int (if i<0 then -i else i)) e)
 /\ (∀{b:Bool}{e:aa}{Q:D->aa->Prop},WP (pM [.bl b] e) Q=Q (.int (if b=true then 1 else 0)) e)
 /\ (∀{n:List D}{e:aa}{Q:D->aa->Prop},WP (bU [.tup n] e) Q=Q (.int n.length) e)
 /\ (∀{n:List D}{e:aa}{Q:D->aa->Prop},WP (bU [.lst n] e) Q=Q (.int n.length) e)
 /\ (∀{n:List D}{e:aa}{Q:D->aa->Prop},WP (bU [.scr n] e) Q=Q (.int n.length) e)
 /\ (∀{n:List D}{e:aa}{Q:D->aa->Prop},WP (bi [.tup n] e) Q=Q (.tup n) e)
 /\ (∀{n:List D}{e:aa}{Q:D->aa->Prop},WP (bi [.lst n] e) Q=Q (.tup n) e)
 /\ (∀{n:List D}{e:aa}{Q:D->aa->Prop},WP (hV [.tup n] e) Q=Q (.lst n) e)
 /\ (∀{n:List D}{e:aa}{Q:D->aa->Prop},WP (hV [.lst n] e) Q=Q (.lst n) e)
 /\ (∀{d:D}{m:DS}{e:aa}{Q:D->aa->Prop},WP (aA 0 (some d::m) e) Q=Q d e)
 /\ (∀{i:Nat}{m:DS}{e:aa}{Q:D->aa->Prop}{o:Option D},WP (aA (i+1) (o::m) e) Q=WP (aA i m e) Q)
 /\ (∀{f:SE}{m:DS}{e:aa}{Q:List D->aa->Prop},WP (aH f m e) Q=WP (f m e) (λx l=>∃n,gV x=some n/\Q n l))
 /\ (∀{f:SE}{m:DS}{e:aa}{Q:Bool->aa->Prop},WP (cD f m e) Q=WP (f m e) (λx l=>∃b,lG l x=some b/\Q b l))
 /\ (∀{g:SA}{m:DS}{e:aa}{Q:List D->aa->Prop},WP (hG g m e) Q=WP (g m e) (λn l=>∃j,n=[.int j]/\cF j/\Q (rng 0 j.toNat) l))
 /\ (∀{g:SA}{m:DS}{e:aa}{Q:List D->aa->Prop},WP (qK g m e) Q=WP (g m e) (λn l=>∃i j,n=[.int i,.int j]/\cF i/\cF j/\Q (rng i (j-i).toNat) l)):=by
 have A:∀{G:Type}{c:Prop} [Decidable c] {a:G}{e:aa}{Q:G->aa->Prop},WP (if c then .ok a e else .stuck) Q=(c/\Q a e):=λ{G c _ a e Q}=>E8
 refine⟨rfl,vn,rfl,rfl,rfl,rfl,rfl,rfl,rfl,rfl,?_⟩;refine⟨?_,?_⟩
 ·intros;rw[we,zk];congr;funext x l;rw[zk]
 refine⟨zk,zk,rfl,?_⟩;refine⟨?_,?_⟩
 ·intros;rw[oy,zk];congr;funext x l;rw[zk];rfl
 refine⟨?_,?_⟩
 ·intros;rw[BC,zk];congr;funext x l;cases x<;>rfl
 refine⟨?_,?_⟩
 ·intros;rw[GF,zk];congr;funext x l;rw[BU];rfl
 refine⟨?_,?_⟩
 ·intros;rw[rD,zk];congr;funext x l;rw[BU];rfl
 refine⟨zk,rfl,?_⟩;refine⟨?_,?_⟩
 ·intros;rw[rV,zk];congr;funext x l;cases x<;>try rfl
  rename_i b;cases b<;>rfl
 refine⟨?_,?_⟩
 ·intros;rw[F5,zk];congr;funext x l;cases x<;>try rfl
  rename_i b;cases b<;>rfl
 refine⟨?_,?_⟩
 ·intros;rw[wT,zk];congr;funext x l;cases x<;>rfl
 refine⟨?_,?_⟩
 ·intros;rw[F4,zk];congr;funext x l;rw[BU]
 refine⟨?_,?_⟩
 ·intros;rw[Hk,zk];congr;funext x l;rw[A]
 refine⟨?_,?_⟩
 ·intros;rw[Hj,zk];congr;funext x l;rw[A]
 refine⟨?_,?_⟩
 ·intros;rw[Jr,zk];congr;funext x l;rw[A]
 refine⟨rfl,rfl,rfl,rfl,rfl,zk,zk,zk,?_⟩;refine⟨?_,?_⟩
 ·intro u f m e Q;unfold qA;rw[zk];congr;funext x l;unfold gK;cases u x m<;>rfl
 refine⟨?_,?_⟩
 ·intros;rw[j7,zk];congr;funext x l;rw[BU]
 refine⟨zk,?_⟩;refine⟨?_,?_⟩
 ·intros;rw[pV,zk];congr;funext x l;rw[E8,zk];rfl
 refine⟨?_,?_⟩
 ·intros;unfold nG;rw[zk];congr;funext x l;rw[E8,zk];rfl
 refine⟨?_,?_⟩
 ·intros;rw[O8,A]
 refine⟨rfl,?_⟩;refine⟨?_,?_⟩
 ·intros;rw[xk,A]
 refine⟨rfl,?_⟩;refine⟨?_,?_⟩
 ·intros;rw[show ∀i j e,fy false (.int i) (.int j) e=_ from λi j e=>Gf];rfl
 refine⟨?_,?_⟩
 ·intros;rw[show ∀i j e,fy true (.int i) (.int j) e=_ from λi j e=>Gh];rfl
 refine⟨rfl,rfl,rfl,rfl,rfl,rfl,rfl,rfl,rfl,rfl,rfl,λ{d m e Q}=>rfl,λ{i m e Q o}=>rfl,?_⟩;refine⟨?_,?_⟩
 ·intros;rw[wV,zk];congr;funext x l
  cases h:gV x with
  |none=>simp[WP]
  |some n=>simp[WP]
 refine⟨?_,?_⟩
 ·intros;rw[ue,zk];congr;funext x l
  cases h:lG l x with
  |none=>simp[WP]
  |some n=>simp[WP]
 refine⟨?_,?_⟩
 ·intros;rw[Ga,zk];congr;funext x l
  split
  ·rw[A];simp[cF]
  ·rename_i E;have:∀j,x≠[D.int j]:=λj h=>E j h
   simp[WP,this]
 ·intros;rw[Gb,zk];congr;funext x l
  split
  ·rw[A];simp only[cF,List.cons.injEq,D.int.injEq,and_true];apply propext;constructor
   ·rintro⟨h,q⟩;exact⟨_,_,⟨rfl,rfl⟩,h.1,h.2,q⟩
   ·rintro⟨R,P,⟨rfl,rfl⟩,J,I,q⟩;exact⟨⟨J,I⟩,q⟩
  ·rename_i E;have:∀i j,x≠[D.int i,D.int j]:=λi j h=>E i j h
   simp[WP,this]
def g9(I:DS->aa->Prop) (Q:Fl->aa->Prop):Fl->aa->Prop:=λb a=>match b with
 |.nx σ=>I σ a
 |.ct σ=>I σ a
 |.brk σ=>Q (.nx σ) a
 |.ret v=>Q (.ret v) a
theorem RL{j:SG}{d:SS}{Q:Fl->aa->Prop}(I:Nat->DS->aa->Prop):∀(e:List D) (k:Nat) (c:DS) (b:aa),I k c b ->
  (∀i x c b,e[i]?=some x->I (k+i) c b->∃g,j x c=some g/\WP (d g b) (g9 (I (k+i+1)) Q))->(∀c b,I (k+e.length) c b->Q (.nx c) b)->WP (dU j d e c b) Q
 |[],k,c,b,h,_,q=>q c b h
 |x::e,k,c,b,h,s,q=>by
  obtain⟨g,p,w⟩:=s 0 x c b rfl h;obtain⟨n,f,o,w⟩:=w.get;unfold dU;rw[p];dsimp only;rw[o]
  have l:∀a,I (k+0+1) a f->WP (dU j d e a f) Q:=λa r=>RL I e (k+1) a f r (λi y c b t m=>by
   have:=s (i+1) y c b (by simpa using t) (by rw[show k+(i+1)=k+1+i by lia];exact m);rw[show k+(i+1)+1=k+1+i+1 by lia] at this
   exact this) (λc b h=>q c b (by rw[dm,show k+(e.length+1)=k+1+e.length by lia];exact h))
  cases n with
  |nx a=>exact l a w
  |ct a=>exact l a w
  |brk a=>exact w
  |ret v=>exact w
theorem gl(I:Nat->DS->aa->Prop) (f:I 0 b a)
  (s:∀i x b a,xs[i]?=some x->I i b a->∃c,bd x b=some c/\WP (body c a) (g9 (I (i+1)) Q))(q:∀b a,I xs.length b a->Q (.nx b) a):WP (dU bd body xs b a) Q:=
 RL I xs 0 b a f (λi x b a e d=>by rw[jS] at d ⊢;exact s i x b a e d) λb a h=>q b a (by rw[jS] at h;exact h)
theorem L:(∀{I:DS->aa->Prop}{Q:Fl->aa->Prop}{b:DS}{a:aa},g9 I Q (.nx b) a=I b a)
 /\ (∀{I:DS->aa->Prop}{Q:Fl->aa->Prop}{b:DS}{a:aa},g9 I Q (.ct b) a=I b a)
 /\ (∀{I:DS->aa->Prop}{Q:Fl->aa->Prop}{b:DS}{a:aa},g9 I Q (.brk b) a=Q (.nx b) a)
 /\ (∀{I:DS->aa->Prop}{Q:Fl->aa->Prop}{v:D}{a:aa},g9 I Q (.ret v) a=Q (.ret v) a):=⟨rfl,rfl,rfl,rfl⟩
theorem FD{o:SG}{c:ST}{f:SE}(I:Nat->List D->DS->aa->Prop):∀(j:List D) (k:Nat) (a:List D) (e:DS) (au:aa) (Q:List D->aa->Prop),I k a e au ->
  (∀i x a e au,j[i]?=some x->I (k+i) a e au->∃d,o x e=some d/\WP (c d au) (λb g=>if b=true then WP (f d g) (λy l=>I (k+i+1) (a++[y]) d l) else I (k+i+1) a d g)) ->
  (∀m e au,I (k+j.length) (a++m) e au->Q m au)->WP (bx o c f j e au) Q
 |[],k,a,e,au,Q,h,_,q=>q [] e au (by rw[lD];exact h)
 |x::j,k,a,e,au,Q,h,s,q=>by
  obtain⟨d,z,w⟩:=s 0 x a e au rfl h;obtain⟨b,g,v,w⟩:=w.get;have p:∀i y a e au,j[i]?=some y->I (k+1+i) a e au->∃d,o y e=some d/\WP (c d au) (λb g=>if b=true then WP (f d g) (λy l=>I (k+1+i+1) (a++[y]) d l) else I (k+1+i+1) a d g):=λi y a e au A t=>by
   have:=s (i+1) y a e au (by simpa using A) (by rw[show k+(i+1)=k+1+i by lia];exact t);rw[show k+(i+1)+1=k+1+i+1 by lia] at this;exact this
  have r:∀(n:List D) e au,I (k+1+j.length) n e au->I (k+(x::j).length) n e au:=λn e au h=>by rw[dm,show k+(j.length+1)=k+1+j.length by lia];exact h
  unfold bx;rw[z];dsimp only;rw[v];dsimp only[zt];cases b with
  |false=>
   rw[if_neg ')'] at w ⊢;exact FD I j (k+1) a d g Q w p λm e au h=>q m e au (r _ _ _ h)
  |true=>
   rw[if_pos rfl] at w ⊢;obtain⟨y,l,u,w⟩:=w.get;rw[u];dsimp only[zt];rw[zk];exact FD I j (k+1) (a++[y]) d l _ w p λm e au h=>q (y::m) e au (r _ _ _ (by rw[dE] at h;exact h))
theorem uo(I:Nat->List D->DS->aa->Prop) (o:I 0 [] e a)
  (s:∀i x g e a,xs[i]?=some x->I i g e a->∃d,bd x e=some d/\WP (c d a) (λb j=>if b=true then WP (f d j) (λy l=>I (i+1) (g++[y]) d l) else I (i+1) g d j))
  (q:∀k e a,I xs.length k e a->Q k a):WP (bx bd c f xs e a) Q:=
 FD I xs 0 [] e a Q o (λi x g e a n m=>by rw[jS] at m ⊢;exact s i x g e a n m) λk e a h=>q k e a (by rw[jS] at h;simpa using h)
theorem ox{o:SG}{c:ST}{f:SE}{k:Type}(S:DS->Prop)(P:k->Bool)(G:k->D)(E:k->D){as:List k}{d:DS}{g:aa}{Q:List D->aa->Prop}(C:S d)
  (s:∀x∈as,∀d,S d->∃a,o (E x) d=some a/\S a/\WP (c a g) (λb e=>e=g/\b=P x)/\(P x=true->WP (f a g) (λy e=>e=g/\y=G x)))
  (q:Q ((as.filter P).map G) g):WP (bx o c f (as.map E) d g) Q:=by
 refine uo (λi h d n=>S d/\n=g/\h=((as.take i).filter P).map G) ⟨C,rfl,rfl⟩ (λi x h d n p m=>?_) λI d n m=>?_
 ·obtain⟨H,rfl,rfl⟩:=m;rw[eU] at p;obtain⟨z,l,rfl⟩:=gQ.mp p;obtain⟨a,v,j,r,u⟩:=s z (dF l) d H;refine⟨a,v,r.mono λb e A=>?_⟩;obtain⟨rfl,rfl⟩:=A;cases hP:P z with
  |false=>
   rw[if_neg ')'];refine⟨j,rfl,?_⟩;rw[zg l,sO,mU (by rw[hP];decide)];simp
  |true=>
   rw[if_pos rfl];refine(u hP).mono λy t w=>?_
   obtain⟨rfl,rfl⟩:=w;refine⟨j,rfl,?_⟩;rw[zg l,sO,mT hP,fX];simp
 ·obtain⟨_,rfl,rfl⟩:=m;rw[av,fi];exact q
theorem V:(∀{c:Type}{a b:c}{l:List c},(a::l).set 0 b=b::l)
 /\ (∀{c:Type}{a b:c}{l:List c}{i:Nat},(a::l).set (i+1) b=a::l.set i b)
 /\ (∀{e:DS}{k:Nat}{is:List Nat},aV k is e=List.replicate k none++is.map λi=>(e[i]?).getD none)
 /\ (∀{c:Type}{a:c}{k:Nat},List.replicate (k+1) a=a::List.replicate k a)
 /\ (∀{c:Type}{a:c},List.replicate 0 a=[])
 /\ (∀{c g:Type}{f:c->g}{a:c}{l:List c},(a::l).map f=f a::l.map f)
 /\ (∀{c g:Type}{f:c->g},([]:List c).map f=[])
 /\ (∀{c:Type}{a:c}{l m:List c},(a::l)++m=a::(l++m))
 /\ (∀{c:Type}{l:List c},[]++l=l)
 /\ (∀{c:Type}{a:c}{l:List c},(a::l)[0]?=some a)
 /\ (∀{c:Type}{a:c}{l:List c}{i:Nat},(a::l)[i+1]?=l[i]?)
 /\ (∀{c:Type}{a:c}{d:c},(some a).getD d=a)
 /\ (∀{i:Nat}{d:D}{e:DS},gN i d e=some (e.set i (some d)))
 /\ (∀{p:Prop} [Decidable p],(decide p=true)=p)
 /\ (∀{p:Prop} [Decidable p],((!decide p)=true)=¬ p)
 /\ (∀{b:Bool},((!b)=true)=(b=false))
 /\ (∀{a b:Prop},(if True then a else b)=a)
 /\ (∀{a b:Prop},(if False then a else b)=b)
 /\ (∀{a b:Prop},(if true=true then a else b)=a)
 /\ (∀{a b:Prop},(if false=true then a else b)=b)
 /\ (∀{c:Type}{a b:c},(if True then a else b)=a)
 /\ (∀{c:Type}{a b:c},(if False then a else b)=b)
 /\ ((true=false)=False)/\((false=true)=False)/\((true=true)=True)/\((false=false)=True)/\((¬ True)=False)/\((¬ False)=True):=by
 refine⟨rfl,rfl,rfl,rfl,rfl,rfl,rfl,rfl,rfl,rfl,?_,rfl,rfl,?_,?_,?_,rfl,rfl,rfl,rfl,rfl,rfl,by simp,by simp,by simp,by simp,by simp,by simp⟩
 ·intros;rfl
 ·intro p _;simp
 ·intro p _;simp
 ·intro b;simp
theorem M:(∀{f:SE}{m:DS}{d:aa}{Q:Option Int->aa->Prop},WP (gq f m d) Q=WP (f m d) (λv c=>∃i,v=.int i/\Q (some i) c))
 /\ (∀{m:DS}{d:aa}{Q:Option Int->aa->Prop},WP (gr m d) Q=Q none d)
 /\ (∀{f:SE}{lo G:DS->aa->bu (Option Int)}{m:DS}{d:aa}{Q:D->aa->Prop},WP (qL f lo G m d) Q=WP (f m d) (λx c=>WP (lo m c) (λl p=>WP (G m p) (λh r=>(∃o,x=.tup o/\Q (.tup (cutD o l h)) r)\/(∃o,eI r x=some o/\Q (.lst (cutD o l h)) r)))))
 /\ (∀{f:SE}{m:DS}{d:aa}{Q:D->aa->Prop},WP (lV f m d) Q=WP (f m d) (λx c=>∃n o,x=.ref n/\c[n]?=some (.lst o)/\Q (.lst o) (c.set n .dead)))
 /\ (∀{f g h:SE}{m:DS}{d:aa}{Q:Fl->aa->Prop},WP (fu f g h m d) Q=WP (h m d) (λv c=>WP (f m c) (λx p=>WP (g m p) (λy r=>∃n k o j,x=.ref n/\y=.int k/\r[n]?=some (.lst o)/\kP o.length k=some j/\Q (.nx m) (r.set n (.lst (o.set j v)))))))
 /\ (∀{f:SE}{g:SA}{m:DS}{d:aa}{Q:D->aa->Prop},WP (bw f g m d) Q=WP (f m d) (λx c=>∃n s,x=.ref n/\c[n]?=some (.lst s)/\WP (g m c) (λC p=>∃y o,C=[y]/\p[n]?=some (.lst o)/\o.length<sizeLine/\Q .non (p.set n (.lst (o++[y]))))))
 /\ (∀{x:D}{d:aa}{Q:D->aa->Prop},WP (iq [x] d) Q=∃t,(cy d x).bind bv=some t/\Q (.int t.sum) d)
 /\ (∀{x:D}{E:Bool}{d:aa}{Q:D->aa->Prop},WP (eP E [x] d) Q=∃w,(eI d x).bind bJ=some w/\Q (.bl (if E then w.all id else w.any id)) d)
 /\ (∀{x:D}{gt:Bool}{d:aa}{Q:D->aa->Prop},WP (qN gt [x] d) Q=∃n t,(cy d x).bind bv=some (n::t)/\Q (.int (cL gt n t)) d)
 /\ (∀{g:SA}{m:DS}{d:aa}{Q:List D->aa->Prop},WP (iJ g m d) Q=WP (g m d) (λo c=>∃a b,o=[.tup a,.tup b]/\Q (bV a b) c))
 /\ (∀{i:Nat}{g:D->D->aa->bu D}{f:SE}{m:DS}{d:aa}{Q:Fl->aa->Prop},WP (lH i g f m d) Q=∃x,m[i]?=some (some x)/\WP (f m d) (λy c=>WP (g x y c) (λz p=>Q (.nx (m.set i (some z))) p))):=by
 refine⟨?_,rfl,?_,?_,?_,?_,?_,?_,?_,?_,?_⟩
 ·intros;rw[J9,zk];congr;funext x c
  cases x<;>simp[WP]
 ·intros;rw[F6,zk];congr;funext x c;rw[zk];congr;funext l p;rw[zk];congr;funext h r
  apply propext;split
  ·constructor
   ·intro q;exact .inl ⟨_,rfl,q⟩
   ·rintro(⟨o,e,q⟩|⟨o,e,q⟩)
    ·cases e;exact q
    ·cases e
  ·rename_i u;constructor
   ·intro q;split at q
    ·rename_i o e;exact .inr ⟨o,e,q⟩
    ·exact q.elim
   ·rintro(⟨o,e,q⟩|⟨o,e,q⟩)
    ·exact absurd e (u o)
    ·rw[e];exact q
 ·intros;rw[F3,zk];congr;funext x c
  apply propext;constructor
  ·intro q;split at q
   ·split at q
    ·rename_i o e;exact⟨_,o,rfl,e,q⟩
    ·exact q.elim
   ·exact q.elim
  ·rintro⟨n,o,rfl,e,q⟩;dsimp only;rw[e];exact q
 ·intros;rw[MN,zk];congr;funext v c;rw[zk];congr;funext x p;rw[zk];congr;funext y r
  apply propext;constructor
  ·intro q;split at q
   ·split at q
    ·split at q
     ·exact⟨_,_,_,_,rfl,rfl,by assumption,by assumption,q⟩
     ·exact q.elim
    ·exact q.elim
   ·exact q.elim
  ·rintro⟨n,k,o,j,rfl,rfl,I,A,q⟩;dsimp only;rw[I];dsimp only;rw[A];exact q
 ·intros;rw[QO,zk];congr;funext x c
  apply propext;constructor
  ·intro q;split at q
   ·rename_i n s e;rw[zk] at q;have H:c[n]?=some (.lst s):=by
     unfold eI at e;dsimp only at e;split at e
     ·cases e;assumption
     ·cases e
    refine⟨n,s,rfl,H,q.mono λC p h=>?_⟩;split at h
    ·split at h
     ·exact⟨_,_,rfl,by assumption,by assumption,h⟩
     ·exact h.elim
    ·exact h.elim
   ·exact q.elim
  ·rintro⟨n,s,rfl,e,q⟩;rw[nQ e];dsimp only;rw[zk];refine q.mono λC p h=>?_
   obtain⟨y,o,rfl,A,J,h⟩:=h;rw[A];dsimp only;rw[if_pos J];exact h
 ·intro x d Q;unfold iq;dsimp only;cases h:(cy d x).bind bv with
  |none=>simp[WP]
  |some t=>simp[WP]
 ·intro x E d Q;unfold eP;dsimp only;cases h:(eI d x).bind bJ with
  |none=>simp[WP]
  |some t=>simp[WP]
 ·intro x gt d Q;unfold qN;dsimp only;cases h:(cy d x).bind bv with
  |none=>simp[WP]
  |some t=>
   cases t with
   |nil=>simp[WP]
   |cons n t=>
    apply propext;constructor
    ·intro q;exact⟨_,_,rfl,q⟩
    ·rintro⟨a,b,e,q⟩;cases e;exact q
 ·intro g m d Q;unfold iJ;rw[zk];congr;funext x c
  apply propext;constructor
  ·intro q;split at q
   ·exact⟨_,_,rfl,q⟩
   ·exact q.elim
  ·rintro⟨a,b,rfl,q⟩;exact q
 ·intro i g f m d Q;rw[Iu];apply propext;constructor
  ·intro q;split at q
   ·rename_i x e;rw[zk] at q;exact⟨x,e,q.mono λy c h=>by rw[zk] at h;exact h⟩
   ·exact q.elim
  ·rintro⟨x,e,q⟩;rw[e];dsimp only;rw[zk];exact q.mono λy c h=>by rw[zk];exact h
theorem N:(∀{g:List D}{P:List D->Prop},(∃f,D.tup g=D.tup f/\P f)=P g)
 /\ (∀{i:Int}{P:Int->Prop},(∃j,D.int i=D.int j/\P j)=P i)
 /\ (∀{g:List D}{h:aa}{P:List D->Prop},(∃f,eI h (.tup g)=some f/\P f)=False)
 /\ (∀{g:List D}{h:aa}{P:List D->Prop},(∃f,eI h (.lst g)=some f/\P f)=P g)
 /\ (∀{g:List D}{P:List D->Prop},(∃f,gV (.tup g)=some f/\P f)=P g)
 /\ (∀{g:List D}{P:List D->Prop},(∃f,gV (.lst g)=some f/\P f)=P g)
 /\ (∀{b:Bool}{h:aa}{P:Bool->Prop},(∃c,lG h (.bl b)=some c/\P c)=P b)
 /\ (∀{i:Int}{P:Int->Prop},(∃j,[D.int i]=[D.int j]/\P j)=P i)
 /\ (∀{i j:Int}{P:Int->Int->Prop},(∃k l,[D.int i,D.int j]=[D.int k,D.int l]/\P k l)=P i j)
 /\ (∀{x:D}{P:D->Prop},(∃y,[x]=[y]/\P y)=P x)
 /\ (∀{a b:List D}{P:List D->List D->Prop},(∃c d,[D.tup a,D.tup b]=[.tup c,.tup d]/\P c d)=P a b)
 /\ (∀{p:Prop},(p\/False)=p)/\(∀{p:Prop},(True/\p)=p):=by
 refine⟨?_,?_,?_,?_,?_,?_,?_,?_,?_,?_,?_,by simp,by simp⟩
 ·intros;apply propext;exact⟨λ⟨_,e,p⟩=>by cases e;exact p,λp=>⟨_,rfl,p⟩⟩
 ·intros;apply propext;exact⟨λ⟨_,e,p⟩=>by cases e;exact p,λp=>⟨_,rfl,p⟩⟩
 ·intros;apply propext;exact⟨λ⟨_,e,p⟩=>(by cases e),λp=>p.elim⟩
 ·intros;apply propext;exact⟨λ⟨_,e,p⟩=>by cases e;exact p,λp=>⟨_,rfl,p⟩⟩
 ·intros;apply propext;exact⟨λ⟨_,e,p⟩=>by cases e;exact p,λp=>⟨_,rfl,p⟩⟩
 ·intros;apply propext;exact⟨λ⟨_,e,p⟩=>by cases e;exact p,λp=>⟨_,rfl,p⟩⟩
 ·intros;apply propext;exact⟨λ⟨_,e,p⟩=>by cases e;exact p,λp=>⟨_,rfl,p⟩⟩
 ·intros;apply propext;exact⟨λ⟨_,e,p⟩=>by cases e;exact p,λp=>⟨_,rfl,p⟩⟩
 ·intros;apply propext;exact⟨λ⟨_,_,e,p⟩=>by cases e;exact p,λp=>⟨_,_,rfl,p⟩⟩
 ·intros;apply propext;exact⟨λ⟨_,e,p⟩=>by cases e;exact p,λp=>⟨_,rfl,p⟩⟩
 ·intros;apply propext;exact⟨λ⟨_,_,e,p⟩=>by cases e;exact p,λp=>⟨_,_,rfl,p⟩⟩
theorem B9(b:cS au n)(h:1<=m)(g:m<=1000000)(k:∀r a,0<=r->r<m->cI au a n->Q (.int r) a):WP (zx [.ref n,.int m] au) Q:=by
 obtain⟨r,a,e,f,d,c,_⟩:=vx b h (Dw g (by decide +kernel));exact WP.of e (k r a f d c)
theorem wl(h:cy au x=some xs)(a:L2.atI xs i=some d)(q:Q d au):WP (cB x (.int i) au) Q:=WP.of (lc h a) q
theorem GJ{a:List Int}{i:Nat}(f:a.length<=63)(b:i<=100000)(k:∀g,cS (au++g) au.length->Q (.ref au.length) (au++g)):WP (vJ [.scr (a.map .int),.int i] au) Q:=by
 obtain⟨c,x,d,h,e⟩:=GH (au:=au) f b;exact WP.of e (k _ ⟨c,x,by simp,d,h⟩)
theorem cS.lt(h:cS au n):n<au.length:=by obtain⟨c,x,e,_⟩:=h;exact gP e
theorem rk{a:Type}(l:List a):(l.filter λ_=>true)=l:=Om.mpr '%'
theorem RA{b:Type}(P:b->Bool):∀a:List b,bJ (a.map λx=>.bl (P x))=some (a.map P)
 |[]=>rfl
 |x::a=>by rw[bP,bJ,RA P a];rfl
theorem B5{l:'$'}(a:gV x=some (aJ l))(c:l.length<=1000000)(k:∀g,Q (aK (aQ l)) (au++g)):WP (j4 [x] au) Q:=by
 have b:=ry l;obtain⟨g,e⟩:=RH (au:=au) a '!' '!';exact WP.of e (k g)
theorem nT{R:Fl->aa->Prop}(h:WP (s σ au) R)(k:∀b a,R b a->ke t Q b a):WP (aD s t σ au) Q:=by
 rw[vn];exact h.mono k
theorem Ej(h:au[n]?=some (.dT (aS ks)))(a:ks.length<=1000000)(q:Q .non (au.set n (.dT (aS (aR ks k))))):WP (jO [.ref n,aL k] au) Q:=WP.of (vq h a) q
theorem Rb(h:au[n]?=some (.dT (aS ks)))(a:ks.length<=1000000)(q:Q (.lst (aJ (aw ks))) au):WP (bj [.ref n] au) Q:=WP.of (Fx h a) q
end Dd
namespace K03
end K03
namespace K13
open PyProof.Rows
end K13
namespace Dd
open L2 K13
theorem vH(I:Nat->DS->aa->Prop) (r:I k a e)(t:k<1000000)
  (s:∀j a e,I j a e->WP (c a e) (λb g=>if b=true then WP (body a g) (g9 (λd f=>∃i,i<j/\I i d f) Q) else Q (.nx a) g)):WP (cM c body a e) Q:=by
 have l:∀n j a e,I j a e->j<n->WP (dw c body n a e) Q:=by
  intro n
  induction n with
  |zero=>intro j a e _ h;lia
  |succ n ih=>
   intro j a e u x;obtain⟨b,g,q,w⟩:=(s j a e u).get;unfold dw;rw[q];dsimp only[zt];cases b with
   |false=>exact w
   |true=>
    rw[if_pos rfl] at w ⊢;obtain⟨o,f,p,w⟩:=w.get;rw[p];cases o with
    |nx d=>obtain⟨i,m,h⟩:=w;exact ih i d f h '!'
    |ct d=>obtain⟨i,m,h⟩:=w;exact ih i d f h '!'
    |brk d=>exact w
    |ret v=>exact w
 exact l mW k a e r t
end Dd
namespace Dd
open L2
noncomputable abbrev cf:=List Int
def mV:Int->cf->Int
 |_,[]=>0
 |w,x::r=>w*x+mV (2*w+1) r
theorem Q7{r:cf}(l:r.length<=4)(q:Q (.int (mV 1 r)) au):WP (vV [aL r] au) Q:=by
 refine fW rfl ?_;simp only[W,V];refine⟨r.map .int,rfl,?_⟩;refine gl (λi c s=>∃(t w:Int) (v:Option D),c=[some (aL r),some (.int t),some (.int w),v]/\s=au/\t+mV w (r.drop i)=mV 1 r/\0<=w/\w+1<=((2^(i+1):Nat):Int)) ⟨0,1,_,rfl,rfl,by simp,by lia,by decide⟩ ?_ ?_
 ·rintro i x c s f ⟨t,w,v,rfl,rfl,b,k,g⟩;obtain⟨y,a,rfl⟩:∃y,r[i]?=some y/\x=.int y:=by
   rw[eU] at f;obtain⟨y,a,rfl⟩:=gQ.mp f;exact⟨y,a,rfl⟩
  have d:i<r.length:=by
   rcases j8 i r.length with h|h
   ·exact h
   ·rw[qw h] at a;cases a
  have m:w<=32:=by
   have:2^(i+1)<=2^5:=DC ')' '!';lia
  have e:r.drop i=y::r.drop (i+1):=by
   rw[jU d];rw[cV d] at a;cases a
   rfl
  rw[e,mV] at b;refine⟨_,rfl,?_⟩;unfold Sc;simp only[W,V,M,L];refine⟨.int t,rfl,.inl ⟨by lia,by lia⟩,WP.of (show oI (λ_ _=>True) (λi j=>D.int (i+j)) (.int t) (.int (w*y)) s=.ok (.int (t+w*y)) s from rfl) ⟨.inl ⟨by lia,by lia⟩,t+w*y,2*w+1,_,rfl,rfl,by rw[←b];lia,by lia,?_⟩⟩;rw[yL];lia
 ·rintro c s ⟨t,w,v,rfl,rfl,b,k,g⟩;rw[av,N3] at b;simp only[W,V];rw[show t=mV 1 r by rw[←b];simp[mV]];exact q
theorem Kp(a:σ[i]?=some (some (.ref p)))(h:s[p]?=some (.lst (x::ys))):kR (aA i) (aB (eC (.int 0)) aC) σ s=.ok x (s.set p (.lst ys)):=by
 have b:aA i σ s=.ok (.ref p) s:=by unfold aA;rw[a]
 unfold kR;rw[b]
 show(match s[p]? with
  |some (.lst _)=>bu.bind (aB (eC (.int 0)) aC σ s) _
  |_=>.stuck)=_
 rw[h]
 show(match [D.int 0],s[p]? with
  |[.int 0],some (.lst (y::zs))=>bu.ok y (s.set p (.lst zs))
  |_,_=>.stuck)=_
 rw[h]
 rfl
end Dd
namespace K37
end K37
namespace Dd
open L2 K13
theorem gO(o a:O)(g:aa):(au++o::g).set au.length a=au++a::g:=by simp
theorem eT(o:O)(g:aa):(au++o::g)[au.length]?=some o:=by simp
end Dd
namespace K13
end K13
namespace Dd
open L2 K13
theorem Fn:WP (eA f g σ au) Q=WP (f σ au) (λx c=>∃n b,x=.ref n/\c[n]?=some (.lst b)/\WP (g σ c) (λj a=>∃y i d,j=[y]/\a[n]?=some (.lst i)/\eI a y=some d/\i.length+d.length<=sizeLine/\Q .non (a.set n (.lst (i++d))))):=by
 rw[Nq,zk]
 congr
 funext x c
 apply propext;constructor
 ·intro q;split at q
  ·rename_i n b e;rw[zk] at q;have k:c[n]?=some (.lst b):=by
    unfold eI at e;dsimp only at e;split at e
    ·cases e;assumption
    ·cases e
   refine⟨n,b,rfl,k,q.mono λj a h=>?_⟩;split at h
   ·split at h
    ·split at h
     ·exact⟨_,_,_,rfl,by assumption,by assumption,by assumption,h⟩
     ·exact h.elim
    ·exact h.elim
   ·exact h.elim
  ·exact q.elim
 ·rintro⟨n,b,rfl,e,q⟩;rw[nQ e];dsimp only;rw[zk];refine q.mono λj a h=>?_
  obtain⟨y,i,d,rfl,l,m,o,h⟩:=h;rw[l];dsimp only;rw[m];dsimp only;rw[if_pos o];exact h
end Dd
namespace Dd
open L2
theorem _root_.List.set_getElem_self'{a:Type}{s:List a}{x:a}(h:s[m]?=some x):s.set m x=s:=by
 obtain⟨b,rfl⟩:=cK.mp h;exact List.set_getElem_self b
end Dd
namespace K39
end K39
namespace Dd
open L2
namespace Tab
noncomputable abbrev RN:=List Nat
def nz(r:RN):RN:=r.foldr (λx l=>match l with
 |[]=>bif Nat.beq x 0 then[] else[x]
 |y::l=>x::y::l) []
def gt(l:RN) (p:Nat):Nat:=l.getD p 0
def put(l:RN) (p:Nat) (v:Nat):RN:=l.take p++v::l.drop (p+1)
noncomputable def lo(a b:Nat):Nat:=bif Nat.ble a b then a else b
abbrev T3:=RN×RN×Nat
def jy(a j:Nat) (p:T3) (x:Nat):List T3:=bif Nat.beq (Nat.land (gt p.1 a) x) 0 then[(put p.1 a (gt p.1 a+x),put p.2.1 (j-1) (gt p.2.1 (j-1)-x),p.2.2-x*2^j)] else[]
def jz(i j:Nat) (p:T3):List T3:=(List.range (lo (gt p.2.1 (j-1)) (p.2.2/2^j)+1)).flatMap (jy (i+j-1) j p)
def ng(i:Nat) (a:Nat) (b:List (RN×RN)):Nat->List T3
 |0=>b.map λp=>(p.1,p.2,a)
 |k+1=>(ng i a b k).flatMap (jz i (k+1))
def nE(i:Nat) (p:T3):List (RN×RN):=bif Nat.beq (Nat.land (gt p.1 (i-1)) p.2.2) 0 then[(put p.1 (i-1) (gt p.1 (i-1)+p.2.2),p.2.1)] else[]
def D3(i:Nat) (a:Nat) (w:Nat) (b:List (RN×RN)):List (RN×RN):=(ng i a b w).flatMap (nE i)
def mx(r s:RN):Nat->List (RN×RN)
 |0=>[(List.replicate (r.length+s.length) 0,s)]
 |k+1=>D3 (k+1) (gt r k) s.length (mx r s k)
def cW(p:RN×RN):RN:=p.2++List.replicate (p.1.length-p.2.length) 0
def cu(p:RN×RN):List RN:=bif (p.1.zip (cW p)).all λq=>Nat.beq (Nat.land q.1 q.2) 0 then[(p.1.zip (cW p)).map λq=>q.1+q.2] else[]
def aN(r s:RN):List RN:=((mx r s r.length).flatMap cu).map nz
def ht(left:RN) (j:Nat) (w:Nat×RN):List (Nat×RN):=(List.range (lo (gt left (j-1)) (w.1/2^j)+1)).map λx=>(w.1-x*2^j,w.2++[x])
def ki(a:Nat) (left:RN):Nat->List (Nat×RN)
 |0=>[(a,[])]
 |k+1=>(ki a left k).flatMap (ht left (k+1))
def fz(a:Nat) (left:RN):List RN:=(ki a left 4).map λw=>w.1::w.2
def over(left a:RN):RN:=(List.range 4).map λj=>gt left j-gt a (j+1)
def gR(b:Nat) (w:List RN×RN):List (List RN×RN):=(fz b w.2).map λa=>(w.1++[a],over w.2 a)
def kJ(r s:RN):Nat->List (List RN×RN)
 |0=>[([],s)]
 |k+1=>(kJ r s k).flatMap (gR (gt r k))
def dS(r:RN):RN:=r++List.replicate (4-r.length) 0
def dJ(r s:RN):List (List RN):=(kJ (dS r) (dS s) 4).map λw=>(0::w.2)::w.1
def PD(a:List RN) (t i:Nat):Nat:=gt (a.getD i []) (t-i)
noncomputable def Pd(t:Nat):List Nat:=(List.range 5).filter λi=>Nat.ble i t&&Nat.blt (t-i) 5
def dA(a:List RN) (t:Nat):RN:=(Pd t).map (PD a t)
def free:Nat->RN->Bool
 |_,[]=>true
 |b,x::l=>bif Nat.beq (Nat.land b x) 0 then free (Nat.lor b x) l else false
def cZ(a:List RN):Option RN:=bif (List.range 8).all λk=>free 0 (dA a (k+1)) then some (nz ((List.range 8).map λk=>(dA a (k+1)).sum)) else none
def i7(r s:RN):List RN:=(dJ r s).filterMap cZ
noncomputable def zQ(x:Nat):Bool:=Nat.ble x 16
def gM(n c:Nat) (a:List (RN×RN)):Bool:=Nat.ble a.length 100&&a.all λp=>Nat.beq p.1.length n&&Nat.beq p.2.length c&&p.2.all zQ
def gT(n c:Nat) (a:List T3):Bool:=Nat.ble a.length 100&&a.all λp=>Nat.beq p.1.length n&&Nat.beq p.2.1.length c&&p.2.1.all zQ&&zQ p.2.2
def tO(r s:RN):Bool:=((List.range (r.length+1)).all λk=>gM (r.length+s.length) s.length (mx r s k))&&((List.range r.length).all λk=>(List.range (s.length+1)).all λj=>gT (r.length+s.length) s.length (ng (k+1) (gt r k) (mx r s k) j))
def gL(left:RN) (j:Nat) (a:List (Nat×RN)):Bool:=Nat.ble a.length 100&&a.all λw=>zQ w.1&&Nat.beq w.2.length j&&(w.2.zip left).all λq=>Nat.ble q.1 q.2
def gB(k:Nat) (a:List (List RN×RN)):Bool:=Nat.ble a.length 100&&a.all λw=>Nat.beq w.1.length k&&Nat.beq w.2.length 4&&w.2.all zQ&&w.1.all λl=>Nat.beq l.length 5
def tP(r s:RN):Bool:=((List.range 5).all λk=>gB k (kJ r s k))&&((List.range 4).all λk=>(kJ r s k).all λw=>(List.range 5).all λj=>gL w.2 j (ki (gt r k) w.2 j))
def PB(r s:RN):Bool:=tO r s&&tP (dS r) (dS s)&&decide (aN r s=i7 r s)
def du:Nat->RN->Nat
 |_,[]=>0
 |w,x::r=>w*x+du (2*w+1) r
def fA:List RN:=(List.range 17).flatMap λa=>(List.range 6).flatMap λb=>(List.range 3).flatMap λc=>(List.range 2).flatMap λd=>bif Nat.ble (a+3*b+7*c+15*d) 16 then[nz [a,b,c,d]] else[]
def ce(r:RN):Bool:=fA.all λs=>bif Nat.ble (du 1 r+du 1 s) 16 then PB r s else true
def nH:Bool:=fA.all ce
theorem nS{o:Type}{r:SG}{k:SS}{m:aa}{Q:Fl->aa->Prop}(E:o->D)(f:o->List D)(S:DS->Prop)(B:Nat){d:List o}{b:List D}{h:DS}{g:aa}(G:S h)(A:(b++d.flatMap f).length<=B)
  (t:∀a∈d,∀h b g,S h->(b++f a).length<=B->∃j,r (E a) h=some j/\∀R:Fl->aa->Prop,(∀c l,S c->R (.nx c) (m++(.lst (b++f a)::l)))->WP (k j (m++(.lst b::g))) R)
  (q:∀c l,S c->Q (.nx c) (m++(.lst (b++d.flatMap f)::l))):WP (dU r k (d.map E) h (m++(.lst b::g))) Q:=by
 refine gl (λi h s=>∃g,S h/\s=m++(.lst (b++(d.take i).flatMap f)::g)) ⟨g,G,by simp⟩ ?_ ?_
 ·rintro i x h s v ⟨g,n,rfl⟩;rw[eU] at v;obtain⟨z,p,rfl⟩:=gQ.mp v;have e:(d.take (i+1)).flatMap f=(d.take i).flatMap f++f z:=by rw[zg p,qr];simp
  have u:((d.take (i+1)).flatMap f).length<=(d.flatMap f).length:=by
   conv=>rhs;rw[←kG (i+1) d,qr,dq]
   lia
  rw[e] at u;rw[dq] at A u;obtain⟨j,y,w⟩:=t z (dF p) h (b++(d.take i).flatMap f) g n (by simp only[dq];lia);refine⟨j,y,w _ λc l C=>?_⟩;simp only[L];exact⟨l,C,by rw[e,dE]⟩
 ·rintro h s ⟨g,n,rfl⟩;rw[av,fi];exact q _ _ n
noncomputable abbrev nI(n:Nat):D:=.int (n:Int)
abbrev rz(l:RN):D:=.tup (l.map nI)
def jV(p:T3):D:=.tup [rz p.1,rz p.2.1,nI p.2.2]
def lL(p:RN×RN):D:=.tup [rz p.1,rz p.2]
theorem qI{l:RN}(h:p<l.length)(s:aa):cB (rz l) (.int p) s=.ok (nI (gt l p)) s:=
 lc rfl (vo (j:=p) (xs:=l.map nI) (by rw[eU,cV h];unfold gt;rw[dM,cV h];rfl))
theorem rO{l:RN}{p v:Nat}{b:Int}(h:p<l.length)(c:l.length<=100)(a:(gt l p:Int)+b=v)(q:Q (rz (put l p v)) au):WP (rd [rz l,.int p,.int b] au) Q:=by
 refine fW rfl ?_;simp only[W,V,M,Dd.N];refine WP.of (qI h au) ?_;simp only[W,V,M,Dd.N];rw[wL,show((p:Int)+1)=((p+1:Nat):Int) by push_cast;rfl,P7,a,←List.map_take,←List.map_drop];refine⟨by show 1<=sizeLine;decide,small _ (by simp;lia),small _ (by simp;lia),?_⟩;have e:(l.take p).map nI++[D.int (v:Int)]++(l.drop (p+1)).map nI=(put l p v).map nI:=by unfold put;simp
 rw[e];exact q
theorem oP(a b:Nat):(if(b:Int)<(a:Int) then(b:Int) else(a:Int))=(lo a b:Nat):=by
 unfold lo;cases c:Nat.ble a b with
 |true=>have:=ij c;rw[if_neg '!'];rfl
 |false=>
  have:¬ a<=b:=λz=>by rw[pj z] at c;cases c
  rw[if_pos '!'];rfl
theorem rY(a b:Nat):lo a b<=a:=by have:=oP a b;split at this<;>lia
theorem HB(a b:Nat):lo a b<=b:=by have:=oP a b;split at this<;>lia
theorem Ed(a b:Nat):(Builtin.bitAnd (a:Int) (b:Int)=0)=(Nat.beq (Nat.land a b) 0=true):=by
 apply propext;rw[show Builtin.bitAnd (a:Int) (b:Int)=((Nat.land a b:Nat):Int) from rfl,Nat.beq_eq];lia
theorem BP(n:Nat):rng 0 n=(List.range n).map nI:=by
 unfold rng;exact mo λi _=>by rw[su]
theorem Gu{b:aa}{R:Fl->aa->Prop}(h:a<p.1.length)(s:p.1.length<=100)(t:1<=j)(n:j<=4)(k:j-1<p.2.1.length)(r:p.2.1.length<=100)
  (o:x<=gt p.2.1 (j-1))(f:x*2^j<=p.2.2)(d:x<=1000)(e:(acc++(jy a j p x).map jV).length<=1000)
  (q:R (.nx [v0,v1,some (nI j),some (nI a),some (.ref b.length),some (rz p.1),some (rz p.2.1),some (nI p.2.2),some (nI x)]) (b++(.lst (acc++(jy a j p x).map jV)::g))):
  WP (FI [v0,v1,some (nI j),some (nI a),some (.ref b.length),some (rz p.1),some (rz p.2.1),some (nI p.2.2),some (nI x)] (b++(.lst acc::g))) R:=by
 unfold FI;simp only[W,V];refine WP.of (qI h _) ?_;simp only[W,V,Ed,Dd.N];unfold jy at q e;cases c:Nat.beq (Nat.land (gt p.1 a) x) 0 with
 |false=>
  rw[c] at q;rw[if_neg ')']
  simpa using q
 |true=>
  rw[c] at q e;rw[if_pos rfl];simp only[W,V,M];have i:acc.length<=999:=by simpa using e
  refine⟨_,_,rfl,eT _ _,rO h s (v:=gt p.1 a+x) (by push_cast;rfl) ?_⟩;have m:((j:Int)-1)=((j-1:Nat):Int):=by lia
  rw[m];refine⟨trivial,rO k r (v:=gt p.2.1 (j-1)-x) '!' ?_⟩;refine⟨⟨by lia,by lia,by rw[Int.natAbs_natCast];exact jv d ')'⟩,trivial,by show 3<=sizeLine;decide,_,_,rfl,eT _ _,cx _ '!',?_⟩;rw[gO];have l:(p.2.2:Int)-(x:Int)*2^(j:Int).toNat=((p.2.2-x*2^j:Nat):Int):=by
   rw[n0,Int.ofNat_sub f]
   push_cast
   rfl
  rw[l];exact q
theorem w4(h:∀x∈l,x<=b):gt l p<=b:=by
 unfold gt;rw[dM];cases e:l[p]? with
 |none=>exact ie _
 |some x=>exact h x (dF e)
theorem QW(h:x∈List.range (lo a (b/2^j)+1)):x<=a/\x*2^j<=b:=by
 have h:=bO.mp h;have d:=rY a (b/2^j);have c:=HB a (b/2^j);exact⟨by lia,ax (Nat.mul_le_mul_right _ (by lia:x<=b/2^j)) (Nat.div_mul_le_self _ _)⟩
theorem xz(a j:Nat):(a:Int)/2^(j:Int).toNat=((a/2^j:Nat):Int):=by
 rw[n0]
 push_cast
 rfl
structure D7 (n c:Nat) (p:T3):Prop where
 l1:p.1.length=n
 l2:p.2.1.length=c
 sm:∀x∈p.2.1,x<=16
 le:p.2.2<=16
section
variable {au:aa}
theorem Mu{n c i j:Nat}{e:List T3}{Q:D->aa->Prop}(H:1<=i)(u:1<=j)(r:j<=4)(P:i+j-1<n)(I:j-1<c)(Y:n<=8)(v:c<=4)(A:∀p∈e,D7 n c p)(J:(e.flatMap (jz i j)).length<=100)
  (k:∀g,Q (.lst ((e.flatMap (jz i j)).map jV)) (au++g)):WP (C0 [.lst (e.map jV),nI i,nI j] au) Q:=by
 refine fW rfl ?_;have t:((i:Int)+(j:Int)-1)=((i+j-1:Nat):Int):=by lia
 have w:((j:Int)-1)=((j-1:Nat):Int):=by lia
 simp only[W,V,Dd.N,t];refine⟨by decide,?_⟩;refine nS jV (λp=>(jz i j p).map jV) (λb=>∃q h m a:Option D,b=[some (.lst (e.map jV)),some (nI i),some (nI j),some (nI (i+j-1)),'"',q,h,m,a]) 1000 ⟨_,_,_,_,rfl⟩ (by rw[o9,←mi,av];lia) ?_ ?_
 ·rintro p s b o g ⟨q,h,m,a,rfl⟩ d;obtain⟨X,U,G,T⟩:=A p s;refine⟨_,rfl,λR f=>?_⟩;unfold Sw;simp only[W,V,Dd.N,w];refine WP.of (qI '!' _) ?_;simp only[W,V,Dd.N,xz,oP];have z:=rY (gt p.2.1 (j-1)) (p.2.2/2^j);have S:=w4 (p:=j-1) G;refine⟨by lia,eM '!' '!',?_⟩;rw[show((lo (gt p.2.1 (j-1)) (p.2.2/2^j):Nat)+1:Int).toNat=lo (gt p.2.1 (j-1)) (p.2.2/2^j)+1 by lia,BP];unfold jz at d f;rw[mi] at d f;refine nS nI (λx=>(jy (i+j-1) j p x).map jV) (λb=>∃a:Option D,b=[some (.lst (e.map jV)),some (nI i),some (nI j),some (nI (i+j-1)),'"',some (rz p.1),some (rz p.2.1),some (nI p.2.2),a]) 1000 ⟨_,rfl⟩ d ?_ ?_
  ·rintro x E b o g ⟨a,rfl⟩ l;obtain⟨y,C⟩:=QW E;refine⟨_,rfl,λR f=>?_⟩;exact Gu '!' '!' u r '!' '!' y C '!' l (f _ _ ⟨_,rfl⟩)
  ·rintro b g ⟨a,rfl⟩;exact f _ _ ⟨_,_,_,_,rfl⟩
 ·rintro b g ⟨q,h,m,a,rfl⟩;simp only[W,V,M];refine⟨_,_,rfl,eT _ _,?_⟩;rw[gO,←mi];exact k _
theorem JJ{n c i d w:Nat}{e:List (RN×RN)}{Q:D->aa->Prop}(E:1<=i)(ha:i+c<=n)(P:w=c)(U:n<=8)(y:c<=4)(Y:e.length<=100)(z:∀j,j<=c->(ng i d e j).length<=100/\∀p∈ng i d e j,D7 n c p)(H:(D3 i d c e).length<=100)
  (k:∀g,Q (.lst ((D3 i d c e).map lL)) (au++g)):WP (CW [.lst (e.map lL),nI i,nI d,nI w] au) Q:=by
 subst P;refine fW rfl ?_;have C:((i:Int)-1)=((i-1:Nat):Int):=by lia
 simp only[W,V,Dd.N];refine⟨by rw[av];exact small _ '!',?_⟩;refine ox (as:=e) (λf=>∃a b,f=[a,b,some (nI d)]) (λ_=>true) (λp=>jV (p.1,p.2,d)) lL ⟨_,_,rfl⟩ ?_ ?_
 ·rintro p A f ⟨a,b,rfl⟩;refine⟨_,rfl,⟨_,_,rfl⟩,by simp only[W,nW],λ_=>?_⟩;simp only[W,V];exact⟨by show 3<=sizeLine;decide,trivial,rfl⟩
 rw[rk];have S:e.map (λp=>jV (p.1,p.2,d))=(ng i d e 0).map jV:=by show _=(e.map _).map _;rw[fJ];rfl
 rw[S];refine⟨eM '!' '!',eM '!' '!',?_⟩;refine gl (λj f s=>(∃m:Option D,f=[some (.lst (e.map lL)),some (nI i),some (nI d),some (nI w),some (.lst ((ng i d e j).map jV)),m,none,none,none,none])/\∃g,s=au++g) ⟨⟨_,rfl⟩,[],by simp⟩ ?_ ?_
 ·rintro j x f s X ⟨⟨m,rfl⟩,g,rfl⟩;obtain⟨J,rfl⟩:=pZ X;refine⟨_,rfl,?_⟩;unfold So;simp only[W,V,L];rw[show((1:Int)+(j:Int))=((j+1:Nat):Int) by lia];have J:j<w:=by lia
  have o:=z j '!';have I:=z (j+1) '!';refine Mu (n:=n) (c:=w) E '!' '!' '!' '!' U y o.2 I.1 λT=>?_
  exact⟨⟨_,rfl⟩,g++T,by rw[dE]⟩
 ·rintro f s ⟨⟨m,rfl⟩,g,rfl⟩;rw[lp,show((w:Int)+1-1).toNat=w by lia];simp only[W,V,Dd.N];refine⟨by decide,?_⟩;refine nS jV (λp=>(nE i p).map lL) (λf=>∃t r q:Option D,f=[some (.lst (e.map lL)),some (nI i),some (nI d),some (nI w),some (.lst ((ng i d e w).map jV)),m,some (.ref (au++g).length),t,r,q]) 1000 ⟨_,_,_,rfl⟩ (by rw[o9,←mi,av];unfold D3 at H;lia) ?_ ?_
  ·rintro p A f u o ⟨t,r,q,rfl⟩ h;obtain⟨o1,o2,o3,o4⟩:=(z w (aY _)).2 p A;refine⟨_,rfl,λR l=>?_⟩;unfold Sq;simp only[W,V,Dd.N,C];refine WP.of (qI '!' _) ?_;simp only[W,V,Dd.N,Ed];unfold nE at l h;cases c:Nat.beq (Nat.land (gt p.1 (i-1)) p.2.2) 0 with
   |false=>
    rw[c] at l;rw[if_neg ')'];have:=l [some (.lst (e.map lL)),some (nI i),some (nI d),some (nI w),some (.lst ((ng i d e w).map jV)),m,some (.ref (au++g).length),some (rz p.1),some (rz p.2.1),some (nI p.2.2)] o ⟨_,_,_,rfl⟩
    simpa using this
   |true=>
    rw[c] at l h;rw[if_pos rfl];have G:u.length<=999:=by simpa using h
    simp only[W,V,M,C];refine⟨_,_,rfl,eT _ _,trivial,rO '!' '!' (v:=gt p.1 (i-1)+p.2.2) (by push_cast;rfl) ?_⟩;refine⟨by show 2<=sizeLine;decide,_,_,rfl,eT _ _,cx _ '!',?_⟩;rw[gO];exact l _ _ ⟨_,_,_,rfl⟩
  ·rintro f o ⟨t,r,q,rfl⟩;simp only[W,V,M];refine⟨_,_,rfl,eT _ _,?_⟩;rw[gO,←mi,dE];exact k _
end
theorem vO{m:Nat}(a:m<=1000):fP (.tup [.int 0]) (.int m) s=.ok (rz (List.replicate m 0)) s:=by
 unfold fP;dsimp only;rw[if_pos ⟨by simp,by lia,by lia,by simp;lia⟩];unfold dy
 congr 2
 rw[n0]
 induction m with
 |zero=>rfl
 |succ k ih=>rw[ml,sM,ih '!',ml];rfl
theorem EA:∀(a b:RN),bV (a.map nI) (b.map nI)=(a.zip b).map λq=>D.tup [nI q.1,nI q.2]
 |[],_=>by simp[bV]
 |_::_,[]=>by simp[bV]
 |x::a,y::b=>by
  rw[bP,bP,bV,EA a b,y8,bP]
theorem ID{e:List (RN×RN)}(G:n<=8)(w:c<=n)(A:e.length<=100)(y:∀p∈e,p.1.length=n/\p.2.length=c)
  (k:∀g,Q (.lst ((e.flatMap cu).map rz)) (au++g)):WP (CU [.lst (e.map lL)] au) Q:=by
 refine fW rfl ?_;simp only[W,V,Dd.N];refine⟨by decide,?_⟩;have u:(e.flatMap λp=>(cu p).map rz).length<=1000:=by
  have:∀i:List (RN×RN),(i.flatMap λp=>(cu p).map rz).length<=i.length:=λi=>by
   induction i with
   |nil=>simp
   |cons a i ih=>
    rw[Dq,dq,dm];have:((cu a).map rz).length<=1:=by
     unfold cu;cases((a.1.zip (cW a)).all λq=>Nat.beq (Nat.land q.1 q.2) 0)<;>simp
    lia
  have:=this e;lia
 refine nS lL (λp=>(cu p).map rz) (λd=>∃o l j:Option D,d=[some (.lst (e.map lL)),'"',o,l,j]) 1000 ⟨_,_,_,rfl⟩ (by rw[o9];exact u) ?_ ?_
 ·rintro p s d m g ⟨o,l,j,rfl⟩ f;obtain⟨E,C⟩:=y p s;refine⟨_,rfl,λR h=>?_⟩;unfold Sl;simp only[W,V,Dd.N];refine⟨by show 1<=sizeLine;decide,?_⟩;rw[show(((p.1.map nI).length:Nat):Int)-(((p.2.map nI).length:Nat):Int)=((p.1.length-p.2.length:Nat):Int) by rw[av,av];lia];refine WP.of (vO '!') ?_;simp only[W,V,Dd.N];rw[←fX,show p.2++List.replicate (p.1.length-p.2.length) 0=cW p from rfl];have z:(p.1.zip (cW p)).length<=8:=by rw[NU];lia
  refine⟨small _ (by simp;lia),?_⟩;simp only[W,V,M,Dd.N,EA];refine⟨by rw[av];exact small _ '!',?_⟩;refine ox (as:=p.1.zip (cW p)) (λd=>∃a b,d=[a,b]) (λ_=>true) (λq=>.bl (Nat.beq (Nat.land q.1 q.2) 0)) (λq=>D.tup [nI q.1,nI q.2]) ⟨_,_,rfl⟩ ?_ ?_
  ·rintro q v d ⟨a,b,rfl⟩;refine⟨_,rfl,⟨_,_,rfl⟩,by simp only[W,nW],λ_=>?_⟩;simp only[W,V,Dd.N,Ed]
   congr 1
   cases Nat.beq (Nat.land q.1 q.2) 0<;>rfl
  rw[rk];refine⟨_,(by exact RA _ _),?_⟩;have x:((p.1.zip (cW p)).map λq=>Nat.beq (Nat.land q.1 q.2) 0).all id=(p.1.zip (cW p)).all λq=>Nat.beq (Nat.land q.1 q.2) 0:=by
   rw[List.all_map];rfl
  simp only[hZ,x];unfold cu at h f;cases c:(p.1.zip (cW p)).all λq=>Nat.beq (Nat.land q.1 q.2) 0 with
  |false=>
   rw[c] at h;simp only[W,V];have:=h [some (.lst (e.map lL)),'"',some (rz p.1),some (rz p.2),some (rz (cW p))] g ⟨_,_,_,rfl⟩
   simpa using this
  |true=>
   rw[c] at h f;have r:m.length<=999:=by simpa using f
   simp only[W,V,M,Dd.N,EA];refine⟨_,_,rfl,eT _ _,by rw[av];exact small _ '!',?_⟩;refine ox (as:=p.1.zip (cW p)) (λd=>∃a b,d=[a,b]) (λ_=>true) (λq=>nI (q.1+q.2)) (λq=>D.tup [nI q.1,nI q.2]) ⟨_,_,rfl⟩ ?_ ?_
   ·rintro q v d ⟨a,b,rfl⟩;refine⟨_,rfl,⟨_,_,rfl⟩,by simp only[W,nW],λ_=>?_⟩;simp only[W,V,Dd.N]
    push_cast
    rfl
   rw[rk];refine⟨_,_,rfl,eT _ _,cx _ '!',?_⟩;rw[gO];have:=h [some (.lst (e.map lL)),'"',some (rz p.1),some (rz p.2),some (rz (cW p))] g ⟨_,_,_,rfl⟩;have t:List.map rz (bif true then[(p.1.zip (cW p)).map λq=>q.1+q.2] else[])=[D.tup ((p.1.zip (cW p)).map λq=>nI (q.1+q.2))]:=by
    show[rz _]=_;unfold rz;rw[fJ]
    rfl
   rw[t] at this;exact this
 ·rintro d g ⟨o,l,j,rfl⟩;simp only[W,V,M];refine⟨_,_,rfl,eT _ _,?_⟩;rw[gO,←mi];exact k _
theorem EV(l:RN):nz (l++[0])=nz l:=by
 unfold nz;rw[List.foldr_append]
 rfl
theorem Ew(h:x≠0):nz (l++[x])=l++[x]:=by
 have a:Nat.beq x 0=false:=by
  cases e:Nat.beq x 0 with
  |true=>exact absurd (gw e) h
  |false=>rfl
 induction l with
 |nil=>unfold nz;simp only[o9,Di,List.foldr_nil,a,cond_false]
 |cons y l ih=>
  unfold nz at ih ⊢;rw[kE,Di,ih];cases l<;>rfl
theorem RG(r:RN):r=[]\/∃l x,r=l++[x]:=by
 rcases List.eq_nil_or_concat r with h|⟨l,x,h⟩
 ·exact .inl h
 ·exact .inr ⟨l,x,by simpa using h⟩
theorem HI(a:s[n]?=some (.lst ((l++[x]).map nI))):nF (aA 1) [v,some (.ref n)] s=.ok (nI x) (s.set n (.lst (l.map nI))):=by
 have b:((l++[x]).map nI)=l.map nI++[nI x]:=by simp
 show(match s[n]? with
  |some (.lst xs)=>match xs[xs.length-1]? with
   |some y=>bu.ok y (s.set n (.lst xs.dropLast))
   |none=>.stuck
  |_=>.stuck)=_
 rw[a,b];simp
theorem Ge{r:RN}(n:r.length<=1000)(k:∀g,Q (rz (nz r)) (au++g)):WP (C4 [rz r] au) Q:=by
 refine fW rfl ?_;refine nT (R:=λb s=>b=.nx [some (rz r),'"']/\s=au++[.lst (r.map nI)]) ?_ ?_
 ·simp only[W,V];exact WP.of (show jb [rz r] au=.ok (.ref au.length) (au++[.lst (r.map nI)]) from rfl) ⟨rfl,rfl⟩
 rintro b s ⟨rfl,rfl⟩;show WP _ _;refine nT (R:=λb s=>b=.nx [some (rz r),'"']/\s=au++[.lst ((nz r).map nI)]) ?_ ?_
 ·refine vH (λm f s=>∃a:RN,m=a.length/\f=[some (rz r),'"']/\s=au++[.lst (a.map nI)]/\nz a=nz r) (k:=r.length) ⟨r,rfl,rfl,rfl,rfl⟩ '!' ?_;rintro j f s ⟨a,rfl,rfl,rfl,e⟩;have d:(au++[O.lst (a.map nI)])[au.length]?=some (.lst (a.map nI)):=by simp
  rcases RG a with rfl|⟨l,x,rfl⟩
  ·simp only[W,V];refine⟨false,?_,?_⟩
   ·show(eI (au++[O.lst []]) (.ref au.length)).map (λa=>!a.isEmpty)=some false;rw[nQ (xs:=[]) '%']
    rfl
   ·simp only[W,V];rw[←e];exact⟨trivial,rfl⟩
  ·have h:((l++[x]).map nI)=l.map nI++[nI x]:=by simp
   simp only[W,V];refine⟨true,?_,?_⟩
   ·show(eI (au++[O.lst ((l++[x]).map nI)]) (.ref au.length)).map (λa=>!a.isEmpty)=some true;rw[nQ d,h];simp
   ·simp only[W,V];refine WP.of (lc (oC d) (by rw[h];exact EO _ _)) ?_;simp only[W,V];by_cases c:(x:Int)=0
    ·rw[if_pos c];have i:x=0:=by lia
     subst i;unfold xH;simp only[W];refine WP.of (HI d) ?_;simp only[L];exact⟨l.length,by simp,l,rfl,trivial,by rw[gO],by rw[←e,EV]⟩
    ·rw[if_neg c];rw[←e,Ew '!'];exact⟨trivial,rfl⟩
 rintro b s ⟨rfl,rfl⟩;show WP _ _;simp only[W,V];refine WP.of (Fp (xs:=(nz r).map nI) '%') ?_;exact k _
end Tab
end Dd
namespace Dd
open L2 K07 K23
def db(r:List Int):List Nat:=(List.range (r.length-1)).filter λp=>decide (bh r p)
noncomputable abbrev AG(l:List Nat):List D:=l.map λ(p:Nat)=>D.int (p:Int)
theorem Fu:p∈db r↔bh r p:=by
 unfold db;rw[gA,bO,qh];refine⟨λh=>h.2,λh=>⟨?_,h⟩⟩;obtain⟨a,b,_,e,_⟩:=h;have:=(cK.mp e).1;lia
theorem Ss(q:∀r∈l,r.length<=1000):rJ [aK l,aK l] au=.ok (.bl true) au:=by
 have W:=qU (bd:=gN 2) (body:=FH) (xs:=aJ l) (σ:=[some (aK l),some (aK l),none]) (au:=au) (λi d s=>s=au/\∃v,d=[some (aK l),some (aK l),v]) ⟨rfl,none,rfl⟩ (by
   rintro i y d s b ⟨rfl,v,rfl⟩;obtain⟨r,o,rfl⟩:=jg b;have j:=q r (dF o);have V:=qY (bd:=gN 0) (c:=aI) (f:=qM (io (aE bp (aB (aA 0) (aB (eC (.ty "int")) aC)))) (aE bp (aB (aA 0) (aB (eC (.ty "bool")) aC)))) (xs:=r.map D.int) (σ:=[none]) (au:=s)
    (λi g d h=>h=s/\(∃v,d=[v])/\g=(r.take i).map λ_=>D.bl false) ⟨rfl,⟨none,rfl⟩,rfl⟩ (by
     rintro i y g d h b ⟨rfl,⟨v,rfl⟩,rfl⟩;rw[eU] at b;cases hx:r[i]? with
     |none=>rw[hx] at b;cases b
     |some x=>
      rw[hx] at b;cases b;refine⟨[some (.int x)],true,h,rfl,rfl,.inr ⟨rfl,.bl false,h,rfl,rfl,⟨_,rfl⟩,?_⟩⟩;rw[zg hx]
      simp)
   obtain⟨u,m,st',e,rfl,_,rfl⟩:=V;rw[vT,fi] at e;have p:aG (aH (aA 2)) 1 [] (gN 0) aI (qM (io (aE bp (aB (aA 0) (aB (eC (.ty "int")) aC)))) (aE bp (aB (aA 0) (aB (eC (.ty "bool")) aC)))) [some (aK l),some (aK l),some (aL r)] st'=.ok (.lst (r.map λ_=>D.bl false)) st':=by
    rw[pV];show(if(r.map D.int).length<=sizeLine then _ else _)=_;rw[if_pos (by rw[vT];exact small _ '!')];show((bx _ _ _ _ [none] _).bind _)=_;rw[e]
    rfl
   have t:eP false [.lst (r.map λ_=>D.bl false)] st'=.ok (.bl false) st':=by
    have:bJ (r.map λ_=>D.bl false)=some (r.map λ_=>false):=by
     clear e p j o b
     induction r with
     |nil=>rfl
     |cons a r ih=>rw[bP,bJ,ih];rfl
    unfold eP;simp[this]
   refine⟨[some (aK l),some (aK l),some (aL r)],[some (aK l),some (aK l),some (aL r)],st',rfl,?_,rfl,_,rfl⟩;unfold FH;have n:dW (cD (aE bp (aB (aA 2) (aB (eC (.ty "tuple")) aC)))) [some (aK l),some (aK l),some (aL r)] st'=.ok false st':=rfl
   have k:cD (aE (eP false) (aB (aG (aH (aA 2)) 1 [] (gN 0) aI (qM (io (aE bp (aB (aA 0) (aB (eC (.ty "int")) aC)))) (aE bp (aB (aA 0) (aB (eC (.ty "bool")) aC))))) aC)) [some (aK l),some (aK l),some (aL r)] st'=.ok false st':=by
    rw[ue,lh,oy,p];show((eP false [.lst (r.map λ_=>D.bl false)] st').bind _)=_;rw[t]
    rfl
   rw[j7,rD,n,zt,if_neg ')',k]
   rfl)
 obtain⟨m,st',e,rfl,v,rfl⟩:=W;refine je rfl ?_;refine ft (σ1:=[some (aK l),some (aK l),none]) (st1:=st') ?_ ?_
 ·have n:dW (cD (aE bp (aB (aA 0) (aB (eC (.ty "tuple")) aC)))) [some (aK l),some (aK l),none] st'=.ok false st':=rfl
  have k:eB (aU lN (aA 0) (aA 1)) [some (aK l),some (aK l),none] st'=.ok false st':=by
   rw[BC,we];show((lN (aK l) (aK l) st').bind _)=_;rw[show lN (aK l) (aK l) st'=_ from B4 l l];simp
  show fc _ _ _ [some (aK l),some (aK l),none] st'=_;rw[j7,rD,n,zt,if_neg ')',k]
  rfl
 refine ft (σ1:=[some (aK l),some (aK l),v]) (st1:=st') ?_ rfl;rw[BQ];exact e
end Dd
namespace Dd
open L2
namespace Tab
def aM(l:RN):cf:=l.map λ(n:Nat)=>(n:Int)
def kH(r:cf):RN:=r.map Int.toNat
theorem iA(l:RN):kH (aM l)=l:=by
 unfold kH aM;rw[fJ]
 induction l with
 |nil=>rfl
 |cons a l ih=>rw[bP,ih];simp
theorem q7(l:RN):rz l=aL (aM l):=by
 unfold rz aL aM;rw[fJ]
 rfl
theorem Qq(l:List RN):l.map rz=aJ (l.map aM):=by
 unfold aJ;rw[fJ];exact mo λx _=>q7 x
theorem EK:∀(l:RN) (w:Nat),mV (w:Int) (aM l)=(du w l:Nat)
 |[],_=>rfl
 |x::l,w=>by
  have:=EK l (2*w+1);unfold aM at this ⊢;rw[bP,mV,du,show(2*(w:Int)+1)=((2*w+1:Nat):Int) by push_cast;rfl,this]
  push_cast
  rfl
theorem zn(h:(a&&b)=true):a=true/\b=true:=by simpa using h
structure GM (n c:Nat) (ps:List (RN×RN)):Prop where
 len:ps.length<=100
 l1:∀p∈ps,p.1.length=n/\p.2.length=c
theorem wh(h:gM n c ps=true):GM n c ps:=by
 obtain⟨g,f⟩:=zn h;refine⟨ij g,λp e=>?_⟩;have:=dk.mp f p e;obtain⟨b,i⟩:=zn this;obtain⟨d,a⟩:=zn b;exact⟨gw d,gw a⟩
theorem F9(h:gT n c a=true):a.length<=100/\∀p∈a,D7 n c p:=by
 obtain⟨m,l⟩:=zn h;refine⟨ij m,λp i=>?_⟩;have:=dk.mp l p i;obtain⟨e,j⟩:=zn this;obtain⟨g,d⟩:=zn e;obtain⟨b,f⟩:=zn g;exact⟨gw b,gw f,λx k=>ij (dk.mp d x k),ij j⟩
theorem yB(b:List (RN×RN)):(b.flatMap cu).length<=b.length:=by
 induction b with
 |nil=>simp
 |cons a qs ih=>
  rw[Dq,dq,dm];have:(cu a).length<=1:=by
   unfold cu;cases((a.1.zip (cW a)).all λq=>Nat.beq (Nat.land q.1 q.2) 0)<;>simp
  lia
theorem QY(a:tO r s=true):(aN r s).length<=100:=by
 obtain⟨b,d⟩:=zn a;have c:=wh (dk.mp b r.length (bO.mpr '!'));unfold aN;rw[av];have:=yB (mx r s r.length);have:=c.len;lia
theorem Er{r s:RN}(hr:r.length<=4)(X:s.length<=4)(U:tO r s=true)(k:∀g,Q (.lst ((aN r s).map rz)) (au++g)):WP (C2 [rz r,rz s] au) Q:=by
 obtain⟨c1,P⟩:=zn U;have z:∀k,k<=r.length->GM (r.length+s.length) s.length (mx r s k):=λk G=>wh (dk.mp c1 k (bO.mpr '!'))
 have Y:∀k,k<r.length->∀j,j<=s.length->(ng (k+1) (gt r k) (mx r s k) j).length<=100/\∀p∈ng (k+1) (gt r k) (mx r s k) j,D7 (r.length+s.length) s.length p:=λk G j hj=>F9 (dk.mp (dk.mp P k (bO.mpr G)) j (bO.mpr '!'))
 refine fW rfl ?_;simp only[W,V,Dd.N];refine⟨by show 1<=sizeLine;decide,?_⟩;rw[show((((r.map nI).length:Nat):Int)+(((s.map nI).length:Nat):Int))=((r.length+s.length:Nat):Int) by rw[av,av];push_cast;rfl];refine WP.of (vO '!') ?_;refine⟨by show 2<=sizeLine;decide,by show 1<=sizeLine;decide,?_⟩;refine WP.of (show hH (aA 0) [some (rz r),some (rz s),some (.lst [D.tup [rz (List.replicate (r.length+s.length) 0),rz s]]),none,none] au=.ok (ge 1 (r.map nI)) au from rfl) ?_;refine gl (λi d t=>(∃w u:Option D,d=[some (rz r),some (rz s),some (.lst ((mx r s i).map lL)),w,u])/\∃g,t=au++g) ⟨⟨_,_,rfl⟩,[],by simp⟩ ?_ ?_
 ·rintro i x d t o ⟨⟨w,u,rfl⟩,g,rfl⟩;obtain⟨y,E,rfl⟩:=Cq o;rw[eU] at E;obtain⟨n,A,rfl⟩:=gQ.mp E;have H:i<r.length:=by
   rcases j8 i r.length with h|h
   ·exact h
   ·rw[qw h] at A;cases A
  have R:n=gt r i:=by unfold gt;rw[dM,A];rfl
  subst R;refine⟨_,rfl,?_⟩;unfold SB;simp only[W,V,L];rw[show(1:Int)+(i:Int)=((i+1:Nat):Int) by lia,show(((s.map nI).length:Nat):Int)=((s.length:Nat):Int) by rw[av]];refine JJ (n:=r.length+s.length) (c:=s.length) '!' '!' rfl '!' X (z i '!').len (Y i H) (z (i+1) '!').len λT=>?_
  exact⟨⟨_,_,rfl⟩,g++T,by rw[dE]⟩
 ·rintro d t ⟨⟨w,u,rfl⟩,g,rfl⟩;rw[vY,av];simp only[W,V];have m:=z r.length (aY _);refine ID (n:=r.length+s.length) (c:=s.length) '!' '!' m.len m.l1 λS=>?_
  simp only[W,V,Dd.N];have h3:=yB (mx r s r.length);have h4:=m.len;refine⟨by rw[av];exact small _ '!',?_⟩;have e:∀l∈(mx r s r.length).flatMap cu,l.length<=8:=λl b=>by
   obtain⟨p,I,b⟩:=mN.mp b;have:=m.l1 p I;unfold cu at b;cases c:((p.1.zip (cW p)).all λq=>Nat.beq (Nat.land q.1 q.2) 0) with
   |false=>rw[c] at b;simp at b
   |true=>
    rw[c] at b;rw[eY.mp b,av,NU];lia
  refine uo (λj f d t=>(∃v,d=[v])/\f=((((mx r s r.length).flatMap cu).take j).map nz).map rz/\∃g,t=au++g) ⟨⟨_,rfl⟩,rfl,g++S,by rw[dE]⟩ ?_ ?_
  ·rintro j x f d t o ⟨⟨v,rfl⟩,rfl,C,rfl⟩;rw[eU] at o;obtain⟨l,b,rfl⟩:=gQ.mp o;refine⟨_,rfl,?_⟩;simp only[W,V];refine Ge (by have:=e l (dF b);lia) λJ=>?_
   exact⟨⟨_,rfl⟩,by rw[zg b,fX,fX];rfl,C++J,by rw[dE]⟩
  ·rintro ys d t ⟨⟨v,rfl⟩,rfl,C,rfl⟩;rw[av,fi];exact k _
def mk(r s:cf):List cf:=(aN (kH r) (kH s)).map aM
structure Pr (r s:cf) (rn sn:RN):Prop where
 er:r=aM rn
 es:s=aM sn
 lr:rn.length<=4
 ls:sn.length<=4
 wt:du 1 rn+du 1 sn<=16
 ck:PB rn sn=true
theorem ra{b d:Type}{f:b->List d}{c:Nat}:∀{l:List b},(∀x∈l,(f x).length<=c)->(l.flatMap f).length<=c*l.length
 |[],_=>by simp
 |a::l,h=>by
  have i:=h a '%';have g:=ra (l:=l) λx e=>h x (cH _ e)
  rw[Dq,dq,dm,Nat.mul_succ];lia
theorem Q3(A:List cf)(x:cf):aP (A++[x])=aR (aP A) x:=by
 unfold aP;rw[qi]
 rfl
theorem MV{one other:List cf}(h1:one.length<=40)(h2:other.length<=40)(E:∀r∈one,∀s∈other,∃rn sn,Pr r s rn sn)(k:∀g,Q (aK (aQ (one.flatMap λr=>other.flatMap (mk r)))) (au++g)):WP (BV [aK one,aK other] au) Q:=by
 have A:∀r∈one,∀s∈other,(mk r s).length<=100:=λr e s v=>by
  obtain⟨rn,sn,p⟩:=E r e s v;unfold mk;rw[av,p.er,p.es,iA,iA];exact QY (zn (zn p.ck).1).1
 have G:∀r∈one,∀j,((other.take j).flatMap (mk r)).length<=4000:=λr e j=>by
  have:=ra (l:=other.take j) (f:=mk r) (c:=100) λs v=>A r e s (mR v)
  have X:(other.take j).length<=other.length:=by rw[gC];exact mj _ _
  lia
 have H:∀i,((one.take i).flatMap λr=>other.flatMap (mk r)).length<=160000:=λi=>by
  have:=ra (l:=one.take i) (f:=λr=>other.flatMap (mk r)) (c:=4000) λr e=>by
   have:=G r (mR e) other.length
   rwa [fi] at this
  have X:(one.take i).length<=one.length:=by rw[gC];exact mj _ _
  lia
 refine fW rfl ?_;simp only[W,V,Dd.N];refine gl (λi a s=>(∃q h d:Option D,a=[some (aK one),some (aK other),'"',q,h,d])/\∃g,s=au++(.dT (aS (aP ((one.take i).flatMap λr=>other.flatMap (mk r))))::g)) ⟨⟨_,_,_,rfl⟩,[],rfl⟩ ?_ ?_
 ·rintro i y a s n ⟨⟨q,h,d,rfl⟩,g,rfl⟩;obtain⟨r,o,rfl⟩:=jg n;have e:=dF o;refine⟨_,rfl,?_⟩;unfold Rk;simp only[W,V,Dd.N];refine gl (λj a s=>(∃h d:Option D,a=[some (aK one),some (aK other),'"',some (aL r),h,d])/\∃g,s=au++(.dT (aS (aP (((one.take i).flatMap λr=>other.flatMap (mk r))++(other.take j).flatMap (mk r))))::g)) ⟨⟨_,_,rfl⟩,g,by simp⟩ ?_ ?_
  ·rintro j y a s n ⟨⟨h,d,rfl⟩,g,rfl⟩;obtain⟨t,m,rfl⟩:=jg n;have w:=dF m;obtain⟨rn,sn,p⟩:=E r e t w;have er:mV 1 r=(du 1 rn:Nat):=by rw[p.er];exact EK rn 1
   have Y:mV 1 t=(du 1 sn:Nat):=by rw[p.es];exact EK sn 1
   have hw:=p.wt;have J:=p.lr;have I:=p.ls;have u:mk r t=(aN rn sn).map aM:=by unfold mk;rw[p.er,p.es,iA,iA]
   refine⟨_,rfl,?_⟩;unfold Rj;simp only[W,V];refine Q7 (by rw[p.er];unfold aM;rw[av];exact J) ?_;refine Q7 (by rw[p.es];unfold aM;rw[av];exact I) ?_;simp only[W,V,Dd.N];rw[if_neg '!'];have x:aL r=rz rn:=by rw[p.er,q7]
   have P:aL t=rz sn:=by rw[p.es,q7]
   rw[x,P];refine Er J I (zn (zn p.ck).1).1 λS=>?_
   simp only[W,V,Dd.N];rw[Qq,←u,dE,kE];generalize g++S=g3;have C:=H i;have U:=G r e j;have b3:=A r e t w;refine gl (λz a s=>(∃d:Option D,a=[some (aK one),some (aK other),'"',some (rz rn),some (rz sn),d])/\s=au++(.dT (aS (aP (((one.take i).flatMap λr=>other.flatMap (mk r))++(other.take j).flatMap (mk r)++(mk r t).take z)))::g3)) ⟨⟨_,rfl⟩,by simp⟩ ?_ ?_
   ·rintro z y a s n ⟨⟨d,rfl⟩,rfl⟩;obtain⟨b,T,rfl⟩:=jg n;refine⟨_,rfl,?_⟩;unfold Ri;simp only[W,V,L];have R:=ry (((one.take i).flatMap λr=>other.flatMap (mk r))++(other.take j).flatMap (mk r)++(mk r t).take z);have b5:((mk r t).take z).length<=(mk r t).length:=by rw[gC];exact mj _ _
    rw[dq,dq] at R;refine Ej (eT _ _) '!' ⟨⟨_,rfl⟩,?_⟩;rw[gO,zg T,←dE,Q3]
   ·rintro a s ⟨⟨d,rfl⟩,rfl⟩;simp only[L];rw[←x,←P];refine⟨⟨_,_,rfl⟩,g3,?_⟩;rw[ze,fi,zg m,qr,DJ,dE]
  ·rintro a s ⟨⟨h,d,rfl⟩,g,rfl⟩;simp only[L];refine⟨⟨_,_,_,rfl⟩,g,?_⟩;rw[ze,fi,zg o,qr,DJ]
 ·rintro a s ⟨⟨q,h,d,rfl⟩,g,rfl⟩;rw[ze,fi];have C:=H one.length;rw[fi] at C;simp only[W,V];have U:=ry (one.flatMap λr=>other.flatMap (mk r));refine Rb (eT _ _) '!' ?_;simp only[W,V];exact k _
def nc(w:Nat×RN):D:=.tup [nI w.1,rz w.2]
def mY(w:List RN×RN):D:=.tup [.tup (w.1.map rz),rz w.2]
def gU(t:List RN):D:=.tup (t.map rz)
structure D6 (left:RN) (j:Nat) (w:Nat×RN):Prop where
 sm:w.1<=16
 len:w.2.length=j
 le:∀q∈w.2.zip left,q.1<=q.2
theorem F8(h:gL left j a=true):a.length<=100/\∀w∈a,D6 left j w:=by
 obtain⟨k,i⟩:=zn h;refine⟨ij k,λp e=>?_⟩;have:=dk.mp i p e;obtain⟨c,f⟩:=zn this;obtain⟨d,b⟩:=zn c;exact⟨ij d,gw b,λq g=>ij (dk.mp f q g)⟩
structure SR (k:Nat) (w:List RN×RN):Prop where
 l1:w.1.length=k
 l2:w.2.length=4
 sm:∀x∈w.2,x<=16
 rows:∀l∈w.1,l.length=5
theorem wg(h:gB k a=true):a.length<=100/\∀w∈a,SR k w:=by
 obtain⟨o,n⟩:=zn h;refine⟨ij o,λp g=>?_⟩;have:=dk.mp n p g;obtain⟨d,i⟩:=zn this;obtain⟨f,c⟩:=zn d;obtain⟨b,e⟩:=zn f;exact⟨gw b,gw e,λx j=>ij (dk.mp c x j),λl m=>gw (dk.mp i l m)⟩
theorem LU{left:RN}(h4:left.length=4)(A:∀x∈left,x<=16)(y:∀j,j<=4->(ki c left j).length<=100/\∀w∈ki c left j,D6 left j w)
  (k:∀g,Q (.lst ((fz c left).map rz)) (au++g)):WP (CM [nI c,rz left] au) Q:=by
 refine fW rfl ?_;simp only[W,V,Dd.N];refine⟨by show 0<=sizeLine;decide,by show 2<=sizeLine;decide,by show 1<=sizeLine;decide,eM '!' '!',eM '!' '!',?_⟩;refine gl (λj d s=>(∃u q i h f:Option D,d=[some (nI c),some (rz left),some (.lst ((ki c left j).map nc)),u,q,i,h,f])/\∃g,s=au++g) ⟨⟨_,_,_,_,_,rfl⟩,[],by simp⟩ ?_ ?_
 ·rintro j x d s C ⟨⟨u,q,i,h,f,rfl⟩,g,rfl⟩;obtain⟨E,rfl⟩:=pZ C;have E:j<4:=E;have S:=y j '!';have H:=y (j+1) '!';have T:((1:Int)+(j:Int))=((j+1:Nat):Int):=by lia
  have t:(((j+1:Nat):Int)-1)=((j:Nat):Int):=by lia
  refine⟨_,rfl,?_⟩;rw[T];unfold Sa;simp only[W,V,Dd.N];refine⟨by decide,?_⟩
  refine nS nc (λw=>(ht left (j+1) w).map nc) (λd=>∃i h f:Option D,d=[some (nI c),some (rz left),some (.lst ((ki c left j).map nc)),some (nI (j+1)),some (.ref (au++g).length),i,h,f]) 1000 ⟨_,_,_,rfl⟩ (by
   rw[o9,←mi,av];have:((ki c left j).flatMap (ht left (j+1))).length<=100:=H.1
   lia) ?_ ?_
  ·rintro w v d l I ⟨i,h,f,rfl⟩ m;have z:=S.2 w v;refine⟨_,rfl,λR n=>?_⟩;unfold R9;simp only[W,V,Dd.N,t];refine WP.of (qI '!' _) ?_;simp only[W,V,Dd.N,xz,oP];have U:=rY (gt left j) (w.1/2^(j+1));have J:=w4 (p:=j) A;refine⟨by lia,eM '!' '!',?_⟩;rw[show((lo (gt left j) (w.1/2^(j+1)):Nat)+1:Int).toNat=lo (gt left j) (w.1/2^(j+1))+1 by lia,BP];have P:(ht left (j+1) w).map nc=(List.range (lo (gt left j) (w.1/2^(j+1))+1)).flatMap λx=>[nc (w.1-x*2^(j+1),w.2++[x])]:=by
    unfold ht;rw[fJ,←List.map_eq_flatMap]
    rfl
   rw[P] at m n;refine nS nI (λx=>[nc (w.1-x*2^(j+1),w.2++[x])]) (λd=>∃f:Option D,d=[some (nI c),some (rz left),some (.lst ((ki c left j).map nc)),some (nI (j+1)),some (.ref (au++g).length),some (nI w.1),some (rz w.2),f]) 1000 ⟨_,rfl⟩ m ?_ ?_
   ·rintro x C d l o ⟨f,rfl⟩ r;obtain⟨x1,Y⟩:=QW C;have G:l.length<=999:=by simpa using r
    refine⟨_,rfl,λR n=>?_⟩;unfold R8;simp only[W,V,M];refine⟨_,_,rfl,eT _ _,⟨by lia,by lia,by rw[Int.natAbs_natCast];exact jv (show x<=16 by lia) ')'⟩,trivial,by show 1<=sizeLine;decide,small _ (by rw[av,z.len];show j+1<=_;lia),by show 2<=sizeLine;decide,_,_,rfl,eT _ _,cx _ '!',?_⟩;rw[gO];have X:(w.1:Int)-(x:Int)*2^((j+1:Nat):Int).toNat=((w.1-x*2^(j+1):Nat):Int):=by
     rw[n0,Int.ofNat_sub Y]
     push_cast
     rfl
    rw[X];have:=n [some (nI c),some (rz left),some (.lst ((ki c left j).map nc)),some (nI (j+1)),some (.ref (au++g).length),some (nI w.1),some (rz w.2),some (nI x)] o ⟨_,rfl⟩;unfold nc at this;rw[show rz (w.2++[x])=D.tup (w.2.map nI++[nI x]) by unfold rz;rw[fX];rfl] at this;exact this
   ·rintro d o ⟨f,rfl⟩;exact n _ _ ⟨_,_,_,rfl⟩
  ·rintro d I ⟨i,h,f,rfl⟩;simp only[W,V,M,L];refine⟨_,_,rfl,eT _ _,?_⟩;rw[gO,←mi,dE];exact⟨⟨_,_,_,_,_,rfl⟩,_,rfl⟩
 ·rintro d s ⟨⟨u,q,i,h,f,rfl⟩,g,rfl⟩;have o:=y 4 '!';rw[show(rng 1 ((5:Int)-1).toNat).length=4 from rfl];simp only[W,V,Dd.N];refine⟨by rw[av];exact small _ '!',?_⟩;refine ox (as:=ki c left 4) (λd=>∃a b,d=[a,b]) (λ_=>true) (λw=>rz (w.1::w.2)) nc ⟨_,_,rfl⟩ ?_ ?_
  ·rintro w v d ⟨a,b,rfl⟩;have z:=(o.2 w v).len;refine⟨_,rfl,⟨_,_,rfl⟩,by simp only[W,nW],λ_=>?_⟩;simp only[W,V,Dd.N];exact⟨by show 1<=sizeLine;decide,small _ (by rw[av,z];show 1+4<=_;lia),rfl⟩
  rw[rk];have e:(ki c left 4).map (λw=>rz (w.1::w.2))=(fz c left).map rz:=by unfold fz;rw[fJ];rfl
  rw[e];exact k g
theorem LS(l:∀w∈ki a left 4,D6 left 4 w)(h:line∈fz a left)(m:left.length=4):line.length=5/\∀j,j<4->gt line (j+1)<=gt left j:=by
 unfold fz at h;obtain⟨w,e,rfl⟩:=cU.mp h;have b:=l w e;refine⟨by rw[dm,b.len],λj d=>?_⟩;have k:j<w.2.length:=by rw[b.len];exact d
 have i:j<left.length:=by lia
 have g:gt (w.1::w.2) (j+1)=w.2[j]:=by unfold gt;rw[dM,u4,cV k];rfl
 have c:gt left j=left[j]:=by unfold gt;rw[dM,cV i];rfl
 rw[g,c];have f:j<(w.2.zip left).length:=by rw[NU];lia
 have:=b.le _ (lE f);rw[List.getElem_zip] at this;exact this
theorem yD:WP (aF i f σ au) Q=WP (f σ au) (λv a=>Q (.nx (σ.set i (some v))) a):=zk
theorem J8{left b:RN}(h:left.length=4)(g:b.length=5)(c:∀j,j<4->gt b (j+1)<=gt left j)(q:Q (rz (over left b)) au):
  WP (aE bi (aB (aG (hG (aB (eC (.int 4)) aC)) 1 [6,7] (gN 0) aI (aU bH (aU cB (aA 1) (aA 0)) (aU cB (aA 2) (aU aO (aA 0) '+')))) aC) [S0,S1,S2,S3,S4,S5,some (rz left),some (rz b),S8] au) Q:=by
 simp only[W,V,Dd.N];refine⟨eM '!' '!',by rw[lp];decide,?_⟩;rw[show((4:Int).toNat)=4 from rfl,BP];refine ox (as:=List.range 4) (λf=>∃a,f=[a,some (rz left),some (rz b)]) (λ_=>true) (λj=>nI (gt left j-gt b (j+1))) nI ⟨_,rfl⟩ ?_ ?_
 ·rintro j d f ⟨a,rfl⟩;have d:j<4:=bO.mp d;have:=c j d;refine⟨_,rfl,⟨_,rfl⟩,by simp only[W,nW],λ_=>?_⟩;simp only[W,V,Dd.N];refine WP.of (qI '!' _) ?_;rw[show((j:Int)+1)=((j+1:Nat):Int) by push_cast;rfl];refine WP.of (qI '!' _) ?_;simp only[W,V,Dd.N];show D.int _=D.int _
  congr 1
  lia
 rw[rk];have e:(List.range 4).map (λj=>nI (gt left j-gt b (j+1)))=(over left b).map nI:=by unfold over;rw[fJ];rfl
 rw[e];exact q
theorem yu{r:RN}(h:r.length<=4):(dS r).length=4:=by unfold dS;simp;lia
theorem Tq{r s:RN}(P:r.length<=4)(hs:s.length<=4)(ck:tP (dS r) (dS s)=true)(k:∀g,Q (.lst ((dJ r s).map gU)) (au++g)):WP (CQ [rz r,rz s] au) Q:=by
 obtain⟨c1,c2⟩:=zn ck;have H:∀k,k<=4->(kJ (dS r) (dS s) k).length<=100/\∀w∈kJ (dS r) (dS s) k,SR k w:=λk hk=>wg (dk.mp c1 k (bO.mpr '!'))
 have hL:∀k,k<4->∀w∈kJ (dS r) (dS s) k,∀j,j<=4->(ki (gt (dS r) k) w.2 j).length<=100/\∀u∈ki (gt (dS r) k) w.2 j,D6 w.2 j u:=λk hk w v j hj=>F8 (dk.mp (dk.mp (dk.mp c2 k (bO.mpr hk)) w v) j (bO.mpr '!'))
 refine fW rfl ?_;simp only[W,V,Dd.N];have X:∀l:RN,l.length<=4->(4:Int)-(((l.map nI).length:Nat):Int)=((4-l.length:Nat):Int):=λl S=>by rw[av];lia
 have Y:∀l:RN,(l.map nI)++(List.replicate (4-l.length) 0).map nI=(dS l).map nI:=λl=>by unfold dS;rw[fX]
 refine⟨by show 0<=sizeLine;decide,by show 1<=sizeLine;decide,?_⟩;rw[X s hs];refine WP.of (vO '!') ?_;simp only[W,V,Dd.N,Y];refine⟨small _ (by simp;lia),by show 2<=sizeLine;decide,by show 1<=sizeLine;decide,by show 1<=sizeLine;decide,?_⟩;rw[X r P];refine WP.of (vO '!') ?_;simp only[W,V,Dd.N,Y];refine⟨small _ (by simp;lia),?_⟩;refine gl (λi d t=>(∃J G q o m f:Option D,d=[some (rz r),some (rz s),some (.lst ((kJ (dS r) (dS s) i).map mY)),J,G,q,o,m,f])/\∃g,t=au++g) ⟨⟨_,_,_,_,_,_,rfl⟩,[],by simp⟩ ?_ ?_
 ·rintro i x d t hx ⟨⟨J,G,q,o,m,f,rfl⟩,g,rfl⟩;rw[eU] at hx;obtain⟨C,T,rfl⟩:=gQ.mp hx;have hi:i<4:=by
   rcases j8 i 4 with h|h
   ·exact h
   ·rw[qw (by rw[yu P];exact h)] at T;cases T
  have en:C=gt (dS r) i:=by unfold gt;rw[dM,T];rfl
  subst en;have b1:=H i '!';have b2:=H (i+1) '!';refine⟨_,rfl,?_⟩;unfold Si;simp only[W,V,Dd.N];refine⟨by decide,?_⟩
  refine nS mY (λw=>(gR (gt (dS r) i) w).map mY) (λd=>∃q o m f:Option D,d=[some (rz r),some (rz s),some (.lst ((kJ (dS r) (dS s) i).map mY)),some (nI (gt (dS r) i)),some (.ref (au++g).length),q,o,m,f]) 1000 ⟨_,_,_,_,rfl⟩ (by
   rw[o9,←mi,av];have:((kJ (dS r) (dS s) i).flatMap (gR (gt (dS r) i))).length<=100:=b2.1
   lia) ?_ ?_
  ·rintro w v d y g3 ⟨q,o,m,f,rfl⟩ z;have n:=b1.2 w v;have S:=hL i hi w v;refine⟨_,rfl,λR A=>?_⟩;unfold Sh;simp only[W,V,Dd.N];refine LU n.l2 n.sm S λg4=>?_
   simp only[W,V,Dd.N];rw[dE,kE];have e9:(gR (gt (dS r) i) w).map mY=(fz (gt (dS r) i) w.2).flatMap λc=>[mY (w.1++[c],over w.2 c)]:=by
    unfold gR;rw[fJ,←List.map_eq_flatMap]
    rfl
   rw[e9] at z A;refine nS rz (λc=>[mY (w.1++[c],over w.2 c)]) (λd=>∃m f:Option D,d=[some (rz r),some (rz s),some (.lst ((kJ (dS r) (dS s) i).map mY)),some (nI (gt (dS r) i)),some (.ref (au++g).length),some (.tup (w.1.map rz)),some (rz w.2),m,f]) 1000 ⟨_,_,rfl⟩ z ?_ ?_
   ·rintro c p d y g5 ⟨m,f,rfl⟩ I;obtain⟨l5,E⟩:=LS (S 4 '!').2 p n.l2;have a0:y.length<=999:=by simpa using I
    refine⟨_,rfl,λR A=>?_⟩;unfold Sg;simp only[vn];rw[yD];refine J8 n.l2 l5 E ?_;simp only[W,V,M];refine⟨_,_,rfl,eT _ _,by show 1<=sizeLine;decide,small _ (by rw[av,n.l1];show i+1<=_;lia),by show 2<=sizeLine;decide,_,_,rfl,eT _ _,cx _ '!',?_⟩;rw[gO];have:=A [some (rz r),some (rz s),some (.lst ((kJ (dS r) (dS s) i).map mY)),some (nI (gt (dS r) i)),some (.ref (au++g).length),some (.tup (w.1.map rz)),some (rz w.2),some (rz c),some (rz (over w.2 c))] g5 ⟨_,_,rfl⟩;unfold mY at this;rw[fX] at this;exact this
   ·rintro d g4 ⟨m,f,rfl⟩;exact A _ _ ⟨_,_,_,_,rfl⟩
  ·rintro d g3 ⟨q,o,m,f,rfl⟩;simp only[W,V,M,L];refine⟨_,_,rfl,eT _ _,?_⟩;rw[gO,←mi,dE];exact⟨⟨_,_,_,_,_,_,rfl⟩,_,rfl⟩
 ·rintro d t ⟨⟨J,G,q,o,m,f,rfl⟩,g,rfl⟩;have U:=H 4 '!';have e0:nI 0=D.int 0:=rfl;have e:(kJ (dS r) (dS s) 4).map (λw=>D.tup (D.tup (D.int 0::w.2.map nI)::w.1.map rz))=(dJ r s).map gU:=by
   unfold dJ;rw[fJ];refine mo λw _=>?_
   show _=gU ((0::w.2)::w.1);unfold gU;rw[bP];show _=D.tup (D.tup ((0::w.2).map nI)::w.1.map rz);rw[bP,e0]
  rw[av,yu P];generalize kJ (dS r) (dS s) 4=tb at U e ⊢;simp only[W,V,Dd.N];refine⟨by rw[av];exact small _ '!',?_⟩;refine ox (as:=tb) (λd=>∃a b,d=[a,b]) (λ_=>true) (λw=>D.tup (D.tup (D.int 0::w.2.map nI)::w.1.map rz)) mY ⟨_,_,rfl⟩ ?_ ?_
  ·rintro w v d ⟨a,b,rfl⟩;have n:=U.2 w v;refine⟨_,rfl,⟨_,_,rfl⟩,by simp only[W,nW],λ_=>?_⟩;simp only[W,V,Dd.N];have q1:[D.int 0].length+(w.2.map nI).length<=1000000:=by rw[av,n.l2,uX];lia
   have q2:[D.tup (D.int 0::w.2.map nI)].length+(w.1.map rz).length<=1000000:=by rw[av,n.l1,uX];lia
   refine⟨by show 1<=sizeLine;decide,small _ q1,by show 1<=sizeLine;decide,small _ q2,?_⟩
   trivial
  rw[rk,e];exact k g
def kf:Option RN->D
 |none=>.non
 |some r=>rz r
theorem nJ(x:Int):Builtin.bitNot (Builtin.bitNot x)=x:=by unfold Builtin.bitNot;lia
theorem P0(a:Nat):¬ 0<=Builtin.bitNot (a:Int):=by unfold Builtin.bitNot;lia
theorem GK(a b:Nat):Builtin.bitOr (a:Int) (b:Int)=((Nat.lor a b:Nat):Int):=by
 unfold Builtin.bitOr Builtin.bitAnd;rw[dj (P0 a),dj (P0 b)];dsimp only;rw[nJ,nJ,nJ]
 rfl
theorem IN(a b:Nat):(0<Builtin.bitAnd (a:Int) (b:Int))=(Nat.beq (Nat.land a b) 0=false):=by
 apply propext;rw[show Builtin.bitAnd (a:Int) (b:Int)=((Nat.land a b:Nat):Int) from rfl];cases c:Nat.beq (Nat.land a b) 0 with
 |true=>have:=gw c;rw[this];simp
 |false=>
  have:Nat.land a b≠0:=λz=>by rw[z] at c;cases c
  simp only[iff_true];lia
theorem MT(l:RN):(aM l).sum=(l.sum:Nat):=by
 induction l with
 |nil=>rfl
 |cons a l ih=>
  unfold aM at ih ⊢;rw[bP,kB,kB,ih]
  push_cast
  rfl
theorem JU(l:RN):l.map nI=(aM l).map D.int:=by unfold aM;rw[fJ];rfl
theorem K9{T:Option D}:dQ lO fQ (eC (.int 0)) (aU bH (aA 2) (aA 0)) (eC (.int 5)) [some (nI i),T,some (nI t)] s=.ok (.bl (Nat.ble i t&&Nat.blt (t-i) 5)) s:=by
 rw[LB];rw[show eC (.int 0) [some (nI i),T,some (nI t)] s=.ok (.int 0) s from rfl,zt,show aU bH (aA 2) (aA 0) [some (nI i),T,some (nI t)] s=.ok (.int ((t:Int)-i)) s from rfl,zt];by_cases h:(0:Int)<=(t:Int)-i
 ·rw[show lO (.int 0) (.int ((t:Int)-i)) s=.ok (.bl (decide ((0:Int)<=(t:Int)-i))) s from rfl,d5 h];show bu.ok (D.bl (decide ((t:Int)-i<5))) s=_
  congr 2
  rw[pj (by lia:i<=t),Bool.true_and];cases c:Nat.blt (t-i) 5 with
  |true=>have:=Nat.blt_eq.mp c;exact d5 '!'
  |false=>
   refine dj λz=>?_
   have:Nat.blt (t-i) 5=true:=Nat.blt_eq.mpr '!';rw[this] at c;cases c
 ·rw[show lO (.int 0) (.int ((t:Int)-i)) s=.ok (.bl (decide ((0:Int)<=(t:Int)-i))) s from rfl,dj h];have:Nat.ble i t=false:=by
   cases c:Nat.ble i t with
   |true=>have:=ij c;lia
   |false=>rfl
  rw[this]
  rfl
theorem JY{b:List RN}(p:b.length=5)(m:∀l∈b,l.length=5)(q:Q (.lst ((dA b t).map nI)) au):
  WP (aG (hG (aB (eC (.int 5)) aC)) 1 [0,2] (gN 0) (eB (dQ lO fQ (eC (.int 0)) (aU bH (aA 2) (aA 0)) (eC (.int 5)))) (aU cB (aU cB (aA 1) (aA 0)) (aU bH (aA 2) (aA 0))) [some (gU b),S1,some (nI t),S3,S4,S5] au) Q:=by
 simp only[W,V,Dd.N];refine⟨eM '!' '!',by rw[lp];decide,?_⟩;rw[show((5:Int).toNat)=5 from rfl,BP];refine ox (as:=List.range 5) (λg=>∃a,g=[a,some (gU b),some (nI t)]) (λi=>Nat.ble i t&&Nat.blt (t-i) 5) (λi=>nI (PD b t i)) nI ⟨_,rfl⟩ ?_ ?_
 ·rintro i d g ⟨a,rfl⟩;have d:i<5:=bO.mp d;refine⟨_,rfl,⟨_,rfl⟩,?_,λo=>?_⟩
  ·simp only[W,V];refine WP.of K9 ?_;simp only[W,V,nW]
  ·obtain⟨k,f⟩:=zn o;have k:=ij k;have f:=Nat.blt_eq.mp f;have c:i<b.length:=by lia
   have h:(b.getD i []).length=5:=by
    rw[dM,cV c];exact m _ (lE c)
   have n:∀s:aa,cB (gU b) (.int i) s=.ok (rz (b.getD i [])) s:=λs=>
    lc rfl (vo (j:=i) (xs:=b.map rz) (by rw[eU,dM,cV c];rfl))
   simp only[W,V];refine WP.of (n _) ?_;simp only[W,V,Dd.N];rw[show((t:Int)-(i:Int))=((t-i:Nat):Int) by lia];refine WP.of (qI '!' _) ⟨rfl,rfl⟩
 have e:((List.range 5).filter λi=>Nat.ble i t&&Nat.blt (t-i) 5).map (λi=>nI (PD b t i))=(dA b t).map nI:=by unfold dA Pd;rw[fJ];rfl
 rw[e];exact q
theorem J0(a:s[n]?=some (.lst ((l++[x]).map nI))):nF (aA 1) (v::some (.ref n)::σ) s=.ok (nI x) (s.set n (.lst (l.map nI))):=by
 have b:((l++[x]).map nI)=l.map nI++[nI x]:=by simp
 show(match s[n]? with
  |some (.lst xs)=>match xs[xs.length-1]? with
   |some y=>bu.ok y (s.set n (.lst xs.dropLast))
   |none=>.stuck
  |_=>.stuck)=_
 rw[a,b];simp
theorem MS{a:aa}{r:RN}(i:r.length<=1000)(q:Q (.nx [v0,some (.ref a.length),v2,v3,v4,v5]) (a++[.lst ((nz r).map nI)])):
  WP (cM (jG (eB (aU qH (aE bU (aB (aA 1) aC)) (eC (.int 0)))) (eB (aU lP (aU cB (aA 1) (jk eH '+')) (eC (.int 0))))) xH [v0,some (.ref a.length),v2,v3,v4,v5] (a++[.lst (r.map nI)])) Q:=by
 refine vH (λm f s=>∃b:RN,m=b.length/\f=[v0,some (.ref a.length),v2,v3,v4,v5]/\s=a++[.lst (b.map nI)]/\nz b=nz r) (k:=r.length) ⟨r,rfl,rfl,rfl,rfl⟩ '!' ?_;rintro j f s ⟨b,rfl,rfl,rfl,e⟩;have d:(a++[O.lst (b.map nI)])[a.length]?=some (.lst (b.map nI)):=by simp
 simp only[W,V];refine WP.of (xK (oC d)) ?_;simp only[W,V];rcases RG b with rfl|⟨l,x,rfl⟩
 ·rw[if_neg '%'];refine⟨trivial,?_⟩;rw[←e] at q;exact q
 ·have h:((l++[x]).map nI)=l.map nI++[nI x]:=by simp
  rw[if_pos (by simp<;>lia)];refine⟨trivial,WP.of (lc (oC d) (by rw[h];exact EO _ _)) ?_⟩;simp only[W,V];by_cases c:(x:Int)=0
  ·rw[if_pos c];have g:x=0:=by lia
   subst g;unfold xH;simp only[W];refine WP.of (J0 d) ?_;simp only[L];exact⟨l.length,by simp,l,rfl,trivial,by rw[gO],by rw[←e,EV]⟩
  ·rw[if_neg c];rw[←e,Ew '!'] at q;exact q
theorem UA{a:List RN}(G:a.length=5)(C:∀l∈a,l.length=5)(k:∀g,Q (kf (cZ a)) (au++g)):WP (CF [gU a] au) Q:=by
 refine fW rfl ?_;simp only[W,V,Dd.N];refine⟨by decide,eM '!' '!',eM '!' '!',?_⟩;refine gl (λi j s=>(∃r u t f:Option D,j=[some (gU a),'"',r,u,t,f])/\s=au++(.lst (((List.range i).map λk=>(dA a (k+1)).sum).map nI)::[])/\∀k,k<i->free 0 (dA a (k+1))=true) ⟨⟨_,_,_,_,rfl⟩,rfl,λk m=>absurd m '!'⟩ ?_ ?_
 ·rintro i x j s H ⟨⟨r,u,t,f,rfl⟩,rfl,o⟩;obtain⟨q,rfl⟩:=pZ H;have q:i<8:=q;refine⟨_,rfl,?_⟩;rw[show((1:Int)+(i:Int))=((i+1:Nat):Int) by lia];unfold RY;simp only[vn];rw[yD];refine JY G C ?_;simp only[W,V,Dd.N];have E:(dA a (i+1)).length<=5:=by
   unfold dA Pd;rw[av];exact ax (uW _ _) '%'
  refine gl (λz j s=>(∃(b:Nat) (f:Option D),j=[some (gU a),'"',some (nI (i+1)),some (.lst ((dA a (i+1)).map nI)),some (nI b),f]/\free b ((dA a (i+1)).drop z)=free 0 (dA a (i+1)))/\s=au++(.lst (((List.range i).map λk=>(dA a (k+1)).sum).map nI)::[])) ⟨⟨0,_,rfl,rfl⟩,rfl⟩ ?_ ?_
  ·rintro z y j s w ⟨⟨b,f,rfl,d⟩,rfl⟩;rw[eU] at w;obtain⟨n,p,rfl⟩:=gQ.mp w;have v:z<(dA a (i+1)).length:=by
    rcases j8 z (dA a (i+1)).length with h|h
    ·exact h
    ·rw[qw h] at p;cases p
   have A:(dA a (i+1)).drop z=n::(dA a (i+1)).drop (z+1):=by
    rw[jU v];rw[cV v] at p;cases p
    rfl
   rw[A,free] at d;refine⟨_,rfl,?_⟩;unfold RX;simp only[W,V,Dd.N,IN,GK];cases c:Nat.beq (Nat.land b n) 0 with
   |false=>
    rw[c] at d;rw[if_pos rfl];simp only[W,V,L];have e:cZ a=none:=by
     unfold cZ;cases ca:(List.range 8).all λk=>free 0 (dA a (k+1)) with
     |false=>rfl
     |true=>
      have:=dk.mp ca i (bO.mpr q);rw[←d] at this;cases this
    have:=k [.lst (((List.range i).map λk=>(dA a (k+1)).sum).map nI)];rw[e] at this;exact this
   |true=>
    rw[c] at d;rw[if_neg ')'];simp only[W,V,L,Dd.N];exact⟨⟨_,_,rfl,d⟩,trivial⟩
  ·rintro j s ⟨⟨b,f,rfl,d⟩,rfl⟩;rw[av,N3] at d;simp only[W,V,M,L];refine⟨_,_,rfl,eT _ _,aM (dA a (i+1)),?_,_,_,rfl,eT _ _,cx _ (by simp;lia),⟨_,_,_,_,rfl⟩,?_,λk m=>?_⟩
   ·show bv ((dA a (i+1)).map nI)=_;rw[JU];exact vR _
   ·rw[gO,MT,sK,fX,fX]
    rfl
   ·rcases j8 k i with h|h
    ·exact o k h
    ·have:k=i:=by lia
     subst this;exact d.symm
 ·rintro j s ⟨⟨r,u,t,f,rfl⟩,rfl,o⟩;rw[show(rng 1 ((9:Int)-1).toNat).length=8 from rfl] at o ⊢;have e:cZ a=some (nz ((List.range 8).map λk=>(dA a (k+1)).sum)):=by
   unfold cZ;rw[dk.mpr λk m=>o k (bO.mp m)]
   rfl
  rw[e] at k;show WP _ _;rw[vn];refine MS '%' ?_;simp only[W,V];refine WP.of (Fp (xs:=(nz ((List.range 8).map λk=>(dA a (k+1)).sum)).map nI) '%') ?_;exact k _
theorem WD:List.all [[],[0,0,0,1],[0,0,1],[0,0,2],[0,1],[0,1,1]] ce=true:=by decide +kernel
theorem WC:List.all [[0,2],[0,2,1],[0,3],[0,3,1],[0,4],[0,5]] ce=true:=by decide +kernel
theorem WB:List.all [[1],[1,0,0,1],[1,0,1],[1,0,2],[1,1],[1,1,1]] ce=true:=by decide +kernel
theorem WA:List.all [[1,2],[1,2,1],[1,3],[1,4],[1,5],[2]] ce=true:=by decide +kernel
theorem Wz:List.all [[2,0,1],[2,0,2],[2,1],[2,1,1],[2,2],[2,2,1]] ce=true:=by decide +kernel
theorem Wx:List.all [[2,3],[2,4],[3],[3,0,1],[3,1],[3,1,1]] ce=true:=by decide +kernel
theorem Ww:List.all [[3,2],[3,2,1],[3,3],[3,4],[4],[4,0,1]] ce=true:=by decide +kernel
theorem Wv:List.all [[4,1],[4,1,1],[4,2],[4,3],[4,4],[5]] ce=true:=by decide +kernel
theorem Wu:List.all [[5,0,1],[5,1],[5,1,1],[5,2],[5,3],[6]] ce=true:=by decide +kernel
theorem Wt:List.all [[6,0,1],[6,1],[6,1,1],[6,2],[6,3],[7]] ce=true:=by decide +kernel
theorem Pz:List.all [[7,0,1],[7,1],[7,2],[7,3],[8],[8,0,1]] ce=true:=by decide +kernel
theorem Py:List.all [[8,1],[8,2],[9],[9,0,1],[9,1],[9,2]] ce=true:=by decide +kernel
theorem Px:List.all [[10],[10,1],[10,2],[11],[11,1],[12]] ce=true:=by decide +kernel
theorem Pw:List.all [[12,1],[13],[13,1],[14],[15],[16]] ce=true:=by decide +kernel
theorem GR:fA=[[],[0,0,0,1],[0,0,1],[0,0,2],[0,1],[0,1,1]]++([[0,2],[0,2,1],[0,3],[0,3,1],[0,4],[0,5]]++([[1],[1,0,0,1],[1,0,1],[1,0,2],[1,1],[1,1,1]]++([[1,2],[1,2,1],[1,3],[1,4],[1,5],[2]]++([[2,0,1],[2,0,2],[2,1],[2,1,1],[2,2],[2,2,1]]++([[2,3],[2,4],[3],[3,0,1],[3,1],[3,1,1]]++([[3,2],[3,2,1],[3,3],[3,4],[4],[4,0,1]]++([[4,1],[4,1,1],[4,2],[4,3],[4,4],[5]]++([[5,0,1],[5,1],[5,1,1],[5,2],[5,3],[6]]++([[6,0,1],[6,1],[6,1,1],[6,2],[6,3],[7]]++([[7,0,1],[7,1],[7,2],[7,3],[8],[8,0,1]]++([[8,1],[8,2],[9],[9,0,1],[9,1],[9,2]]++([[10],[10,1],[10,2],[11],[11,1],[12]]++([[12,1],[13],[13,1],[14],[15],[16]]))))))))))))):=by decide +kernel
theorem Nf:nH=true:=by
 unfold nH;rw[GR];simp only[List.all_append,WD,WC,WB,WA,Wz,Wx,Ww,Wv,Wu,Wt,Pz,Py,Px,Pw,Bool.and_self]
theorem GP(b:r∈fA)(c:s∈fA)(h:du 1 r+du 1 s<=16):PB r s=true:=by
 have d:=dk.mp Nf r b;have a:=dk.mp d s c;rw[pj h] at a;exact a
theorem BW(a:r∈fA):r.length<=4:=by
 have:fA.all (λr=>Nat.ble r.length 4)=true:=by decide +kernel
 exact ij (dk.mp this r a)
theorem IC(d:tP (dS r) (dS s)=true):(dJ r s).length<=100/\∀t∈dJ r s,t.length=5/\∀l∈t,l.length=5:=by
 have b:=wg (dk.mp (zn d).1 4 (bO.mpr '!'));unfold dJ;refine⟨by rw[av];exact b.1,λt c=>?_⟩;obtain⟨w,e,rfl⟩:=cU.mp c;have a:=b.2 w e;refine⟨by rw[dm,a.l1],λl hl=>?_⟩;rcases bT.mp hl with rfl|hl
 ·rw[dm,a.l2]
 ·exact a.rows l hl
theorem Nt(b:List (List RN)):(b.filter λt=>(cZ t).isSome).map (λt=>kf (cZ t))=(b.filterMap cZ).map rz:=by
 induction b with
 |nil=>rfl
 |cons a b ih=>
  cases e:cZ a with
  |none=>rw[mU (by rw[e];decide),List.filterMap_cons_none e,ih]
  |some r=>
   rw[mT (by rw[e];rfl),List.filterMap_cons_some e,bP,ih,bP,e]
   rfl
theorem Ka{d:aa}{R:Fl->aa->Prop}(p:Pr r t rn sn)(f:(acc++aJ (mk r t)).length<=200000)
  (q:∀C,R (.nx [S0,S1,some (.ref d.length),some (aL r),some (aL t)]) (d++(.lst (acc++aJ (mk r t))::C))):
  WP (FG [S0,S1,some (.ref d.length),some (aL r),some (aL t)] (d++(.lst acc::g))) R:=by
 obtain⟨I,z⟩:=zn p.ck;have l:=(zn I).2;have h:aJ (mk r t)=(i7 rn sn).map rz:=by
  unfold mk;rw[p.er,p.es,iA,iA,iZ z,Qq]
 obtain⟨E,m⟩:=IC l;rw[h] at f q;have y:aL r=rz rn:=by rw[p.er,q7]
 have G:aL t=rz sn:=by rw[p.es,q7]
 rw[y,G] at q ⊢;unfold FG;simp only[W,V,Fn,Dd.N];refine⟨_,_,rfl,eT _ _,Tq p.lr p.ls l λP=>?_⟩;rw[dE,kE];generalize htabs:dJ rn sn=tabs at E m;have H:i7 rn sn=tabs.filterMap cZ:=by unfold i7;rw[htabs]
 rw[H] at f q;simp only[W,V,Dd.N];refine⟨by rw[av];exact small _ '!',?_⟩;refine uo (λj i c s=>(∃v,c=[v])/\i=(tabs.take j).map (λt=>kf (cZ t))/\∃g,s=d++(.lst acc::g)) ⟨⟨_,rfl⟩,rfl,_,rfl⟩ ?_ ?_
 ·rintro j x i c s n ⟨⟨v,rfl⟩,rfl,u,rfl⟩;rw[eU] at n;obtain⟨k,b,rfl⟩:=gQ.mp n;obtain⟨A,w⟩:=m k (dF b);refine⟨_,rfl,?_⟩;simp only[W,V];refine UA A w λJ=>?_
  rw[dE,kE];exact⟨⟨_,rfl⟩,by rw[zg b,fX];rfl,_,rfl⟩
 ·rintro i c s ⟨⟨v,rfl⟩,rfl,u,rfl⟩;have o:List.take (tabs.map gU).length tabs=tabs:=by rw[av,fi]
  rw[o];refine⟨by rw[av];exact small _ '!',?_⟩;refine ox (as:=tabs) (λc=>∃a,c=[a]) (λt=>(cZ t).isSome) (λt=>kf (cZ t)) (λt=>kf (cZ t)) ⟨_,rfl⟩ ?_ ?_
  ·rintro k b c ⟨a,rfl⟩;refine⟨_,rfl,⟨_,rfl⟩,?_,λ_=>by simp only[W,V,nW]⟩;simp only[W,V];cases e:cZ k with
   |none=>exact WP.of (show nk true (kf none) .non _=.ok (.bl false) _ from rfl) ⟨rfl,rfl⟩
   |some r=>exact WP.of (show nk true (kf (some r)) .non _=.ok (.bl true) _ from rfl) ⟨rfl,rfl⟩
  rw[Nt];refine⟨_,_,_,rfl,eT _ _,rfl,small _ ?_,?_⟩
  ·rw[dq] at f;lia
  ·rw[gO];exact q _
theorem Va{one other:List cf}(z:one.length<=40)(E:other.length<=40)(u:∀r∈one,∀s∈other,∃o t,Pr r s o t)(k:∀g,Q (aK (aQ (one.flatMap λr=>other.flatMap (mk r)))) (au++g)):WP (CS [aK one,aK other] au) Q:=by
 have v:∀r∈one,∀s∈other,(mk r s).length<=100:=λr b s h=>by
  obtain⟨o,t,p⟩:=u r b s h;unfold mk;rw[av,p.er,p.es,iA,iA];exact QY (zn (zn p.ck).1).1
 have w:∀r∈one,(other.flatMap (mk r)).length<=4000:=λr b=>by
  have:=ra (l:=other) (f:=mk r) (c:=100) λs h=>v r b s h
  lia
 have C:(one.flatMap λr=>other.flatMap (mk r)).length<=160000:=by
  have:=ra (l:=one) (f:=λr=>other.flatMap (mk r)) (c:=4000) λr b=>w r b
  lia
 have x:∀r,aJ (other.flatMap (mk r))=other.flatMap λs=>aJ (mk r s):=λr=>mi ..
 have e:aJ (one.flatMap λr=>other.flatMap (mk r))=one.flatMap λr=>aJ (other.flatMap (mk r)):=mi ..
 refine fW rfl ?_;simp only[W,V,Dd.N];refine⟨by decide,?_⟩;refine nS aL (λr=>aJ (other.flatMap (mk r))) (λd=>∃n a:Option D,d=[some (aK one),some (aK other),'"',n,a]) 200000 ⟨_,_,rfl⟩ (by rw[o9,←e,ze];lia) ?_ ?_
 ·rintro r b d q g ⟨n,a,rfl⟩ i;refine⟨_,rfl,λR j=>?_⟩;unfold Sb;simp only[W,V,Dd.N];rw[x] at i j;refine nS aL (λs=>aJ (mk r s)) (λd=>∃a:Option D,d=[some (aK one),some (aK other),'"',some (aL r),a]) 200000 ⟨_,rfl⟩ i ?_ ?_
  ·rintro s h d q g ⟨a,rfl⟩ m;obtain⟨o,t,p⟩:=u r b s h;exact⟨_,rfl,λR j=>Ka p m λA=>j _ _ ⟨_,rfl⟩⟩
  ·rintro d g ⟨a,rfl⟩;exact j _ _ ⟨_,_,rfl⟩
 ·rintro d g ⟨n,a,rfl⟩;simp only[W,V,M];refine⟨_,_,rfl,eT _ _,?_⟩;rw[gO,←e];refine B5 rfl '!' λy=>?_
  rw[dE];exact k _
theorem JZ(x:Nat)(l:RN):nz (x::l)=(match nz l with
 |[]=>bif Nat.beq x 0 then[] else[x]
 |y::l=>x::y::l):=rfl
theorem wz:∀(l:RN) (w:Nat),du w (nz l)=du w l
 |[],_=>rfl
 |x::l,w=>by
  have a:=wz l (2*w+1);rw[JZ];cases e:nz l with
  |nil=>
   rw[e] at a;dsimp only;cases c:Nat.beq x 0 with
   |true=>
    have:=gw c;subst this;rw[du,←a];simp[du]
   |false=>
    show w*x+du (2*w+1) []=w*x+du (2*w+1) l;rw[a]
  |cons y l'=>
   rw[e] at a;dsimp only;rw[du,a,du]
theorem JM(h:a+3*b+7*c+15*d<=16):nz [a,b,c,d]∈fA:=by
 unfold fA;refine mN.mpr ⟨a,bO.mpr '!',mN.mpr ⟨b,bO.mpr '!',mN.mpr ⟨c,bO.mpr '!',mN.mpr ⟨d,bO.mpr '!',?_⟩⟩⟩⟩;rw[pj h];exact eY.mpr rfl
noncomputable def dv(i:Nat):Nat:=[15,7,3,1].getD i 0
def wN(r:RN):Nat:=15*gt r 0+7*gt r 1+3*gt r 2+gt r 3
theorem KU{r:RN}(h:r.length=i)(e:i<4):wN (r++[y])=wN r+y*dv i:=by
 subst h;rcases r with _|⟨d,_|⟨c,_|⟨b,_|⟨a,t⟩⟩⟩⟩
 ·show 15*y+7*0+3*0+0=15*0+7*0+3*0+0+y*15;lia
 ·show 15*d+7*y+3*0+0=15*d+7*0+3*0+0+y*7;lia
 ·show 15*d+7*c+3*y+0=15*d+7*c+3*0+0+y*3;lia
 ·show 15*d+7*c+3*b+y=15*d+7*c+3*b+0+y*1;lia
 ·rw[dm,dm,dm,dm] at e;lia
def Cm(m:Int) (r:cf):Prop:=∃a∈fA,r=aM a/\(du 1 a:Int)<=m
theorem TX(H:cS au n)(h0:0<=m)(h1:m<=16)(k:∀r A,Cm m r->cI au A n->Q (aL r) A):WP (CP [.ref n,.int m] au) Q:=by
 have S:au.length≠n:=mL H.lt;refine fW rfl ?_;refine nT (R:=λe s=>e=.nx [some (.ref n),some (.int m),'"',none,none,none]/\s=au++[.lst []]) ?_ ?_
 ·simp only[W,V];exact⟨small _ '%',trivial,trivial⟩
 rintro e s ⟨rfl,rfl⟩;show WP _ _;refine nT (R:=λe s=>e=.nx [some (.ref n),some (.int m),'"',some (.int m),none,none]/\s=au++[.lst []]) ?_ ?_
 ·simp only[W,V,nW]
 rintro e s ⟨rfl,rfl⟩;show WP _ _;refine nT (R:=λe s=>∃(r:RN) (v u w:Option D),e=.nx [some (.ref n),some (.int m),'"',v,u,w]/\r.length=4/\(wN r:Int)<=m/\cI au s n/\s[au.length]?=some (.lst (r.map nI))) ?_ ?_
 ·simp only[W,V];refine WP.of (show Ph (aB (eC (.int 3)) (aB (jk eH '+') (aB (jk eH '+') aC))) [some (.ref n),some (.int m),'"',some (.int m),none,none] (au++[.lst []])=.ok (lI 3 4) (au++[.lst []]) from rfl) ?_;refine gl (λi l s=>∃(r:RN) (left:Int) (u w:Option D),l=[some (.ref n),some (.int m),'"',some (.int left),u,w]/\r.length=i/\0<=left/\left<=16/\(wN r:Int)+left<=m/\cI au s n/\s[au.length]?=some (.lst (r.map nI))) ⟨[],m,_,_,rfl,rfl,h0,h1,by show((15*0+7*0+3*0+0:Nat):Int)+m<=m;lia,.more H _,by simp⟩ ?_ ?_
  ·rintro i x l s hx ⟨r,left,u,w,rfl,o,a3,a4,a7,G,E⟩;obtain⟨hi,rfl⟩:=Qm hx;refine⟨_,rfl,?_⟩;unfold Se;have T:(2:Int)*2^((3:Int)-(i:Int)).toNat-1=(dv i:Nat):=by
    have Y:i=0\/i=1\/i=2\/i=3:=by lia
    rcases Y with rfl|rfl|rfl|rfl<;>rfl
   have a8:1<=dv i/\dv i<=15:=by
    have Y:i=0\/i=1\/i=2\/i=3:=by lia
    rcases Y with rfl|rfl|rfl|rfl<;>decide
   have I:=λy=>KU (y:=y) o '!'
   have d1:(1:Int)<=(dv i:Nat):=by lia
   have d2:((dv i:Nat):Int)<=15:=by lia
   have cp:jN 2 ((3:Int)-(i:Int)):=⟨by lia,by lia,by decide⟩
   simp only[W,V,M,Dd.N,T];have U:∃dd:Int,((dv i:Nat):Int)=dd:=⟨_,rfl⟩
   obtain⟨dd,C⟩:=U;rw[C] at d1 d2 ⊢;have P:0<=left/dd:=Int.ediv_nonneg a3 '!';have a9:left/dd*dd<=left:=Int.ediv_mul_le left '!';have a0:left/dd<=16:=by
    have:left/dd*1<=left/dd*dd:=Int.mul_le_mul_of_nonneg_left d1 P;lia
   refine⟨cp,⟨by lia,Dw d2 (by decide +kernel)⟩,?_⟩;refine B9 G.bag '!' '!' λy s1 y0 y1 dr=>⟨cp,?_⟩
   have b0:0<=y*dd/\y*dd<=left:=by
    have h1:y*dd<=left/dd*dd:=SI '!' '!';exact⟨Df y0 '!',by lia⟩
   obtain⟨q,rfl⟩:=pr y0;have hw:(wN (r++[q]):Int)=(wN r:Int)+(q:Int)*dd:=by
    rw[I q,←C]
    push_cast
    rfl
   simp only[W,V,L];have J:s1[au.length]?=some (.lst (r.map nI)):=(dr.keep _ (gP E) S).trans E;refine⟨.inr ⟨by lia,by lia⟩,trivial,_,_,rfl,J,_,_,rfl,J,by rw[av];exact cx _ '!',r++[q],left-(q:Int)*dd,_,_,rfl,by simp[o],by lia,by lia,by lia,(G.trans dr).over H.lt (aY _),?_⟩;rw[l9 (gP J),fX]
   rfl
  ·rintro l s ⟨r,left,u,w,rfl,o,a3,a4,a7,G,E⟩;have o:r.length=4:=o;exact⟨r,_,_,_,rfl,o,by lia,G,E⟩
 rintro e s ⟨p,v,u,w,rfl,f,X,h,g⟩;show WP _ _;refine nT (R:=λe s=>∃(r:RN) (v u w:Option D),e=.nx [some (.ref n),some (.int m),'"',v,u,w]/\r.reverse=nz p.reverse/\cI au s n/\s[au.length]?=some (.lst (r.map nI))) ?_ ?_
 ·refine vH (λj l s=>∃(r:RN) (v u w:Option D),j=r.length/\l=[some (.ref n),some (.int m),'"',v,u,w]/\nz r.reverse=nz p.reverse/\cI au s n/\s[au.length]?=some (.lst (r.map nI))) (k:=p.length) ⟨p,v,u,w,rfl,rfl,rfl,h,g⟩ '!' ?_;rintro j l s ⟨r,v,u,w,rfl,rfl,f,h,g⟩;simp only[W,V];refine WP.of (xK (oC g)) ?_;simp only[W,V];cases r with
  |nil=>
   rw[if_neg '%'];exact⟨trivial,[],_,_,_,rfl,f,h,g⟩
  |cons x r=>
   rw[if_pos '%'];refine⟨trivial,WP.of (lc (oC g) (PY (j:=0) (d:=nI x) '%')) ?_⟩;simp only[W,V];by_cases c:(x:Int)=0
   ·rw[if_pos c];have c0:x=0:=by lia
    subst c0;unfold Sf;simp only[W];refine WP.of (Kp rfl g) ?_;simp only[L];rw[nY,EV] at f;exact⟨r.length,by simp,r,_,_,_,rfl,rfl,f,h.over H.lt (aY _),l9 (gP g)⟩
   ·rw[if_neg c];rw[nY,Ew '!'] at f;exact⟨x::r,_,_,_,rfl,by rw[nY];exact f,h,g⟩
 rintro e s ⟨r,v,u,w,rfl,h9,h,g⟩;show WP _ _;have eb:iL (aA 2) (jk eH '+') [some (.ref n),some (.int m),'"',v,u,w] s=.ok (.lst (r.reverse.map nI)) s:=by
  show(match eI s (.ref au.length) with
   |some xs=>bu.ok (D.lst xs.reverse) s
   |none=>.stuck)=_
  rw[nQ g,yS]
 simp only[W];refine WP.of eb ?_;simp only[W,V];have e4:∃a b c d,p=[d,c,b,a]:=by
  rcases p with _|⟨d,_|⟨c,_|⟨b,_|⟨a,_|⟨z,t⟩⟩⟩⟩⟩
  ·cases f
  ·cases f
  ·cases f
  ·cases f
  ·exact⟨a,b,c,d,rfl⟩
  ·simp at f
 obtain⟨a,b,c,d,rfl⟩:=e4;have e5:r.reverse=nz [a,b,c,d]:=h9;have a2:((15*d+7*c+3*b+a:Nat):Int)<=m:=X;rw[e5,←rz,q7];refine k _ _ ⟨nz [a,b,c,d],JM '!',rfl,?_⟩ h;rw[wz];show((1*a+(3*b+(7*c+(15*d+0))):Nat):Int)<=m;lia
end Tab
end Dd
namespace K40
end K40
namespace Dd
open L2 K07 K23
noncomputable def aj:Int->List Int->Int
 |_,[]=>0
 |n,x::xs=>n*x+aj (n+1) xs
theorem vX:∀(a b:List Int) (n:Int),aj n (a++b)=aj n a+aj (n+a.length) b
 |[],b,n=>by simp[aj]
 |x::a,b,n=>by
  rw[kE,aj,aj,vX a b (n+1),dm,show n+1+(a.length:Int)=n+((a.length+1:Nat):Int) by push_cast;lia];lia
theorem ye:∀(a:List Int) (n:Int),aj (n+1) a=aj n a+a.sum
 |[],n=>by simp[aj]
 |x::a,n=>by
  rw[aj,aj,ye a (n+1),kB,yK];lia
noncomputable def eN:Int->List Int->List Int
 |_,[]=>[]
 |n,x::xs=>n*x::eN (n+1) xs
theorem Q6:∀(a:List Int) (n:Int),(eN n a).sum=aj n a
 |[],n=>rfl
 |x::a,n=>by rw[eN,kB,Q6 a,aj]
theorem Rw:∀(a:List Int) (x n:Int),eN n (a++[x])=eN n a++[(n+a.length)*x]
 |[],x,n=>by simp[eN]
 |y::a,x,n=>by
  rw[kE,eN,eN,Rw a x (n+1),dm,show n+1+(a.length:Int)=n+((a.length+1:Nat):Int) by push_cast;lia]
  rfl
theorem K6{a:List Int}:iq [.lst (a.map .int)] au=.ok (.int a.sum) au:=by
 unfold iq
 show(match ((some (a.map D.int)).bind bv) with
  |some a=>bu.ok (D.int a.sum) au
  |none=>.stuck)=_
 rw[Option.bind_some,vR]
theorem JP(m:eS I x):aU bR (aA 0) (aA 1) [some (.int I),some (.int x)] s=.ok (.int (I*x)) s:=by simp[m]
theorem O9:gT 2 (ai (gN 0) (ai (gN 1) cg)) (.tup [.int I,.int x]) [v,w]=some [some (.int I),some (.int x)]:=rfl
theorem JN(k:∀x∈r,-10000<=x/\x<=10000):bx (gT 2 (ai (gN 0) (ai (gN 1) cg))) aI (aU bR (aA 0) (aA 1)) (ge 1 (r.map .int)) [none,none] au=.ok ((eN 1 r).map D.int) au:=by
 have W:=qY (bd:=gT 2 (ai (gN 0) (ai (gN 1) cg))) (c:=aI) (f:=aU bR (aA 0) (aA 1)) (xs:=ge 1 (r.map .int)) (σ:=[none,none]) (au:=au)
  (λi a b s=>s=au/\(∃v w:Option D,b=[v,w])/\a=(eN 1 (r.take i)).map D.int) ⟨rfl,⟨none,none,rfl⟩,rfl⟩ (by
   rintro i y a b s o ⟨rfl,⟨v,w,rfl⟩,rfl⟩;obtain⟨d,j,rfl⟩:=Cq o;rw[eU] at j;obtain⟨x,g,rfl⟩:=gQ.mp j;have h:=k x (dF g);have p:=(cK.mp g).1;have m:eS (1+(i:Int)) x:=i5 h.1 h.2;refine⟨[some (.int (1+(i:Int))),some (.int x)],true,s,O9,rfl,.inr ⟨rfl,.int ((1+(i:Int))*x),s,JP m,rfl,⟨_,_,rfl⟩,?_⟩⟩;rw[zg g,Rw,fX,gC,j9 '!']
   simp)
 obtain⟨q,n,l,e,rfl,_,rfl⟩:=W;rw[vY,av,fi] at e;exact e
theorem NF{r:List Int}(f:r.length<=1000)(b:∀x∈r,-10000<=x/\x<=10000):uq [aL r] au=.ok (.int (aj 1 r)) au:=by
 have e:=JN (au:=au) b;refine je rfl ?_;have a:(ge 1 (r.map D.int)).length<=sizeLine:=by rw[vY,av];exact small _ '!'
 have d:hH (aA 0) [some (aL r)] au=.ok (ge 1 (r.map D.int)) au:=rfl;have c:aG (hH (aA 0)) 2 [] (gT 2 (ai (gN 0) (ai (gN 1) cg))) aI (aU bR (aA 0) (aA 1)) [some (aL r)] au=.ok (.lst ((eN 1 r).map D.int)) au:=by
  rw[pV,d,zt,if_pos a];show((bx _ _ _ _ [none,none] au).bind _)=_;rw[e]
  rfl
 show ap _ [some (aL r)] au=_;rw[qV,lh,oy,c,zt,wB,zt,zt,K6,zt,Q6]
theorem Ta{r:List Int}(q:r.length<=1000):Ca [aL r] au=.ok (.lst (AG (db r))) au:=by
 have W:=qY (bd:=gN 0) (c:=cD (aE oD (aB (aA 1) (aB (aA 0) aC)))) (f:=aA 0) (xs:=rng 0 (r.length-1)) (σ:=[none,some (aL r)]) (au:=au)
  (λi a b s=>s=au/\(∃w:Option D,b=[w,some (aL r)])/\a=AG ((List.range i).filter λp=>decide (bh r p))) ⟨rfl,⟨none,rfl⟩,rfl⟩ (by
   rintro i y a b s m ⟨rfl,⟨w,rfl⟩,rfl⟩;obtain⟨n,rfl⟩:=BO m;rw[su];refine⟨[some (.int i),some (aL r)],decide (bh r i),s,rfl,?_,?_⟩
   ·rw[ue,lh];show((oD [aL r,.int i] s).bind _)=_;rw[RF,n0,show decide (0<=(i:Int)/\bh r i)=decide (bh r i) by simp]
    rfl
   ·rw[sK,sO];by_cases c:bh r i
    ·refine .inr ⟨d5 c,.int i,s,rfl,rfl,⟨_,rfl⟩,?_⟩;simp[AG,c]
    ·refine .inl ⟨dj c,rfl,⟨_,rfl⟩,?_⟩
     simp[AG,c])
 obtain⟨o,k,st',e,rfl,_,rfl⟩:=W;rw[lp] at e;refine je rfl ?_;have g:cF ((r.length:Int)-1):=eM '!' '!';have d:(rng 0 (r.length-1)).length<=sizeLine:=by rw[lp];exact small _ '!'
 have l:hG (aB (aU bH (aE bU (aB (aA 0) aC)) '+') aC) [some (aL r)] st'=.ok (rng 0 (r.length-1)) st':=by
  have h:=PZ (au:=st') (r:=r);have j:((r.length:Int)-1).toNat=r.length-1:=by lia
  generalize (r.length:Int)=N at *
  simp only[aL] at *
  generalize D.tup (r.map D.int)=R at *
  simp[h,g,j]
 show ap _ [some (aL r)] st'=_;rw[qV,pV,l,zt,if_pos d];show((bx _ _ _ _ [none,some (aL r)] st').bind _).bind _=_;rw[e]
 rfl
theorem LX(i:∀x∈r,1<=x)(s:bh r p)(k:z∈bt r p):aj 1 z<aj 1 r:=by
 obtain⟨a,b,j,g,m⟩:=s;have G:p+1<r.length:=(cK.mp g).1;have C:=i b (dF g);have A:=i a (dF j);unfold bt at k;obtain⟨two,y,rfl⟩:=cU.mp k;have h:=(zj _).mem_iff.mp y;rw[dM,j,dM,g] at h;simp only[uI] at h;unfold aX at h;obtain⟨c,v,t⟩:=cU.mp h;have E:c<(a/2+1).toNat:=bO.mp (gA.mp v).1;have n:r=r.take p++[a,b]++r.drop (p+2):=by
  have o:r.drop p=a::r.drop (p+1):=by
   rw[jU '!']
   congr 1
   exact(cK.mp j).2
  have u:r.drop (p+1)=b::r.drop (p+2):=by
   rw[jU '!']
   congr 1
   exact(cK.mp g).2
  calc r=r.take p++r.drop p:=(kG p r).symm
   _=_:=by rw[o,u];simp
 have q:0<=(r.drop (p+2)).sum:=jh λx w=>i x (qv w)
 have f:aj 1 (r.take p++two++r.drop (p+2))<aj 1 (r.take p++[a,b]++r.drop (p+2)):=by
  rw[dE,dE,vX,vX (r.take p)];generalize (1:Int)+((r.take p).length:Int)=N;rw[vX,vX];generalize r.drop (p+2)=d at q;rw[←t];unfold gX;split
  ·rename_i l;simp only[aj,dm,pc];rw[Int.mul_sub,Int.mul_add,yK,yK];lia
  ·rename_i l;have:(c:Int)=0:=by lia
   simp only[aj,dm,pc];have e:=ye d (N+1);rw[show N+((0+1+1:Nat):Int)=N+1+1 by push_cast;lia,show N+((0+1:Nat):Int)=N+1 by push_cast;lia,e,Int.mul_add,yK];lia
 rw[←n] at f;exact f
end Dd
namespace Dd
open L2
end Dd
namespace Dd
open L2 K07 K23
theorem Fb{r:List Int}{p:Nat}{m:Int}{L:Nat}(h:ak r m L)(q:bh r p):∀z∈bt r p,ak z m L:=λz i=>by
 obtain⟨a,b,g,d,l⟩:=q;have E:p+1<r.length:=(cK.mp d).1;have A:=h.pos b (dF d);have w:=h.pos a (dF g);unfold bt at i;obtain⟨two,v,rfl⟩:=cU.mp i;have e:=(zj _).mem_iff.mp v;rw[dM,g,dM,d] at e;simp only[uI] at e;unfold aX at e;obtain⟨c,u,s⟩:=cU.mp e;have C:c<(a/2+1).toNat:=bO.mp (gA.mp u).1;have n:r=r.take p++[a,b]++r.drop (p+2):=by
  have o:r.drop p=a::r.drop (p+1):=by
   rw[jU '!']
   congr 1
   exact(cK.mp g).2
  have t:r.drop (p+1)=b::r.drop (p+2):=by
   rw[jU '!']
   congr 1
   exact(cK.mp d).2
  calc r=r.take p++r.drop p:=(kG p r).symm
   _=_:=by rw[o,t];simp
 have f:two.sum=a+b/\(∀x∈two,1<=x)/\two.length<=2:=by
  rw[←s];unfold gX;split
  ·rename_i k;refine⟨by simp<;>lia,λx hx=>?_,by simp⟩;simp only[bT,pd,oW] at hx;rcases hx with rfl|rfl<;>lia
  ·rename_i k;refine⟨by simp<;>lia,λx hx=>?_,by simp⟩;simp only[bT,pd,oW] at hx;subst hx;lia
 have j:r.sum=(r.take p).sum+(a+b)+(r.drop (p+2)).sum:=by
  conv=>lhs;rw[n]
  simp[js];lia
 refine⟨λx hx=>?_,?_,?_⟩
 ·rcases fh.mp hx with hx|hx
  ·rcases fh.mp hx with hx|hx
   ·exact h.pos x (mR hx)
   ·exact f.2.1 x hx
  ·exact h.pos x (qv hx)
 ·have:=h.sum;rw[js,js,f.1];lia
 ·have y:=h.len;rw[dq,dq,gC,qg];have:=f.2.2;lia
theorem se{r:List Int}{m:Int}{L:Nat}(h:ak r m L):∀x∈r,1<=x/\x<=m:=λx hx=>by
 refine⟨h.pos x hx,?_⟩;have:∀{r:List Int},(∀y∈r,1<=y)->∀x∈r,x<=r.sum:=λ{r}=>by
  induction r with
  |nil=>intro _ x hx;cases hx
  |cons a r ih=>
   intro h x hx;have d:=h a '%';have c:0<=r.sum:=jh λy b=>h y (cH _ b)
   rw[kB];rcases bT.mp hx with rfl|hx
   ·lia
   ·have:=ih (λy b=>h y (cH _ b)) x hx;lia
 exact C8 (this h.pos x hx) h.sum
theorem yx{r:List Int}{m:Int}{L p:Nat}(h:ak r m L)(e:bh r p):(1<=r.getD p 0/\r.getD p 0<=m)/\(1<=r.getD (p+1) 0/\r.getD (p+1) 0<=m):=by
 obtain⟨a,b,c,d,_⟩:=e;rw[dM,c,dM,d];exact⟨se h a (dF c),se h b (dF d)⟩
noncomputable abbrev Lv:=List (Int×Nat×List (List Int))
def gF(a:Lv):List (Int×D):=a.map λq=>(q.1,.ref q.2.1)
structure gz (au:aa) (L:Nat) (lv:Lv):Prop where
 at_:au[L]?=some (.dI (gF lv))
 in_:∀q∈lv,au[q.2.1]?=some (.dT (aS q.2.2))
 nd:(lv.map (·.1)).Nodup
 ix:(lv.map (·.2.1)).Nodup
 rows:∀q∈lv,q.2.2.Nodup
def bW(n:Nat) (r:List Int):Lv->Lv
 |[]=>[(aj 1 r,n,[r])]
 |q::lv=>if q.1=aj 1 r then(q.1,q.2.1,aR q.2.2 r)::lv else q::bW n r lv
theorem EJ:eK (gF lv) m=(lv.find? λq=>decide (q.1=m)).map λq=>D.ref q.2.1:=by
 induction lv with
 |nil=>rfl
 |cons q lv ih=>
  by_cases e:q.1=m
  ·simp[eK,gF,e]
  ·have a:eK (gF (q::lv)) m=eK (gF lv) m:=by simp[eK,gF,e]
   rw[a,ih,List.find?_cons_of_neg (by simpa using e)]
theorem RC:∀{a:Lv},(∀q∈a,q.1≠aj 1 r)->bW n r a=a++[(aj 1 r,n,[r])]
 |[],_=>rfl
 |q::a,h=>by
  unfold bW;rw[if_neg (h q '%'),RC λx b=>h x (cH _ b)]
  rfl
theorem RD:∀{a:Lv}{q:Int×Nat×List (List Int)},(a.map (·.1)).Nodup->q∈a->q.1=aj 1 r->bW n r a=a.map λx=>if x.1=aj 1 r then(x.1,x.2.1,aR x.2.2 r) else x
 |[],q,_,h,_=>by cases h
 |x::a,q,nd,h,e=>by
  rw[bP,iE] at nd;unfold bW;rw[bP];by_cases c:x.1=aj 1 r
  ·rw[if_pos c,if_pos c]
   congr 1
   symm
   refine(mo (g:=id) λy b=>?_).trans (List.map_id _);rw[if_neg λz=>nd.1 (cU.mpr ⟨y,b,z.trans c.symm⟩)]
   rfl
  ·rw[if_neg c,if_neg c];rcases bT.mp h with rfl|h
   ·exact absurd e c
   ·rw[RD nd.2 h e]
theorem Uj{L:Nat}{k:Int}(a:f σ au=.ok (.ref L) au)(c:au[L]?=some (.dI kv0))(h:g σ au=.ok [.int k,d] st2)(e:st2[L]?=some (.dI kvs))(b:kvs.length<sizeLine)(i:eK kvs k=some v):gi f g σ au=.ok v st2:=by
 unfold gi;rw[a,zt];dsimp only;rw[c];dsimp only;rw[h,zt]
 try dsimp only
 rw[e]
 try dsimp only
 rw[if_pos b,i]
theorem Ui{L:Nat}{k:Int}(a:f σ au=.ok (.ref L) au)(c:au[L]?=some (.dI kv0))(h:g σ au=.ok [.int k,d] st2)(e:st2[L]?=some (.dI kvs))(b:kvs.length<sizeLine)(i:eK kvs k=none):gi f g σ au=.ok d (st2.set L (.dI (lK kvs k d))):=by
 unfold gi;rw[a,zt];dsimp only;rw[c];dsimp only;rw[h,zt]
 try dsimp only
 rw[e]
 try dsimp only
 rw[if_pos b,i]
theorem vj{b c:Type}{f:b->c}:∀{l:List b},(l.map f).Nodup->∀{x y:b},x∈l->y∈l->f x=f y->x=y
 |[],_,x,y,hx,_,_=>by cases hx
 |a::l,nd,x,y,hx,hy,e=>by
  rw[bP,iE] at nd;rcases bT.mp hx with h1|h1
  ·rcases bT.mp hy with h2|h2
   ·rw[h1,h2]
   ·exact absurd (cU.mpr ⟨y,h2,by rw[←e,h1]⟩) nd.1
  ·rcases bT.mp hy with h2|h2
   ·exact absurd (cU.mpr ⟨x,h1,by rw[e,h2]⟩) nd.1
   ·exact vj nd.2 h1 h2 e
theorem R3{d:aa}{L:Nat}{g:Lv}{r:List Int}{Q:D->aa->Prop}(h:gz d L g)(T:r.length<=1000)(S:∀x∈r,-10000<=x/\x<=10000)(hz:g.length<=10000)(Y:∀q∈g,q.2.2.length<=100000)
  (k:∀s,gz s L (bW d.length r g)->(∀i,i<d.length->i≠L->(∀q∈g,q.2.1≠i)->s[i]?=d[i]?)->d.length<=s.length->Q .non s):WP (vZ [.ref L,aL r] d) Q:=by
 refine fW rfl ?_;simp only[W,V,M];have em:=NF (au:=d) T S;have J:aB (aE uq (aB (aA 1) aC)) (aB eO aC) [some (.ref L),some (aL r)] d=.ok [.int (aj 1 r),.ref d.length] (d++[.dT []]):=by
  rw[oy,show aE uq (aB (aA 1) aC) [some (.ref L),some (aL r)] d=.ok (.int (aj 1 r)) d from em]
  rfl
 have U:=gP h.at_;have f:∀{i:Nat}{o:O},d[i]?=some o->(d++[O.dT []])[i]?=some o:=λe=>by rw[h8 (gP e)];exact e
 have m:(gF g).length<sizeLine:=by unfold gF;rw[av];exact cx _ '!'
 cases hf:g.find? λq=>decide (q.1=aj 1 r) with
 |some q=>
  have l:=SC hf;have n:q.1=aj 1 r:=by simpa using List.find?_some hf
  have E:q.2.1≠L:=λz=>by have:=h.in_ q l;rw[z,h.at_] at this;cases this
  refine WP.of (Uj rfl h.at_ J (f h.at_) m (by rw[EJ,hf];rfl)) ?_;refine WP.of (vq (f (h.in_ q l)) (by have:=Y q l;lia)) (k _ ?_ (λi A w p=>?_) (by rw[iY,dq];lia))
  ·rw[RD h.nd l n];refine⟨?_,λx hx=>?_,?_,?_,λx hx=>?_⟩
   ·rw[fj E,f h.at_]
    congr 2
    unfold gF;rw[fJ];refine(mo λy j=>?_).symm;simp only[Function.comp];split<;>rfl
   ·obtain⟨y,j,rfl⟩:=cU.mp hx;by_cases c:y.1=aj 1 r
    ·have I:y=q:=vj h.nd j l (c.trans n.symm);subst I;rw[if_pos c];exact l9 (gP (f (h.in_ y j)))
    ·rw[if_neg c];have C:q.2.1≠y.2.1:=λz=>c (by rw[←vj h.ix l j z];exact n)
     rw[fj C];exact f (h.in_ y j)
   ·rw[fJ];have:(g.map ((λx=>x.1) ∘ λx=>if x.1=aj 1 r then(x.1,x.2.1,aR x.2.2 r) else x))=g.map (·.1):=mo λy _=>by simp only[Function.comp];split<;>rfl
    rw[this];exact h.nd
   ·rw[fJ];have:(g.map ((λx=>x.2.1) ∘ λx=>if x.1=aj 1 r then(x.1,x.2.1,aR x.2.2 r) else x))=g.map (·.2.1):=mo λy _=>by simp only[Function.comp];split<;>rfl
    rw[this];exact h.ix
   ·obtain⟨y,j,rfl⟩:=cU.mp hx;split
    ·exact p7 (h.rows y j)
    ·exact h.rows y j
  ·rw[fj (p q l),h8 A]
 |none=>
  have H:∀q∈g,q.1≠aj 1 r:=λq l=>by simpa using List.find?_eq_none.mp hf q l
  have R:lK (gF g) (aj 1 r) (.ref d.length)=gF (g++[(aj 1 r,d.length,[r])]):=by
   unfold lK;rw[if_neg]
   ·unfold gF;rw[fX];rfl
   ·rw[Bool.not_eq_true,List.any_eq_false];intro x hx;obtain⟨y,j,rfl⟩:=cU.mp hx
    simpa using H y j
  have t:L≠d.length:=dY U;refine WP.of (Ui rfl h.at_ J (f h.at_) m (by rw[EJ,hf];rfl)) ?_;rw[R];have P:((d++[O.dT []]).set L (.dI (gF (g++[(aj 1 r,d.length,[r])]))))[d.length]?=some (.dT (aS [])):=by
   rw[fj t,mw (aY _),uF];rfl
  refine WP.of (vq P '%') (k _ ?_ (λi A w p=>?_) (by rw[iY,iY,dq];lia))
  ·rw[RC H,show aR [] r=[r] from rfl];have u:∀q∈g,q.2.1<d.length:=λq l=>gP (h.in_ q l)
   refine⟨?_,λx hx=>?_,?_,?_,λx hx=>?_⟩
   ·rw[fj t.symm,l9 (by rw[dq];lia)]
   ·rcases fh.mp hx with hx|hx
    ·have X:d.length≠x.2.1:=(dY (u x hx)).symm;have h2:L≠x.2.1:=λz=>by have:=h.in_ x hx;rw[←z,h.at_] at this;cases this
     rw[fj X,fj h2];exact f (h.in_ x hx)
    ·simp at hx;subst hx
     exact l9 (gP P)
   ·rw[fX,sL];refine⟨h.nd,by simp,λa G b v=>?_⟩;obtain⟨y,j,rfl⟩:=cU.mp G;simp at v;subst v
    exact H y j
   ·rw[fX,sL];refine⟨h.ix,by simp,λa G b v=>?_⟩;obtain⟨y,j,rfl⟩:=cU.mp G;simp at v;subst v
    exact dY (u y j)
   ·rcases fh.mp hx with hx|hx
    ·exact h.rows x hx
    ·simp at hx;subst hx;simp
  ·rw[fj (dY A).symm,fj w.symm,h8 A]
noncomputable abbrev Lr:=List (Int×List (List Int))
def dD(a:Lv):Lr:=a.map λq=>(q.1,q.2.2)
def cC(r:List Int):Lr->Lr
 |[]=>[(aj 1 r,[r])]
 |q::lr=>if q.1=aj 1 r then(q.1,aR q.2 r)::lr else q::cC r lr
theorem Co:∀{a:Lv},dD (bW n r a)=cC r (dD a)
 |[]=>rfl
 |q::a=>by
  unfold bW;show _=cC r ((q.1,q.2.2)::dD a);unfold cC;dsimp only;split
  ·rfl
  ·show(q.1,q.2.2)::dD (bW n r a)=_;rw[Co]
noncomputable def eV:List Nat->Nat->Nat
 |[],_=>0
 |t::ts,v=>bif Nat.beq v 0 then 0 else Nat.xor (bif Nat.beq (v%2) 1 then t else 0) (eV ts (v/2))
noncomputable def kM:Nat->Nat->Nat
 |0,_=>0
 |f+1,c=>bif Nat.beq c 0 then 0 else Nat.xor (2^(c%100-1)) (kM f (c/100))
noncomputable def Wq:List (List Nat):=[[2,0,5,6,0,0,9,11,0,14,0,16,17,0,19,0,0,23,0,25,27,28,0,30,0,32,0,0,35,0,37,0,40,41,0,43,0,46,47,0,0,50,0,52,54,0,0,57,58,0,60,0,63,0,66,67,0,0,70,0,72,73,0,76,77,0,0,80,81,0,83],[3,4,6,0,908,11,1211,15,15,18,0,19,21,22,0,2524,26,28,30,3130,32,0,3534,36,36,0,4038,41,4241,0,43,46,4846,49,49,0,5251,55,56,55,0,58,60,6160,64,0,65,66,0,7069,71,71,74,75,0,77,8078,81,8281,0,83],[5,6,0,0,11,0,16,19,19,23,0,0,27,28,0,30,32,0,0,37,0,0,41,43,43,0,46,0,50,0,0,0,57,58,58,0,60,66,67,66,0,0,0,72,76,0,77,0,0,81,83,83],[7,8,10,13,14,17,1918,21,252423,2826,3027,3129,32,353432,3633,3735,4038,4238,4340,444342,48,494745,5046,5148,5150,5554,57,5854,595855,57,59,66,6866,696564,6966,68,70,7875,7975,78,7776,78,80,8382],[9,11,14,17,0,0,23,27,30,32,0,3735,0,41,4340,0,46,5046,0,5250,57,5854,0,6057,60,66,0,0,7066,0,70,0,80,817776,81,80],[12,15,18,21,22,26,28,32,3534,0,4038,434241,0,46,4846,525149,0,5855,6055,616058,66,6564,7069,7166,717069,75,8078,8175,8281,8078,8281],[16,19,23,27,28,32,0,0,41,0,46,50,0,0,57,6058,0,66,66,72,0,7776,81,83,8381],[20,24,29,33,34,38,39,45,47,53,54,5856,62,63,6664,706967,73,74,807876,838279],[25,30,35,40,41,46,47,54,0,63,0,67,73,0,76,81],[31,36,42,48,49,55,56,64,65,74,75,77],[37,43,50,57,58,66,67,76,77],[44,51,59,68,69,78,79],[52,60,70,80,81],[61,71,82],[72,83],[84]]
def lQ:List (List Nat):=[]::Wq.map λl=>(l++List.replicate (84-l.length) 0).map (kM 3)
noncomputable def cT:List (List Int):=[[],[1],[2],[2,1],[3],[3,1],[4],[4,1],[5],[4,2],[5,1],[6],[4,2,1],[5,2],[6,1],[7],[5,2,1],[6,2],[7,1],[8],[6,2,1],[6,3],[7,2],[8,1],[9],[6,3,1],[7,2,1],[7,3],[8,2],[9,1],[10],[7,3,1],[8,2,1],[8,3],[9,2],[10,1],[11],[8,3,1],[8,4],[9,2,1],[9,3],[10,2],[11,1],[12],[8,4,1],[9,3,1],[9,4],[10,2,1],[10,3],[11,2],[12,1],[13],[8,4,2],[9,4,1],[10,3,1],[10,4],[11,2,1],[11,3],[12,2],[13,1],[14],[8,4,2,1],[9,4,2],[10,4,1],[10,5],[11,3,1],[11,4],[12,2,1],[12,3],[13,2],[14,1],[15],[9,4,2,1],[10,4,2],[10,5,1],[11,4,1],[11,5],[12,3,1],[12,4],[13,2,1],[13,3],[14,2],[15,1],[16]]
def gf(a v:Nat):Nat:=eV (lQ.getD a []) v
theorem vA:∀a,eV a 0=0
 |[]=>rfl
 |_::_=>rfl
theorem mD(t:Nat)(a:List Nat)(v:Nat):eV (t::a) v=(if v%2=1 then t else 0)^^^eV a (v/2):=by
 by_cases c:v=0
 ·subst c;rw[vA,if_neg ')',Nat.zero_div,vA];rfl
 ·have b:Nat.beq v 0=false:=by
   cases h:Nat.beq v 0 with
   |false=>rfl
   |true=>exact absurd (gw h) c
  have e:(bif Nat.beq (v%2) 1 then t else 0)=if v%2=1 then t else 0:=by
   by_cases d:v%2=1
   ·rw[if_pos d,d];rfl
   ·have:v%2=0:=by lia
    rw[if_neg d,this];rfl
  show(bif Nat.beq v 0 then 0 else Nat.xor (bif Nat.beq (v%2) 1 then t else 0) (eV a (v/2)))=_;rw[b,e];rfl
theorem yJ(a b c d:Nat):(a^^^b)^^^(c^^^d)=(a^^^c)^^^(b^^^d):=by
 rw[h7,h7,←h7 b,←h7 c,sr b c]
theorem B3:∀(c:List Nat) (v w:Nat),eV c (v^^^w)=eV c v^^^eV c w
 |[],v,w=>by show 0=0^^^0;rw[qc]
 |t::c,v,w=>by
  rw[mD,mD,mD,Nat.xor_div_two,B3 c,yJ]
  congr 1
  have:=Nat.xor_mod_two_eq_one (a:=v) (b:=w);by_cases c1:v%2=1<;>by_cases c2:w%2=1<;>simp[c1,c2,this]
theorem Et(b:f 0=0)(c:∀v w,f (v^^^w)=f v^^^f w):∀(a:List Nat) (v:Nat),eV (a.map f) v=f (eV a v)
 |[],v=>b.symm
 |t::a,v=>by
  rw[bP,mD,mD,c,Et b c a]
  congr 1
  split
  ·rfl
  ·exact b.symm
theorem yi:∀(a b:List Nat) (v:Nat),a.length=b.length->eV (List.zipWith Nat.xor a b) v=eV a v^^^eV b v
 |[],[],v,_=>by show 0=0^^^0;rw[qc]
 |[],_::_,v,h=>by cases h
 |_::_,[],v,h=>by cases h
 |t::a,u::b,v,h=>by
  show eV (Nat.xor t u::List.zipWith Nat.xor a b) v=_;rw[mD,mD,mD,yi a b _ (by simpa using h),yJ]
  congr 1
  split
  ·rfl
  ·rfl
theorem Eu:∀(a:List Nat) (i:Nat),eV a (2^i)=a.getD i 0
 |[],i=>by simp[eV]
 |t::a,0=>by rw[mD];simp[vA]
 |t::a,i+1=>by
  rw[mD,if_neg (by rw[yL];lia),show 2^(i+1)/2=2^i by rw[yL];lia,Eu a i,oZ]
  rfl
theorem Cp(a:Nat):gf a 0=0:=vA _
theorem B2(a v w:Nat):gf a (v^^^w)=gf a v^^^gf a w:=B3 _ _ _
def cY(r:List Int) (v:Nat):Nat:=r.foldr (λa v=>gf a.toNat v) v
def nu(r:List Int):Nat:=cY r 1
def cX(l:'$'):Nat:=l.foldr (λr x=>nu r^^^x) 0
theorem oE(r s:List Int)(v:Nat):cY (r++s) v=cY r (cY s v):=by unfold cY;rw[List.foldr_append]
theorem EU:∀r,cY r 0=0
 |[]=>rfl
 |a::r=>by show gf _ (cY r 0)=0;rw[EU r,Cp]
theorem Es:∀r v w,cY r (v^^^w)=cY r v^^^cY r w
 |[],_,_=>rfl
 |a::r,v,w=>by show gf _ (cY r _)=gf _ (cY r v)^^^gf _ (cY r w);rw[Es r,B2]
theorem Rt:∀l m,cX (l++m)=cX l^^^cX m
 |[],m=>(oZ _).symm
 |r::l,m=>by show nu r^^^cX (l++m)=(nu r^^^cX l)^^^cX m;rw[Rt l m,h7]
theorem L7{l:'$'}(h:l.Perm m):cX l=cX m:=by
 induction h with
 |nil=>rfl
 |@cons x a b _ ih=>show nu x^^^cX a=nu x^^^cX b;rw[ih]
 |swap x y l=>show nu y^^^(nu x^^^cX l)=nu x^^^(nu y^^^cX l);rw[←h7,←h7,sr (nu y)]
 |trans _ _ a b=>exact a.trans b
theorem L6{l:'$'}(b:l.Nodup):cX (aR l r)=cX l^^^nu r:=by
 unfold aR;split
 ·rename_i h;have:∀{l:'$'},l.Nodup->r∈l->cX (l.filter λx=>decide (x≠r))=cX l^^^nu r:=λ{l}=>by
   induction l with
   |nil=>intro _ h;cases h
   |cons a l ih=>
    intro b h;rw[iE] at b;by_cases c:a=r
    ·subst c;have e:l.filter (λx=>decide (x≠a))=l:=Om.mpr λx d=>by
      rw[qh];intro z;subst z;exact b.1 d
     rw[mU '%',e];show cX l=(nu a^^^cX l)^^^nu a;rw[sr,←h7,qc,oZ]
    ·rw[mT (by simpa using c)];show nu a^^^cX (l.filter λx=>decide (x≠r))=(nu a^^^cX l)^^^nu r;rw[ih b.2 (by rcases bT.mp h with z|z;exact absurd z.symm c;exact z),h7]
  exact this b h
 ·rw[Rt];show cX l^^^(nu r^^^0)=_;rw[mK]
theorem Q1:∀(m l:'$'),l.Nodup->cX (m.foldl aR l)=cX l^^^cX m
 |[],l,_=>(mK _).symm
 |r::m,l,nd=>by
  rw[sJ,Q1 m _ (p7 nd),L6 nd];show _=cX l^^^(nu r^^^cX m);rw[h7]
def AK:List Int->List Nat
 |[x]=>lQ.getD x.toNat []
 |[x,y]=>(lQ.getD y.toNat []).map (gf x.toNat)
 |_=>[]
noncomputable def twosN(a b n:Nat):List (List Int):=((List.range n).filter λc=>Nat.beq (Nat.land (b-c-1) (a-2*c)) (a-2*c)).map λc=>if c=0 then[((a+b:Nat):Int)] else[((a+b-c:Nat):Int),(c:Int)]
def nl(a b:Nat):Bool:=bif Nat.blt a (2*b) then decide ((lQ.getD b []).map (gf a)=(twosN a b (a/2+1)).foldr (λtwo m=>List.zipWith Nat.xor (AK two) m) (List.replicate 84 0)) else true
theorem NJ:((List.range 17).all λa=>(List.range (17-a)).all λb=>bif Nat.blt 0 a&&Nat.blt 0 b then nl a b else true)=true:=by decide +kernel
theorem JX:(lQ.all λt=>Nat.beq t.length 84||Nat.beq t.length 0)=true/\((List.range 16).all λi=>Nat.beq (lQ.getD (i+1) []).length 84)=true:=by decide +kernel
theorem xi(h:1<=a)(b:a<=16):(lQ.getD a []).length=84:=by
 have:=dk.mp JX.2 (a-1) (bO.mpr '!');rw[show a-1+1=a by lia] at this;exact gw this
theorem Q0:∀n v,eV (List.replicate n 0) v=0
 |0,_=>rfl
 |n+1,v=>by
  rw[ml,mD,Q0 n];split<;>rfl
theorem Re{a b n:Nat}{two:List Int}(h:two∈twosN a b n):(two=[((a+b:Nat):Int)])\/∃c:Nat,0<c/\c<n/\two=[((a+b-c:Nat):Int),(c:Int)]:=by
 unfold twosN at h;obtain⟨c,d,rfl⟩:=cU.mp h;have d:=bO.mp (gA.mp d).1;by_cases z:c=0
 ·rw[if_pos z];exact .inl rfl
 ·rw[if_neg z];exact .inr ⟨c,by lia,d,rfl⟩
theorem xj(s:1<=a)(p:1<=b)(q:a+b<=16)(l:a<2*b)(v:Nat):(twosN a b (a/2+1)).foldr (λtwo x=>cY two v^^^x) 0=gf a (gf b v):=by
 have h:=NJ;have h:=dk.mp h a (bO.mpr '!');have h:=dk.mp h b (bO.mpr '!');rw[show(Nat.blt 0 a&&Nat.blt 0 b)=true by rw[iF];exact⟨pj '!',pj '!'⟩] at h;have h:nl a b=true:=h;unfold nl at h;rw[show Nat.blt a (2*b)=true from pj '!'] at h;have h:=iZ h;have j:=congrArg (λm=>eV m v) h;simp only[Et (Cp a) (B2 a)] at j;show _=gf a (eV (lQ.getD b []) v);rw[j];have f:∀(d:'$'),(∀two∈d,two∈twosN a b (a/2+1))->eV (d.foldr (λtwo m=>List.zipWith Nat.xor (AK two) m) (List.replicate 84 0)) v=d.foldr (λtwo x=>cY two v^^^x) 0/\(d.foldr (λtwo m=>List.zipWith Nat.xor (AK two) m) (List.replicate 84 0)).length=84:=λd=>by
  induction d with
  |nil=>intro _;exact⟨Q0 _ _,by simp⟩
  |cons two d ih=>
   intro i;obtain⟨n,g⟩:=ih λt k=>i t (cH _ k)
   have e:(AK two).length=84/\eV (AK two) v=cY two v:=by
    rcases Re (i two '%') with rfl|⟨c,o,r,rfl⟩
    ·exact⟨xi (by simp;lia) (by simp;lia),rfl⟩
    ·refine⟨?_,?_⟩
     ·show((lQ.getD (c:Int).toNat []).map _).length=_;rw[av];exact xi (by simp;lia) (by simp;lia)
     ·show eV ((lQ.getD (c:Int).toNat []).map _) v=_;rw[Et (Cp _) (B2 _)];rfl
   rw[Di,Di];refine⟨?_,by rw[List.length_zipWith,e.1,g];rfl⟩;rw[yi _ _ _ (by rw[e.1,g]),e.2,n]
 exact(f _ λ_ h=>h).1.symm
theorem Fi{a b:Nat}(j:1<=a)(g:1<=b)(e:a<2*b):∀{n:Nat},n<=a/2+1->aX a b n=twosN a b n:=λ{n} i=>by
 unfold aX twosN;have f:((List.range n).filter λ(c:Nat)=>gZ ((b:Int)-c-1) ((a:Int)-2*c))=(List.range n).filter λc=>Nat.beq (Nat.land (b-c-1) (a-2*c)) (a-2*c):=by
  refine List.filter_congr λc d=>?_
  have d:=bO.mp d;rw[show(b:Int)-c-1=((b-c-1:Nat):Int) by lia,show(a:Int)-2*c=((a-2*c:Nat):Int) by lia,Ma];generalize b-c-1=x;generalize a-2*c=y;show decide (Nat.land x y=y)=_;cases h:Nat.beq (Nat.land x y) y with
  |true=>exact d5 (gw h)
  |false=>exact dj (Nat.ne_of_beq_eq_false h)
 rw[f];refine mo λc d=>?_
 have d:=bO.mp (gA.mp d).1;unfold gX;by_cases z:c=0
 ·subst z;rw[if_pos rfl,if_neg '!'];rfl
 ·rw[if_neg z,if_pos '!']
  congr 1
  lia
theorem yk{f:List Int->List Int}{g:List Int->Nat}(w:Nat)(r:List Int)(h:∀two,nu (f two)=cY r (g two)):∀l:List (List Int),cX (l.map f)=cY r (l.foldr (λtwo x=>g two^^^x) 0)
 |[]=>(EU r).symm
 |two::l=>by
  show nu (f two)^^^cX (l.map f)=cY r (g two^^^l.foldr (λtwo x=>g two^^^x) 0);rw[yk w r h l,Es,h]
theorem HH{r:List Int}{p:Nat}{L:Nat}(h:ak r 16 L)(l:bh r p):cX (bt r p)=nu r:=by
 obtain⟨a,b,d,c,j⟩:=l;have o:p+1<r.length:=(cK.mp c).1;have t:=h.pos a (dF d);have n:=h.pos b (dF c);have i:r=r.take p++([a,b]++r.drop (p+2)):=by
  have m:r.drop p=a::r.drop (p+1):=by
   rw[jU '!']
   congr 1
   exact(cK.mp d).2
  have k:r.drop (p+1)=b::r.drop (p+2):=by
   rw[jU '!']
   congr 1
   exact(cK.mp c).2
  calc r=r.take p++r.drop p:=(kG p r).symm
   _=_:=by rw[m,k];simp
 have e:a+b<=16:=by
  have v:r.sum=(r.take p).sum+(a+(b+(r.drop (p+2)).sum)):=by
   conv=>lhs;rw[i]
   rw[js,js];simp;lia
  have u:=h.sum;have q:0<=(r.take p).sum:=jh λx f=>h.pos x (mR f)
  have s:0<=(r.drop (p+2)).sum:=jh λx f=>h.pos x (qv f)
  lia
 obtain⟨a,rfl⟩:=pr (show 0<=a by lia);obtain⟨b,rfl⟩:=pr (show 0<=b by lia);unfold bt;rw[dM,d,dM,c];simp only[uI];rw[L7 ((zj _).map _),show((a:Int)/2+1).toNat=a/2+1 by lia,Fi '!' '!' '!' (aY _)];rw[yk (g:=λtwo=>cY two (cY (r.drop (p+2)) 1)) 0 (r.take p) λtwo=>by unfold nu;rw[oE,oE]];rw[xj '!' '!' '!' '!']
 conv=>rhs;rw[i]
 unfold nu;rw[oE,oE];rfl
def kg(i a:Nat):Bool:=match cT[i]? with
 |none=>true
 |some r=>bif decide ((a:Int)+r.sum<=16)&&decide (2*r.headD 0<=(a:Int)) then(match cT[cT.idxOf ((a:Int)::r)]? with|some b=>decide (b=(a:Int)::r)|none=>false)&&Nat.beq ((lQ.getD a []).getD i 0) (2^cT.idxOf ((a:Int)::r)) else true
theorem T9:((List.range 84).all λi=>(List.range 17).all λa=>bif Nat.beq a 0 then true else kg i a)=true:=by decide +kernel
theorem Ev:cT.Nodup:=by decide +kernel
theorem oB:cT.length=84:=by decide +kernel
def iO(r:List Int):Prop:=∀p,¬ bh r p
theorem sf(h:db r=[]):iO r:=λp a=>by
 have:=Fu.mpr a;rw[h] at this;cases this
theorem iO.tail(h:iO (a::r)):iO r:=λp ⟨x,y,c,b,q⟩=>h (p+1) ⟨x,y,by simpa using c,by simpa using b,q⟩
theorem iO.head(h:iO (a::r))(d:1<=a):2*r.headD 0<=a:=by
 cases r with
 |nil=>simp;lia
 |cons b r=>
  have:=h 0;refine Classical.byContradiction λc=>this ⟨a,b,rfl,rfl,?_⟩
  simp at c;lia
theorem vB{L:Nat}:∀{r:List Int},ak r 16 L->iO r->∃i,cT[i]?=some r/\nu r=2^i
 |[],_,_=>⟨0,by decide +kernel,rfl⟩
 |a::r,h,hs=>by
  have n:=h.pos a '%';have b:=h.sum;rw[kB] at b;have o:0<=r.sum:=jh λx d=>h.pos x (cH _ d)
  obtain⟨i,e,l⟩:=vB (L:=L) (r:=r) ⟨λx d=>h.pos x (cH _ d),by lia,by have:=h.len;rw[dm] at this;lia⟩ hs.tail;have g:i<84:=by have:=(cK.mp e).1;rw[oB] at this;exact this
  have m:=hs.head n;obtain⟨a,rfl⟩:=pr (show 0<=a by lia);have k:=dk.mp (dk.mp T9 i (bO.mpr g)) a (bO.mpr '!');rw[show Nat.beq a 0=false by cases z:Nat.beq a 0 with|false=>rfl|true=>have:=gw z;lia] at k;have k:kg i a=true:=k;unfold kg at k;rw[e] at k;have k:(bif decide ((a:Int)+r.sum<=16)&&decide (2*r.headD 0<=(a:Int)) then(match cT[cT.idxOf ((a:Int)::r)]? with|some f=>decide (f=(a:Int)::r)|none=>false)&&Nat.beq ((lQ.getD a []).getD i 0) (2^cT.idxOf ((a:Int)::r)) else true)=true:=k;rw[d5 (show(a:Int)+r.sum<=16 by lia),d5 m] at k;simp only[Bool.and_true,cond_true] at k;rw[iF] at k;obtain⟨c,j⟩:=k;refine⟨cT.idxOf ((a:Int)::r),?_,?_⟩
  ·cases z:cT[cT.idxOf ((a:Int)::r)]? with
   |none=>rw[z] at c;cases c
   |some f=>
    rw[z] at c;rw[iZ c]
  ·show gf _ (nu r)=_;rw[l];show eV (lQ.getD a []) (2^i)=_;rw[Eu];exact gw j
def kn(l:'$'):Prop:=∀r∈l,ak r 16 6/\iO r
theorem yj(h:kn l) (d:cT[i]?=some x):(cX l).testBit i=decide (l.count x%2=1):=by
 induction l with
 |nil=>simp[cX]
 |cons r l b=>
  have b:=b λy k=>h y (cH _ k)
  obtain⟨j,a,e⟩:=vB (h r '%').1 (h r '%').2;show(nu r^^^cX l).testBit i=_;rw[yP,b,e,y9,yQ];by_cases c:j=i
  ·subst c;rw[d] at a;cases a;rw[d5 rfl,if_pos '%'];rcases OF (l.count x) with z|z
   ·rw[dj '!',d5 '!'];rfl
   ·rw[d5 z,dj '!'];rfl
  ·have:¬ r=x:=λz=>by
    subst z;obtain⟨n,g⟩:=cK.mp a;obtain⟨m,f⟩:=cK.mp d;exact c ((Do Ev).mp (g.trans f.symm))
   simp[c,this]
def gn(v:Nat):List (List Int):=aw (((List.range 84).filter λi=>v.testBit i).map λi=>cT.getD i [])
theorem xA(h:kn l)(m:l.Nodup):aw l=gn (cX l):=by
 unfold gn;refine RK (CO m ?_ λx=>?_)
 ·refine Dp _ (R:=λi j=>i≠j/\i<84/\j<84) ?_ ?_
  ·rintro i j ⟨q,p,n⟩ e;rw[dM,dM,cV (by rw[oB];exact p),cV (by rw[oB];exact n)] at e;exact q ((Do Ev).mp e)
  ·refine DY (R:=(·≠·)) (λ{a b} o f h=>⟨h,bO.mp (gA.mp o).1,bO.mp (gA.mp f).1⟩) (Dk.filter _)
 ·constructor
  ·intro g;obtain⟨i,k,r⟩:=vB (h x g).1 (h x g).2;have d:i<84:=by have:=(cK.mp k).1;rw[oB] at this;exact this
   refine cU.mpr ⟨i,gA.mpr ⟨bO.mpr d,?_⟩,by rw[dM,k];rfl⟩;rw[yj h k,yT m,if_pos g];rfl
  ·intro g;obtain⟨i,d,rfl⟩:=cU.mp g;obtain⟨d,f⟩:=gA.mp d;have d:=bO.mp d;have e:cT[i]?=some (cT.getD i []):=by rw[dM,cV (by rw[oB];exact d)];rfl
   rw[yj h e,yT m] at f;by_cases c:cT.getD i []∈l
   ·exact c
   ·rw[if_neg c] at f;simp at f
theorem pW{b:Type}[DecidableEq b]:∀{l m:List b},l.Nodup->(∀x∈l,x∈m)->l.length<=m.length
 |[],m,_,_=>ie _
 |a::l,m,nd,h=>by
  rw[iE] at nd;have c:a∈m:=h a '%';have f:=pW (l:=l) (m:=m.erase a) nd.2 λx d=>by
   refine(List.mem_erase_of_ne λe=>?_).mpr (h x (cH _ d));subst e;exact nd.1 d
  rw[List.length_erase_of_mem c] at f;have:0<m.length:=List.length_pos_of_mem c;rw[dm];lia
noncomputable def kl:Nat->Nat->List (List Int)
 |0,_=>[[]]
 |k+1,s=>[]::(List.range s).flatMap λa=>(kl k (s-1-a)).map λr=>((a+1:Nat):Int)::r
noncomputable def pL:Nat->Nat->Nat
 |0,_=>1
 |k+1,s=>1+((List.range s).map λa=>pL k (s-1-a)).sum
theorem PU:∀k s,(kl k s).length=pL k s
 |0,_=>rfl
 |k+1,s=>by
  unfold kl pL;rw[dm,List.length_flatMap,Nat.add_comm]
  congr 2
  refine mo λa _=>?_
  rw[av,PU k]
theorem PV:∀(k s:Nat) (r:List Int),ak r s k->r∈kl k s
 |0,s,r,h=>by
  have:=h.len;have:r=[]:=DQ.mp '!';subst this;simp[kl]
 |k+1,s,[],_=>by simp[kl]
 |k+1,s,a::r,h=>by
  have e:=h.pos a '%';have c:=h.sum;rw[kB] at c;have d:0<=r.sum:=jh λx b=>h.pos x (cH _ b)
  obtain⟨a,rfl⟩:=pr (show 0<=a by lia);unfold kl;refine cH _ (mN.mpr ⟨a-1,bO.mpr '!',cU.mpr ⟨r,PV k _ r ⟨λx b=>h.pos x (cH _ b),?_,?_⟩,?_⟩⟩)
  ·lia
  ·have:=h.len;rw[dm] at this;lia
  ·rw[show a-1+1=a by lia]
theorem Qo{l:'$'}(c:l.Nodup)(h:∀r∈l,ak r 16 6):l.length<=15000:=by
 have d:=pW c λr b=>PV 6 16 r (h r b)
 rw[PU] at d;have a:Nat.ble (pL 6 16) 15000=true:=by decide +kernel
 have a:=ij a;lia
theorem xf:∀{r:List Int}{k:Int},0<=k->(∀x∈r,1<=x)->0<=aj k r
 |[],k,_,_=>by simp[aj]
 |x::r,k,hk,h=>by
  have b:=xf (r:=r) (k:=k+1) '!' λy a=>h y (cH _ a)
  have d:=h x '%';have c:0<=k*x:=Df hk '!';unfold aj;lia
theorem xc:∀{r:List Int}{k:Int},0<=k->(∀x∈r,1<=x)->aj k r<=(k+r.length)*r.sum
 |[],k,_,_=>by simp[aj]
 |x::r,k,hk,h=>by
  have a:=xc (r:=r) (k:=k+1) '!' λy d=>h y (cH _ d)
  have f:=h x '%';have e:0<=((r.length:Int)+1)*x:=Df '!' '!';rw[kB,dm,Int.mul_add];unfold aj;have c:(k+((r.length+1:Nat):Int))*x=k*x+((r.length:Int)+1)*x:=by rw[←yK];congr 1;try lia
  have b:(k+1+(r.length:Int))*r.sum=(k+((r.length+1:Nat):Int))*r.sum:=by congr 1;push_cast;lia
  rw[c];rw[b] at a
  lia
theorem xb(h:ak r 16 6):0<=aj 1 r/\aj 1 r<=112:=by
 refine⟨xf '!' h.pos,C8 (xc '!' h.pos) ?_⟩;have c:=h.len;have b:=h.sum;have a:0<=r.sum:=jh h.pos
 calc (1+(r.length:Int))*r.sum<=7*r.sum:=SI '!' a
  _<=112:=by lia
structure iP (lr:Lr):Prop where
 nd:(lr.map (·.1)).Nodup
 row:∀q∈lr,∀r∈q.2,ak r 16 6/\aj 1 r=q.1
 key:∀q∈lr,0<=q.1/\q.1<=112
 rnd:∀q∈lr,q.2.Nodup
theorem iP.few(h:iP b):b.length<=113/\∀q∈b,q.2.length<=15000:=by
 refine⟨?_,λq a=>Qo (h.rnd q a) λr c=>(h.row q a r c).1⟩;have:=pW (m:=(List.range 113).map λ(i:Nat)=>(i:Int)) h.nd λx d=>by
  obtain⟨q,a,rfl⟩:=cU.mp d;have:=h.key q a;exact cU.mpr ⟨q.1.toNat,bO.mpr '!',by lia⟩
 simpa using this
theorem ux:∀{a:Lr}(q:Int×List (List Int)),q∈cC r a->q∈a\/(q.1=aj 1 r/\((q.2=[r]/\∀x∈a,x.1≠aj 1 r)\/∃l,(q.1,l)∈a/\q.2=aR l r))
 |[],q,h=>by
  unfold cC at h;simp at h;subst h;exact .inr ⟨rfl,.inl ⟨rfl,λx f=>by cases f⟩⟩
 |x::a,q,h=>by
  unfold cC at h;split at h
  ·rename_i c;rcases bT.mp h with rfl|h
   ·exact .inr ⟨c,.inr ⟨x.2,by simp,rfl⟩⟩
   ·exact .inl (cH _ h)
  ·rename_i c;rcases bT.mp h with rfl|h
   ·exact .inl '%'
   ·rcases ux q h with h|⟨e,⟨d,b⟩|⟨l,d,b⟩⟩
    ·exact .inl (cH _ h)
    ·refine .inr ⟨e,.inl ⟨d,λy hy=>?_⟩⟩;rcases bT.mp hy with rfl|hy
     ·exact c
     ·exact b y hy
    ·exact .inr ⟨e,.inr ⟨l,cH _ d,b⟩⟩
theorem Qc:∀{a:Lr},(a.map (·.1)).Nodup->((cC r a).map (·.1)).Nodup
 |[],_=>by simp[cC]
 |x::a,nd=>by
  rw[bP,iE] at nd;unfold cC;split
  ·rw[bP,iE];exact nd
  ·rename_i c;rw[bP,iE];refine⟨λz=>?_,Qc nd.2⟩;obtain⟨q,b,e⟩:=cU.mp z;rcases ux q b with h|⟨h,_⟩
   ·exact nd.1 (cU.mpr ⟨q,h,e⟩)
   ·exact c (e.symm.trans h)
theorem iP.flip(h:iP lr)(f:ak r 16 6):iP (cC r lr):=by
 refine⟨Qc h.nd,λq e x b=>?_,λq e=>?_,λq e=>?_⟩
 ·rcases ux q e with a|⟨a,⟨c,d⟩|⟨l,c,d⟩⟩
  ·exact h.row q a x b
  ·rw[c,eY] at b;subst b;exact⟨f,a.symm⟩
  ·rw[d,ln] at b;rcases b with⟨b,_⟩|⟨rfl,_⟩
   ·exact h.row _ c x b
   ·exact⟨f,a.symm⟩
 ·rcases ux q e with a|⟨a,_⟩
  ·exact h.key q a
  ·rw[a];exact xb f
 ·rcases ux q e with a|⟨a,⟨c,d⟩|⟨l,c,d⟩⟩
  ·exact h.rnd q a
  ·rw[c];simp
  ·rw[d];exact p7 (h.rnd _ c)
def gG(a:Lr) (x:List Int):Prop:=∃q∈a,x∈q.2
theorem LI(h:iP b)(o:ak r 16 6):gG (cC r b) x↔(gG b x/\x≠r)\/(x=r/\¬ gG b r):=by
 have g:∀{b:Lr},(b.map (·.1)).Nodup->(∀q∈b,∀r∈q.2,aj 1 r=q.1)->(gG (cC r b) x↔(gG b x/\x≠r)\/(x=r/\¬ gG b r)):=λ{b}=>by
  induction b with
  |nil=>
   intro _ _;unfold cC gG;simp
  |cons a b ih=>
   intro l i;rw[bP,iE] at l;have f:∀y,gG (a::b) y↔y∈a.2\/gG b y:=λy=>by unfold gG;simp
   unfold cC;split
   ·rename_i c;have n:¬ gG b r:=λ⟨q,d,k⟩=>l.1 (cU.mpr ⟨q,d,by rw[c];exact(i q (cH _ d) r k).symm⟩)
    have j:gG ((a.1,aR a.2 r)::b) x↔x∈aR a.2 r\/gG b x:=by unfold gG;simp
    rw[j,ln,f,f];by_cases e:x=r
    ·subst e;simp[n]
    ·simp[e]
   ·rename_i c;have j:gG (a::cC r b) x↔x∈a.2\/gG (cC r b) x:=by unfold gG;simp
    have m:r∉a.2:=λz=>c (i a '%' r z).symm
    rw[j,ih l.2 λq d=>i q (cH _ d),f,f];by_cases e:x=r
    ·subst e;simp[m]
    ·simp[e]
 exact g h.nd λq d x k=>(h.row q d x k).2
def stepK(a:'$') (z:List Int×Nat):List (List Int):=(z.1::bt z.1 z.2).foldl aR a
def eQ(a:'$') (q:List (List Int×Nat)):List (List Int):=q.foldl stepK a
def lX:List (List Int)->List (List Int×Nat)->Prop
 |_,[]=>True
 |ks,z::q=>z.1∈ks/\bh z.1 z.2/\lX (stepK ks z) q
theorem lX.snoc:∀{q:List (List Int×Nat)}{b:'$'}{z:List Int×Nat},lX b q->z.1∈eQ b q->bh z.1 z.2->lX b (q++[z])
 |[],b,z,_,h1,h2=>⟨h1,h2,trivial⟩
 |a::q,b,z,h,h1,h2=>⟨h.1,h.2.1,lX.snoc h.2.2 h1 h2⟩
theorem eQ.snoc:eQ ks (q++[z])=stepK (eQ ks q) z:=by unfold eQ;rw[qi];rfl
theorem Fc{m:'$'}(h:x∈m.foldl aR ks):x∈ks\/x∈m:=by
 induction m generalizing ks with
 |nil=>exact .inl h
 |cons a m ih=>
  rcases ih h with h|h
  ·rw[ln] at h;rcases h with⟨h,_⟩|⟨rfl,_⟩
   ·exact .inl h
   ·exact .inr '%'
  ·exact .inr (cH _ h)
theorem Qd{m b:'$'}(h:b.Nodup):(m.foldl aR b).Nodup:=by
 induction m generalizing b with
 |nil=>exact h
 |cons a m ih=>exact ih (p7 h)
structure bS (ks:List (List Int)):Prop where
 nd:ks.Nodup
 row:∀r∈ks,ak r 16 6
theorem bS.few(h:bS ks):ks.length<=15000:=Qo h.nd h.row
theorem bS.step(h:bS ks)(a:z.1∈ks)(b:bh z.1 z.2):bS (stepK ks z)/\cX (stepK ks z)=cX ks:=by
 refine⟨⟨Qd h.nd,λr hr=>?_⟩,?_⟩
 ·rcases Fc hr with hr|hr
  ·exact h.row r hr
  ·rcases bT.mp hr with rfl|hr
   ·exact h.row _ a
   ·exact Fb (h.row _ a) b r hr
 ·unfold stepK;rw[Q1 _ _ h.nd];show cX ks^^^(nu z.1^^^cX (bt z.1 z.2))=_;rw[HH (h.row _ a) b,qc,mK]
theorem bS.walk:∀{q:List (List Int×Nat)}{e:'$'},bS e->lX e q->bS (eQ e q)/\cX (eQ e q)=cX e
 |[],e,h,_=>⟨h,rfl⟩
 |z::q,e,h,w=>by
  obtain⟨a,b⟩:=h.step w.1 w.2.1;obtain⟨c,d⟩:=bS.walk a w.2.2;exact⟨c,d.trans b⟩
theorem Qx(h:bS c)(w:lX c q)(s:∀x∈eQ c q,iO x):aw (eQ c q)=gn (cX c):=by
 obtain⟨a,b⟩:=h.walk w;rw[xA (λr d=>⟨a.row r d,s r d⟩) a.nd,b]
def gu(c:'$') (b:Lr):Lr:=c.foldl (λa r=>cC r a) b
structure iw (au:aa) (L:Nat) (lv:Lv) (ms:List (List Int)) (s:aa) (lv':Lv):Prop where
 at_:gz s L lv'
 eq:dD lv'=gu ms (dD lv)
 keep:∀i,i<au.length->i≠L->(∀q∈lv,q.2.1≠i)->s[i]?=au[i]?
 len:au.length<=s.length
 ix:∀q∈lv',au.length<=q.2.1\/∃q0∈lv,q0.2.1=q.2.1
theorem iw.refl{L:Nat}(h:gz au L lv):iw au L lv [] au lv:=⟨h,rfl,λ_ _ _ _=>rfl,aY _,λq a=>.inr ⟨q,a,rfl⟩⟩
theorem QS:∀{a:Lv},∀q∈bW n r a,q.2.1=n\/∃b∈a,b.2.1=q.2.1
 |[],q,hq=>by
  unfold bW at hq;simp at hq;subst hq;exact .inl rfl
 |x::a,q,hq=>by
  unfold bW at hq;split at hq
  ·rcases bT.mp hq with rfl|hq
   ·exact .inr ⟨x,by simp,rfl⟩
   ·exact .inr ⟨q,cH _ hq,rfl⟩
  ·rcases bT.mp hq with rfl|hq
   ·exact .inr ⟨q,by simp,rfl⟩
   ·rcases QS q hq with h|⟨b,d,c⟩
    ·exact .inl h
    ·exact .inr ⟨b,cH _ d,c⟩
theorem iw.snoc{L:Nat}{m:'$'}{r:List Int}(a:iw au L lv m s b)(h:gz s2 L (bW s.length r b))(k:∀i,i<s.length->i≠L->(∀q∈b,q.2.1≠i)->s2[i]?=s[i]?)(l:s.length<=s2.length):
  iw au L lv (m++[r]) s2 (bW s.length r b):=by
 refine⟨h,?_,λi o n d=>?_,ax a.len l,λq d=>?_⟩
 ·rw[Co,a.eq];unfold gu;rw[qi];rfl
 ·have u:=a.len;rw[k i '!' n λq g=>?_,a.keep i o n d];rcases a.ix q g with c|⟨j,c,e⟩
  ·lia
  ·rw[←e];exact d j c
 ·rcases QS q d with c|⟨j,c,e⟩
  ·exact .inl (by rw[c];exact a.len)
  ·rcases a.ix j c with f|⟨t,f,p⟩
   ·exact .inl (by rw[←e];exact f)
   ·exact .inr ⟨t,f,p.trans e⟩
theorem yc(h:iP (dD a)):a.length<=113/\∀q∈a,q.2.2.length<=15000:=by
 refine⟨by have:=h.few.1;unfold dD at this;rwa [av] at this,λq b=>h.few.2 (q.1,q.2.2) (cU.mpr ⟨q,b,rfl⟩)⟩
theorem xy(h:ak r 16 6):r.length<=1000/\∀x∈r,-10000<=x/\x<=10000:=⟨by have:=h.len;lia,λx a=>by have:=se h x a;lia⟩
theorem Er{L:Nat}{f:'$'}(h:gz au L lv)(v:iP (dD lv))(j:∀r∈f,ak r 16 6)
  (k:∀s a d,iw au L lv f s a->iP (dD a)->Q (.nx [S0,some (.ref L),S2,S3,S4,S5,d]) s):WP (dU (gN 6) EL (aJ f) [S0,some (.ref L),S2,S3,S4,S5,v6] au) Q:=by
 refine gl (λi g s=>∃a d,g=[S0,some (.ref L),S2,S3,S4,S5,d]/\iw au L lv (f.take i) s a/\iP (dD a)) ⟨lv,v6,rfl,.refl h,v⟩ ?_ ?_
 ·rintro i x g s p ⟨a,d,rfl,t,c⟩;obtain⟨r,e,rfl⟩:=jg p;have w:=(cK.mp e).1;have b:=xy (j r (dF e));have z:=yc c;have m:=j r (dF e);refine⟨[S0,some (.ref L),S2,S3,S4,S5,some (aL r)],rfl,?_⟩;unfold EL;simp only[W,V,M];refine R3 t.at_ b.1 b.2 '!' (λq o=>by have:=z.2 q o;lia) λy n l u=>?_
  simp only[W,V,Dd.L];refine⟨bW s.length r a,_,rfl,?_,?_⟩
  ·rw[zg e];exact t.snoc n l u
  ·rw[Co];exact c.flip m
 ·rintro g s ⟨a,d,rfl,t,c⟩;rw[ze] at t;rw[fi] at t;exact k s a d t c
theorem LF{L:Nat}{f:'$'}(h:gz au L lv)(v:iP (dD lv))(j:∀r∈f,ak r 16 6)
  (k:∀s a d,iw au L lv f s a->iP (dD a)->Q (.nx [S0,some (.ref L),d,S3,S4,S5,S6]) s):WP (dU (gN 2) Cb (aJ f) [S0,some (.ref L),v2,S3,S4,S5,S6] au) Q:=by
 refine gl (λi g s=>∃a d,g=[S0,some (.ref L),d,S3,S4,S5,S6]/\iw au L lv (f.take i) s a/\iP (dD a)) ⟨lv,v2,rfl,.refl h,v⟩ ?_ ?_
 ·rintro i x g s p ⟨a,d,rfl,t,c⟩;obtain⟨r,e,rfl⟩:=jg p;have w:=(cK.mp e).1;have b:=xy (j r (dF e));have z:=yc c;have m:=j r (dF e);refine⟨[S0,some (.ref L),some (aL r),S3,S4,S5,S6],rfl,?_⟩;unfold Cb;simp only[W,V,M];refine R3 t.at_ b.1 b.2 '!' (λq o=>by have:=z.2 q o;lia) λy n l u=>?_
  simp only[W,V,Dd.L];refine⟨bW s.length r a,_,rfl,?_,?_⟩
  ·rw[zg e];exact t.snoc n l u
  ·rw[Co];exact c.flip m
 ·rintro g s ⟨a,d,rfl,t,c⟩;rw[ze] at t;rw[fi] at t;exact k s a d t c
def gx(q:List (List Int×Nat)):List D:=q.map λz=>.tup [aL z.1,.int z.2]
def gW(a:Lr×List (List Int×Nat)) (r:List Int):Lr×List (List Int×Nat):=match db r with
 |[]=>a
 |p::_=>(gu (bt r p) a.1,a.2++[(r,p)])
structure Wy (s0:aa) (b:Nat) (L M:Nat) (s:aa) (lv:Lv) (q:List (List Int×Nat)):Prop where
 at_:gz s L lv
 stp:s[M]?=some (.lst (gx q))
 ne:M≠L
 ni:∀x∈lv,x.2.1≠M
 bL:b<=L
 bM:b<=M
 bI:∀x∈lv,b<=x.2.1
 low:∀i,i<b->s[i]?=s0[i]?
 bs:b<=s.length
theorem gz.more{L:Nat}(h:gz s L lv)(g:aa):gz (s++g) L lv:=
 ⟨by rw[h8 (gP h.at_)];exact h.at_,λq a=>by rw[h8 (gP (h.in_ q a))];exact h.in_ q a,h.nd,h.ix,h.rows⟩
theorem Wy.more{b L M:Nat}(h:Wy s0 b L M s lv q)(g:aa):Wy s0 b L M (s++g) lv q:=
 ⟨h.at_.more g,by rw[h8 (gP h.stp)];exact h.stp,h.ne,h.ni,h.bL,h.bM,h.bI,λi a=>by rw[h8 (df a h.bs)];exact h.low i a,by rw[dq];have:=h.bs;lia⟩
theorem Wy.put{b L M:Nat}(h:Wy s0 b L M s lv q):Wy s0 b L M (s.set M (.lst (gx q++[.tup [aL z.1,.int z.2]]))) lv (q++[z]):=by
 refine⟨⟨?_,λx a=>?_,h.at_.nd,h.at_.ix,h.at_.rows⟩,?_,h.ne,h.ni,h.bL,h.bM,h.bI,λi c=>?_,by rw[iY];exact h.bs⟩
 ·rw[fj h.ne];exact h.at_.at_
 ·rw[fj (h.ni x a).symm];exact h.at_.in_ x a
 ·rw[l9 (gP h.stp)];unfold gx;rw[fX];rfl
 ·have:=h.bM;rw[fj '!'];exact h.low i c
theorem Wy.to{b L M:Nat}{g:'$'}(h:Wy s0 b L M s lv q)(t:iw s L lv g s2 lv'):Wy s0 b L M s2 lv' q:=by
 have f:=gP h.stp;refine⟨t.at_,?_,h.ne,λx c=>?_,h.bL,h.bM,λx c=>?_,λi e=>?_,ax h.bs t.len⟩
 ·rw[t.keep M f h.ne h.ni];exact h.stp
 ·rcases t.ix x c with a|⟨y,a,d⟩
  ·lia
  ·rw[←d];exact h.ni y a
 ·rcases t.ix x c with a|⟨y,a,d⟩
  ·exact ax h.bs a
  ·rw[←d];exact h.bI y a
 ·have a:=h.bs;have d:=h.bL;rw[t.keep i '!' '!' λx c=>by have:=h.bI x c;lia];exact h.low i e
theorem LR{b L M:Nat}{n:'$'}(h:Wy s0 b L M au lv q)(X:iP (dD lv))(hq:q.length+n.length<=10000000)(U:∀r∈n,ak r 16 6)
  (k:∀s c d t m l,Wy s0 b L M s c d->(dD c,d)=n.foldl gW (dD lv,q)->iP (dD c)->d.length<=q.length+n.length->Q (.nx [S0,some (.ref L),t,some (.ref M),S4,m,l]) s):
  WP (dU (gN 2) EM (aJ n) [S0,some (.ref L),v2,some (.ref M),S4,v5,v6] au) Q:=by
 refine gl (λi I s=>∃c d t m l,I=[S0,some (.ref L),t,some (.ref M),S4,m,l]/\Wy s0 b L M s c d/\(dD c,d)=(n.take i).foldl gW (dD lv,q)/\iP (dD c)/\d.length<=q.length+i) ⟨lv,q,v2,v5,v6,rfl,h,rfl,X,aY _⟩ ?_ ?_
 ·rintro i x I s hx ⟨c,d,t,m,l,rfl,u,w,f,C⟩;obtain⟨r,G,rfl⟩:=jg hx;have hi:=(cK.mp G).1;have o:=U r (dF G);have rl:=o.len;refine⟨[S0,some (.ref L),some (aL r),some (.ref M),S4,m,l],rfl,?_⟩;have T:(n.take (i+1)).foldl gW (dD lv,q)=gW (dD c,d) r:=by rw[zg G,qi,←w];rfl
  unfold EM;simp only[W,V,Dd.M];refine WP.of (Ta '!') ?_
  try simp only[W,V,Dd.M]
  cases hp:db r with
  |nil=>
   refine⟨false,rfl,?_⟩;rw[if_neg ')'];refine⟨c,d,_,_,_,rfl,u,?_,f,by lia⟩;rw[T];unfold gW;rw[hp]
  |cons p ps=>
   refine⟨true,rfl,?_⟩;rw[if_pos rfl];have H:bh r p:=Fu.mp (by rw[hp];simp);have A:=yx o H;have E:p+1<r.length:=by obtain⟨a,b,_,z,_⟩:=H;exact(cK.mp z).1
   have hex:=RS r p;have S:∀s:aa,cB (.lst (AG (p::ps))) (.int 0) s=.ok (.int p) s:=λs=>lc rfl (PY (j:=0) rfl)
   refine⟨_,_,rfl,u.stp,WP.of (S s) ⟨small _ '%',_,_,rfl,u.stp,by unfold gx;rw[av,iC];lia,WP.of (S _) ?_⟩⟩;have J:=u.put (z:=(r,p));obtain⟨g,e⟩:=Sn (au:=s.set M (.lst (gx d++[.tup [aL r,.int p]]))) (r:=r) (p:=p) E '!' A.1.1 '!' '!' '!';refine WP.of e ⟨_,rfl,?_⟩;have v:=J.more g;refine Er v.at_ f (Fb o H) λs2 P Y R y=>?_
   refine⟨P,d++[(r,p)],_,_,_,rfl,v.to R,?_,y,by rw[dq,uX];lia⟩;rw[T];unfold gW;rw[hp]
   show _=(gu (bt r p) (dD c),d++[(r,p)])
   rw[R.eq]
 ·rintro I s ⟨c,d,t,m,l,rfl,u,w,f,C⟩;rw[ze] at w C;rw[fi] at w;exact k s c d t m l u w f C
def cm(a:Lr):Int:=match a.map (·.1) with
 |[]=>0
 |k::ks=>cL true k ks
def kN(a:Lr) (m:Int):Lr:=a.filter λq=>decide (q.1≠m)
def gs(a:Lv) (m:Int):Lv:=a.filter λq=>decide (q.1≠m)
theorem JF:dD (gs lv m)=kN (dD lv) m:=by
 unfold dD gs kN;rw[NW];rfl
theorem JD:iM (gF lv) m=gF (gs lv m):=by
 unfold iM gF gs;rw[NW];rfl
theorem Wy.less{b L M:Nat}{m:Int}(h:Wy s0 b L M s lv q):Wy s0 b L M (s.set L (.dI (gF (gs lv m)))) (gs lv m) q:=by
 have sub:∀x∈gs lv m,x∈lv:=λx a=>(gA.mp a).1
 have d:∀x∈lv,x.2.1≠L:=λx a z=>by have:=h.at_.in_ x a;rw[z,h.at_.at_] at this;cases this
 refine⟨⟨l9 (gP h.at_.at_),λx a=>?_,?_,?_,λx a=>h.at_.rows x (sub x a)⟩,?_,h.ne,λx a=>h.ni x (sub x a),h.bL,h.bM,λx a=>h.bI x (sub x a),λi c=>?_,by rw[iY];exact h.bs⟩
 ·rw[fj (d x (sub x a)).symm];exact h.at_.in_ x (sub x a)
 ·exact h.at_.nd.sublist (Dy.map _)
 ·exact h.at_.ix.sublist (Dy.map _)
 ·rw[fj h.ne.symm];exact h.stp
 ·have:=h.bL;rw[fj '!'];exact h.low i c
structure Iv (k0:List (List Int)) (m:Int) (lr:Lr) (rs:List (List Int)) (q:List (List Int×Nat)):Prop where
 wk:lX k0 q
 g:iP lr
 lt:∀x∈lr,x.1<m
 low:∀x,aj 1 x<m->(x∈eQ k0 q↔gG lr x)
 rs_:∀x∈rs,aj 1 x=m/\x∈eQ k0 q
 rn:rs.Nodup
 high:∀x∈eQ k0 q,m<=aj 1 x->x∈rs\/iO x
theorem Na(G:iP lr)(a:ak r 16 6)(b:aj 1 r<m)(h:∀x,aj 1 x<m->(x∈ks↔gG lr x)):∀x,aj 1 x<m->(x∈aR ks r↔gG (cC r lr) x):=λx c=>by
 rw[ln,LI G a,h x c,h r b]
theorem Fq:∀{ms:'$'}{lr:Lr}{ks:'$'},iP lr->(∀r∈ms,ak r 16 6/\aj 1 r<m)->(∀x,aj 1 x<m->(x∈ks↔gG lr x))->iP (gu ms lr)/\∀x,aj 1 x<m->(x∈ms.foldl aR ks↔gG (gu ms lr) x)
 |[],lr,ks,G,_,h=>⟨G,h⟩
 |r::ms,lr,ks,G,hm,h=>Fq (ms:=ms) (G.flip (hm r '%').1) (λx a=>hm x (cH _ a)) (Na G (hm r '%').1 (hm r '%').2 h)
theorem QT:∀{ms a:'$'},(∀r∈ms,x≠r)->(x∈ms.foldl aR a↔x∈a)
 |[],a,_=>Iff.rfl
 |r::ms,a,h=>by
  rw[sJ,QT (ms:=ms) λy b=>h y (cH _ b),ln];have:=h r '%';simp[this]
theorem ES:∀{ms:'$'}{a:Lr},(∀r∈ms,aj 1 r<m)->(∀x∈a,x.1<m)->∀x∈gu ms a,x.1<m
 |[],a,_,h=>h
 |r::ms,a,hm,h=>ES (ms:=ms) (λx c=>hm x (cH _ c)) λx c=>by
  rcases ux x c with b|⟨b,_⟩
  ·exact h x b
  ·rw[b];exact hm r '%'
theorem Iv.row(K:bS k0)(h:Iv k0 m lr (r::rs) q):Iv k0 m (gW (lr,q) r).1 rs (gW (lr,q) r).2:=by
 obtain⟨o,_⟩:=K.walk h.wk;have f:=h.rs_ r '%';have n:=iE.mp h.rn;unfold gW;cases hp:db r with
 |nil=>
  refine⟨h.wk,h.g,h.lt,h.low,λx a=>h.rs_ x (cH _ a),n.2,λx a i=>?_⟩;rcases h.high x a i with z|z
  ·rcases bT.mp z with rfl|z
   ·exact .inr (sf hp)
   ·exact .inl z
  ·exact .inr z
 |cons p ps=>
  have k:bh r p:=Fu.mp (by rw[hp];simp);have c:=o.row r f.2;have l:∀z∈bt r p,ak z 16 6/\aj 1 z<m:=λz g=>⟨Fb c k z g,by rw[←f.1];exact LX c.pos k g⟩
  have u:∀x,aj 1 x<m->(x∈aR (eQ k0 q) r↔gG lr x):=λx a=>by
   rw[ln,←h.low x a];have:x≠r:=λe=>by rw[e,f.1] at a;lia
   simp[this]
  obtain⟨s,t⟩:=Fq h.g l u;have d:∀x,m<=aj 1 x->(x∈stepK (eQ k0 q) (r,p)↔x∈eQ k0 q/\x≠r):=λx a=>by
   show x∈(bt r p).foldl aR (aR (eQ k0 q) r)↔_;rw[QT λy v e=>by have:=(l y v).2;rw[←e] at this;lia,ln];have:=f.2;constructor
   ·rintro(z|⟨rfl,z⟩)
    ·exact z
    ·exact absurd this z
   ·exact λz=>.inl z
  refine⟨h.wk.snoc f.2 k,s,ES (λz g=>(l z g).2) h.lt,λx a=>?_,λx a=>?_,n.2,λx a i=>?_⟩
  ·rw[eQ.snoc];exact t x a
  ·have b:=h.rs_ x (cH _ a);rw[eQ.snoc];refine⟨b.1,(d x (by rw[b.1];exact Int.le_refl _)).mpr ⟨b.2,λe=>?_⟩⟩;subst e;exact n.1 a
  ·rw[eQ.snoc] at a;obtain⟨a,j⟩:=(d x i).mp a;rcases h.high x a i with z|z
   ·rcases bT.mp z with e|z
    ·exact absurd e j
    ·exact .inl z
   ·exact .inr z
theorem Iv.rows(K:bS k0):∀{rs:'$'}{a:Lr}{q:List (List Int×Nat)},Iv k0 m a rs q->Iv k0 m (rs.foldl gW (a,q)).1 [] (rs.foldl gW (a,q)).2
 |[],a,q,h=>h
 |r::rs,a,q,h=>Iv.rows (rs:=rs) K (h.row K)
theorem BR:∀{b:Lr},b≠[]->(∃l,(cm b,l)∈b)/\∀x∈b,x.1<=cm b
 |[],h=>absurd rfl h
 |a::b,_=>by
  obtain⟨c,i⟩:=EQ (b.map (·.1)) a.1;have e:cm (a::b)=cL true a.1 (b.map (·.1)):=rfl;rw[e];refine⟨?_,λx g=>i _ (by rw[←bP (f:=λq:Int×List (List Int)=>q.1)];exact cU.mpr ⟨x,g,rfl⟩)⟩;rw[←bP (f:=λq:Int×List (List Int)=>q.1)] at c;obtain⟨q,d,e⟩:=cU.mp c;exact⟨q.2,by rw[←e];exact d⟩
theorem Iv.next(h:Iv k0 m lr [] q)(d:(cm lr,l)∈lr):Iv k0 (cm lr) (kN lr (cm lr)) (aw l) q:=by
 have j:lr≠[]:=λe=>by rw[e] at d;cases d
 have top:=(BR j).2;have o:cm lr<m:=h.lt _ d;have sub:∀x∈kN lr (cm lr),x∈lr/\x.1≠cm lr:=λx a=>by
  obtain⟨f,g⟩:=gA.mp a;exact⟨f,iZ g⟩
 have i:∀x∈lr,x.1=cm lr->x.2=l:=λx a e=>by
  have:=vj h.g.nd a d e;rw[this]
 refine⟨h.wk,⟨h.g.nd.sublist (Dy.map _),λx a=>h.g.row x (sub x a).1,λx a=>h.g.key x (sub x a).1,λx a=>h.g.rnd x (sub x a).1⟩,λx a=>?_,λx a=>?_,λx a=>?_,?_,λx a p=>?_⟩
 ·have f:=sub x a;have g:=top x f.1;have n:=f.2;lia
 ·rw[h.low x '!'];constructor
  ·rintro⟨y,c,b⟩;refine⟨y,gA.mpr ⟨c,d5 λe=>?_⟩,b⟩;have:=(h.g.row y c x b).2;lia
  ·rintro⟨y,c,b⟩;exact⟨y,(sub y c).1,b⟩
 ·have a:=(zj l).mem_iff.mp a;have e:=(h.g.row _ d x a).2;have e:aj 1 x=cm lr:=e;exact⟨e,(h.low x '!').mpr ⟨_,d,a⟩⟩
 ·exact(zj l).nodup_iff.mpr (h.g.rnd _ d)
 ·rcases Int.lt_or_le (aj 1 x) m with z|z
  ·obtain⟨y,c,b⟩:=(h.low x z).mp a;have e:=(h.g.row y c x b).2;have k:=top y c;exact .inl ((zj l).mem_iff.mpr (by rw[←i y c '!'];exact b))
  ·rcases h.high x a z with z|z
   ·cases z
   ·exact .inr z
theorem Iv.end_(h:Iv b m [] [] q):∀x∈eQ b q,iO x:=λx a=>by
 rcases Int.lt_or_le (aj 1 x) m with z|z
 ·obtain⟨y,c,_⟩:=(h.low x z).mp a;cases c
 ·rcases h.high x a z with z|z
  ·cases z
  ·exact z
theorem Iv.start(K:bS k0):Iv k0 113 (gu k0 []) [] []:=by
 have d:∀r∈k0,ak r 16 6/\aj 1 r<113:=λr f=>⟨K.row r f,by have:=xb (K.row r f);lia⟩
 obtain⟨g,h⟩:=Fq (m:=113) (ms:=k0) (lr:=[]) (ks:=[]) ⟨by simp,λq b=>(by cases b),λq b=>(by cases b),λq b=>(by cases b)⟩ d λx _=>by unfold gG;simp
 have e:∀x,x∈k0.foldl aR []↔x∈k0:=λx=>by
  have:=(pY k0 [] o6).2.2 x;rw[this,yT K.nd];by_cases c:x∈k0<;>simp[c]
 refine⟨trivial,g,ES (λz i=>(d z i).2) (λx a=>(by cases a)),λx a=>?_,λx a=>(by cases a),o6,λx a j=>?_⟩
 ·rw[←h x a,e];rfl
 ·have:=(d x a).2;lia
theorem KR{L:Nat}(a:f σ au=.ok (.ref L) au)(h:au[L]?=some (.dI kvs)):jF f σ au=.ok (!kvs.isEmpty) au:=by
 unfold jF;rw[a,zt];dsimp only;rw[h]
theorem JL{L:Nat}(h:au[L]?=some (.dI (gF lv)))(b:lv≠[]):hU [.ref L] au=.ok (.int (cm (dD lv))) au:=by
 unfold hU;dsimp only;rw[h];cases lv with
 |nil=>exact absurd rfl b
 |cons a lv=>
  show bu.ok (D.int (cL true a.1 ((gF lv).map (·.1)))) au=.ok (D.int (cL true a.1 ((dD lv).map (·.1)))) au
  congr 3
  unfold gF dD;rw[fJ,fJ];rfl
theorem Ko{L:Nat}{k:Int}(a:f σ au=.ok (.ref L) au)(h:au[L]?=some (.dI kvs))(b:g σ au=.ok [.int k] au)(c:eK kvs k=some v):kS f g σ au=.ok v (au.set L (.dI (iM kvs k))):=by
 unfold kS;rw[a,zt];dsimp only
 rw[h];dsimp only
 rw[b,zt];try dsimp only
 rw[h];try dsimp only
 rw[c]
theorem Tp{au:aa}(h:∀i,i<au.length->s[i]?=au[i]?)(a:au.length<=s.length):s=au++s.drop au.length:=by
 refine Ds λi=>?_
 rcases j8 i au.length with z|z
 ·rw[h i z,h8 z]
 ·rw[mw z,qp];congr 1;lia
structure SQ (ks:List (List Int)) (q:List (List Int×Nat)):Prop where
 wk:lX ks q
 fin:∀x∈eQ ks q,iO x
 len:q.length<=2000000
theorem M3{c:aa}{g:'$'}{T:SS}(K:bS g)(k:∀q M s h u p o,SQ g q->s[M]?=some (.lst (gx q))->c.length<=M->(∀i,i<c.length->s[i]?=c[i]?)->WP (T [some (aK g),some (.ref c.length),h,some (.ref M),u,p,o] s) QQ):
  WP (aD (aF 1 i9) (aD (ba (aH (aA 0)) (gN 2) Cb) (aD (aF 3 (bZ aC)) (aD (cM (jF (aA 1)) EN) T))) [some (aK g),none,none,none,none,none,none] c) QQ:=by
 simp only[W,V];refine WP.of (show i9 _ c=.ok (.ref c.length) (c++[.dI []]) from rfl) ?_
 try simp only[W,V]
 refine⟨_,rfl,?_⟩;have a0:gz (c++[O.dI []]) c.length []:=⟨by simp;rfl,λq e=>(by cases e),by simp,by simp,λq e=>(by cases e)⟩
 refine LF (lv:=[]) a0 ⟨by simp[dD],λq e=>(by cases e),λq e=>(by cases e),λq e=>(by cases e)⟩ K.row λs b h t G=>?_
 simp only[W,V];refine⟨small _ '%',?_⟩;have E:=t.len;rw[dq,uX] at E;have Q:∀x∈b,c.length+1<=x.2.1:=λx H=>by
  rcases t.ix x H with z|⟨y,w,_⟩
  ·rw[dq,uX] at z;exact z
  ·cases w
 have d:Wy c c.length c.length s.length (s++[.lst []]) b []:=by
  refine⟨t.at_.more _,by simp;rfl,by lia,λx H=>dY (gP (t.at_.in_ x H)),aY _,by lia,λx H=>by have:=Q x H;lia,λi hi=>?_,by rw[dq];lia⟩;rw[h8 '!',t.keep i (by rw[dq];lia) '!' λq e=>(by cases e),h8 hi]
 have f:Iv g (113:Nat) (dD b) [] []:=by
  rw[t.eq];exact Iv.start K
 generalize s.length=M at d;refine vH (λj σ s=>∃b q h u p o,σ=[some (aK g),some (.ref c.length),h,some (.ref M),u,p,o]/\Wy c c.length c.length M s b q/\Iv g (j:Int) (dD b) [] q/\q.length+15000*j<=15000*113) (k:=113) ⟨b,[],_,_,_,_,rfl,d,f,by simp⟩ '!' ?_;rintro j σ s ⟨b,q,h,u,p,o,rfl,d,f,ql⟩;refine WP.of (KR rfl d.at_.at_) ?_;cases b with
 |nil=>
  rw[if_neg (by simp[gF])];simp only[W];exact k q M s _ _ _ _ ⟨f.wk,f.end_,by lia⟩ d.stp d.bM d.low
 |cons a lv0=>
  rw[if_pos (by simp[gF])];generalize hlv:a::lv0=b at *
  have I:b≠[]:=by rw[←hlv];simp
  have C:dD b≠[]:=by rw[←hlv];simp[dD]
  clear hlv a lv0;obtain⟨⟨l,v⟩,_⟩:=BR C;obtain⟨y,w,Y⟩:=cU.mp (show(cm (dD b),l)∈b.map λq=>(q.1,q.2.2) from v);have e1:y.1=cm (dD b):=congrArg Prod.fst Y;have e2:y.2.2=l:=congrArg Prod.snd Y;have ev:eK (gF b) (cm (dD b))=some (.ref y.2.1):=by
   rw[EJ];cases hf:b.find? λq=>decide (q.1=cm (dD b)) with
   |none=>exact absurd e1 (by simpa using List.find?_eq_none.mp hf y w)
   |some z=>
    have h1:z.1=cm (dD b):=by simpa using List.find?_some hf
    rw[vj d.at_.nd (SC hf) w (h1.trans e1.symm)];rfl
  have eg:aB (aE hU (aB (aA 1) aC)) aC [some (aK g),some (.ref c.length),h,some (.ref M),u,p,o] s=.ok [.int (cm (dD b))] s:=by
   rw[oy,show aE hU (aB (aA 1) aC) [some (aK g),some (.ref c.length),h,some (.ref M),u,p,o] s=_ from JL d.at_.at_ I]
   rfl
  unfold EN;simp only[W,V];refine WP.of (Ko rfl d.at_.at_ eg ev) ?_;rw[JD]
  try simp only[W,V]
  have J:y.2.1≠c.length:=λz=>by have:=d.at_.in_ y w;rw[z,d.at_.at_] at this;cases this
  have S:(s.set c.length (.dI (gF (gs b (cm (dD b))))))[y.2.1]?=some (.dT (aS l)):=by
   rw[fj J.symm,←e2];exact d.at_.in_ y w
  have X:=f.g.few.2 _ v;have X:l.length<=15000:=X;refine WP.of (Fx S '!') ⟨_,rfl,?_⟩;have n:=f.next v;have R:=d.less (m:=cm (dD b));rw[←JF] at n;have sl:(aw l).length=l.length:=v8 l;have tj:cm (dD b)<j:=f.lt _ v;have t0:0<=cm (dD b):=(f.g.key _ v).1;refine LR R n.g '!' (λr hr=>(f.g.row _ v r ((zj l).mem_iff.mp hr)).1) λs3 U q3 x2 x5 x6 P ee g3 a1=>?_
  refine⟨(cm (dD b)).toNat,by lia,U,q3,_,_,_,_,rfl,P,?_,by lia⟩;have A:=n.rows K;rw[←ee] at A;rw[Int.toNat_of_nonneg t0];exact A
theorem IK(K:bS ks)(k:∀q g,SQ ks q->Q (.lst (gx q)) (au++g)):WP (oJ [aK ks] au) Q:=by
 refine fW rfl ?_;refine M3 K λq M s l f j h w b d a=>?_
 simp only[W,V,Dd.M];refine⟨_,_,rfl,b,?_⟩;have e:=Tp (s:=s.set M .dead) (au:=au) (λi c=>by rw[fj '!'];exact a i c) (by rw[iY];have:=gP b;lia);rw[e];exact k q _ w
theorem Uu(K:bS ks)(w:lX ks q)(k:∀g,Q (aK (aw (eQ ks q))) (au++g)):WP (Cy [aK ks,.lst (gx q)] au) Q:=by
 refine fW rfl ?_;simp only[W,V];refine WP.of (U5 K.nd (by have:=K.few;lia)) ?_
 try simp only[W,V]
 refine⟨_,rfl,?_⟩;refine gl (λi h s=>∃o l g,h=[some (aK ks),some (.lst (gx q)),'"',o,l]/\s=au++.dT (aS (eQ ks (q.take i)))::g/\bS (eQ ks (q.take i))/\lX (eQ ks (q.take i)) (q.drop i)) ⟨_,_,[],rfl,rfl,K,w⟩ ?_ ?_
 ·rintro i x h s m ⟨o,l,g,rfl,rfl,a,j⟩;unfold gx at m;rw[eU] at m;obtain⟨z,f,rfl⟩:=gQ.mp m;have t:=(cK.mp f).1;have A:q.drop i=z::q.drop (i+1):=by
   rw[jU t];congr 1;exact(cK.mp f).2
  have c:q.take (i+1)=q.take i++[z]:=zg f;rw[A] at j;obtain⟨d,r,u⟩:=j;have b:=a.row _ d;have y:=yx b r;refine⟨[some (aK ks),some (.lst (gx q)),'"',some (aL z.1),some (.int z.2)],rfl,?_⟩;unfold R0;simp only[W,V];obtain⟨v,e⟩:=Vp (au:=au++.dT (aS (eQ ks (q.take i)))::g) (n:=au.length) (p:=z.2) '%' a.nd (by have:=a.few;lia) d (by have:=b.len;lia) r y.1.1 '!' '!' '!';refine WP.of e ?_;simp only[L];refine⟨_,_,g++v,rfl,?_,?_,?_⟩
  ·rw[c,eQ.snoc];unfold stepK;simp
  ·rw[c,eQ.snoc];exact(a.step d r).1
  ·rw[c,eQ.snoc];exact u
 ·rintro h s ⟨o,l,g,rfl,rfl,a,j⟩;rw[show(gx q).length=q.length from av ..,fi] at *
  simp only[W,V];refine WP.of (Fx (n:=au.length) (ks:=eQ ks q) '%' (by have:=a.few;lia)) ?_;exact WP.of (show bi [.lst (aJ (aw (eQ ks q)))] _=.ok (aK (aw (eQ ks q))) _ from rfl) (k _)
theorem Uk(K:bS ks)(k:∀g,Q (aK (gn (cX ks))) (au++g)):WP (vL [aK ks] au) Q:=by
 refine fW rfl ?_;simp only[W,V];refine IK K λq g w=>?_
 refine Uu K w.wk λa=>?_
 rw[Qx K w.wk w.fin,dE];exact k _
noncomputable def tq(r:List Int):Bool:=(r.all λx=>decide (1<=x))&&decide (r.sum<=16)&&Nat.ble r.length 6
theorem Kz(h:tq r=true):ak r 16 6:=by
 unfold tq at h;rw[iF,iF] at h;exact⟨λx a=>iZ (dk.mp h.1.1 x a),iZ h.1.2,ij h.2⟩
end Dd
namespace K45
end K45
namespace Dd
open L2 K07 K23
def fe(l:'$') (v:Nat):Nat:=l.foldr (λr x=>cY r v^^^x) 0
theorem xh(l:'$'):cX l=fe l 1:=rfl
theorem Ru:∀(l m:'$') (v:Nat),fe (l++m) v=fe l v^^^fe m v
 |[],m,v=>(oZ _).symm
 |r::l,m,v=>by show cY r v^^^fe (l++m) v=(cY r v^^^fe l v)^^^fe m v;rw[Ru l m,h7]
theorem Cr{l:'$'}(h:l.Perm m)(v:Nat):fe l v=fe m v:=by
 induction h with
 |nil=>rfl
 |@cons x a b _ ih=>show cY x v^^^fe a v=cY x v^^^fe b v;rw[ih]
 |swap x y l=>show cY y v^^^(cY x v^^^fe l v)=cY x v^^^(cY y v^^^fe l v);rw[←h7,←h7,sr (cY y v)]
 |trans _ _ a b=>exact a.trans b
theorem Me{l:'$'}(a:l.Nodup)(v:Nat):fe (aR l r) v=fe l v^^^cY r v:=by
 by_cases h:r∈l
 ·have p:l.Perm (r::aR l r):=by
   refine CO a (iE.mpr ⟨λz=>?_,p7 a⟩) λx=>?_
   ·rw[ln] at z;rcases z with⟨_,z⟩|⟨_,z⟩
    ·exact z rfl
    ·exact z h
   ·rw[bT,ln];by_cases c:x=r
    ·subst c;simp[h]
    ·simp[c]
  rw[Cr p v];show _=(cY r v^^^fe (aR l r) v)^^^cY r v;rw[sr,←h7,qc,oZ]
 ·have e:aR l r=l++[r]:=by unfold aR;rw[if_neg h]
  rw[e,Ru];show fe l v^^^(cY r v^^^0)=_;rw[mK]
theorem Q4(v:Nat):∀(m l:'$'),l.Nodup->fe (m.foldl aR l) v=fe l v^^^fe m v
 |[],l,_=>(mK _).symm
 |r::m,l,nd=>by
  rw[sJ,Q4 v m _ (p7 nd),Me nd];show _=fe l v^^^(cY r v^^^fe m v);rw[h7]
theorem yq{f:List Int->List Int}{g:List Int->Nat}(r:List Int)(v:Nat)(h:∀two,cY (f two) v=cY r (g two)):∀l:List (List Int),fe (l.map f) v=cY r (l.foldr (λtwo x=>g two^^^x) 0)
 |[]=>(EU r).symm
 |two::l=>by
  show cY (f two) v^^^fe (l.map f) v=cY r (g two^^^l.foldr (λtwo x=>g two^^^x) 0);rw[yq r v h l,Es,h]
theorem HM{r:List Int}{p:Nat}{L:Nat}(v:Nat)(h:ak r 16 L)(q:bh r p):fe (bt r p) v=cY r v/\∀z∈bt r p,z.sum=r.sum:=by
 obtain⟨a,b,f,e,n⟩:=q;have y:p+1<r.length:=(cK.mp e).1;have u:=h.pos a (dF f);have w:=h.pos b (dF e);have l:r=r.take p++([a,b]++r.drop (p+2)):=by
  have o:r.drop p=a::r.drop (p+1):=by
   rw[jU '!']
   congr 1
   exact(cK.mp f).2
  have s:r.drop (p+1)=b::r.drop (p+2):=by
   rw[jU '!']
   congr 1
   exact(cK.mp e).2
  calc r=r.take p++r.drop p:=(kG p r).symm
   _=_:=by rw[o,s];simp
 have j:r.sum=(r.take p).sum+(a+(b+(r.drop (p+2)).sum)):=by
  conv=>lhs;rw[l]
  rw[js,js];simp;lia
 have i:a+b<=16:=by
  have G:=h.sum;have A:0<=(r.take p).sum:=jh λx k=>h.pos x (mR k)
  have E:0<=(r.drop (p+2)).sum:=jh λx k=>h.pos x (qv k)
  lia
 obtain⟨a,rfl⟩:=pr (show 0<=a by lia);obtain⟨b,rfl⟩:=pr (show 0<=b by lia);unfold bt;rw[dM,f,dM,e];simp only[uI];refine⟨?_,λz m=>?_⟩
 ·rw[Cr ((zj _).map _),show((a:Int)/2+1).toNat=a/2+1 by lia,Fi '!' '!' '!' (aY _)];rw[yq (g:=λtwo=>cY two (cY (r.drop (p+2)) v)) (r.take p) v λtwo=>by rw[oE,oE]];rw[xj '!' '!' '!' '!']
  conv=>rhs;rw[l]
  rw[oE,oE];rfl
 ·obtain⟨two,d,rfl⟩:=cU.mp m;have d:=(zj _).mem_iff.mp d;rw[show((a:Int)/2+1).toNat=a/2+1 by lia,Fi '!' '!' '!' (aY _)] at d;rw[js,js,j];rcases Re d with rfl|⟨c,t,C,rfl⟩
  ·simp;lia
  ·simp;lia
theorem Ez(v:Nat):∀{q:List (List Int×Nat)}{e:'$'},bS e->lX e q->fe (eQ e q) v=fe e v/\∀d:Int,(∀r∈e,r.sum=d)->∀r∈eQ e q,r.sum=d
 |[],e,h,_=>⟨rfl,λ_ h=>h⟩
 |z::q,e,h,w=>by
  obtain⟨a,b⟩:=h.step w.1 w.2.1;obtain⟨c,d⟩:=Ez v a w.2.2;obtain⟨i,g⟩:=HM v (h.row _ w.1) w.2.1;refine⟨c.trans ?_,λn f=>d n λr hr=>?_⟩
  ·unfold stepK;rw[Q4 v _ _ h.nd];show fe e v^^^(cY z.1 v^^^fe (bt z.1 z.2) v)=_;rw[i,qc,mK]
  ·rcases Fc hr with hr|hr
   ·exact f r hr
   ·rcases bT.mp hr with rfl|hr
    ·exact f _ w.1
    ·rw[g r hr];exact f _ w.1
theorem xF(K:bS b):∀(n j:Nat),j<=n->∀(lr:Lr) (q:List (List Int×Nat)),Iv b (j:Int) lr [] q->∃e,lX b e/\∀x∈eQ b e,iO x
 |0,j,hj,lr,q,h=>by
  by_cases c:lr=[]
  ·subst c;exact⟨q,h.wk,h.end_⟩
  ·obtain⟨⟨l,a⟩,_⟩:=BR c;have g:cm lr<(j:Int):=h.lt _ a;have f:0<=cm lr:=(h.g.key _ a).1;lia
 |n+1,j,hj,lr,q,h=>by
  by_cases c:lr=[]
  ·subst c;exact⟨q,h.wk,h.end_⟩
  ·obtain⟨⟨l,a⟩,_⟩:=BR c;have g:cm lr<(j:Int):=h.lt _ a;have f:0<=cm lr:=(h.g.key _ a).1;have d:=(h.next a).rows K;rw[show cm lr=((cm lr).toNat:Int) by lia] at d;exact xF K n (cm lr).toNat '!' _ _ d
structure WE (ks:List (List Int)):Prop where
 op:∀v,fe (gn (cX ks)) v=fe ks v
 ok:bS (gn (cX ks))
 au:kn (gn (cX ks))
 sum:∀d:Int,(∀r∈ks,r.sum=d)->∀r∈gn (cX ks),r.sum=d
theorem IA(K:bS ks):WE ks:=by
 obtain⟨q,w,s⟩:=xF K 113 113 (aY _) _ _ (Iv.start K);have e:=Qx K w s;obtain⟨b,_⟩:=K.walk w;refine⟨λv=>?_,⟨?_,λr a=>?_⟩,λr a=>?_,λd c r a=>?_⟩
 ·rw[←e,Cr (zj _)];exact(Ez v K w).1
 ·rw[←e];exact(zj _).nodup_iff.mpr b.nd
 ·rw[←e] at a;exact b.row r ((zj _).mem_iff.mp a)
 ·rw[←e] at a;have a:=(zj _).mem_iff.mp a;exact⟨b.row r a,s r a⟩
 ·rw[←e] at a;exact(Ez 0 K w).2 d c r ((zj _).mem_iff.mp a)
theorem KH:(cT.all λr=>decide ((2:Int)^r.length<=r.sum+1))=true:=by decide +kernel
theorem yA(h:ak r 16 6)(s:iO r):(2:Int)^r.length<=r.sum+1:=by
 obtain⟨i,e,_⟩:=vB h s;exact iZ (dk.mp KH r (dF e))
theorem KS(e:ak a 16 6)(d:ak b 16 6)(g:iO a)(f:iO b)(h:a.sum+b.sum<=16):ak (a++b) 16 6:=by
 have l:=yA e g;have k:=yA d f;refine⟨λx hx=>?_,by rw[js];exact h,?_⟩
 ·rcases fh.mp hx with hx|hx
  ·exact e.pos x hx
  ·exact d.pos x hx
 ·rw[dq];have i:=e.len;have j:=d.len;rcases j8 6 (a.length+b.length) with z|z
  ·exfalso
   have c:∀x∈List.range 7,∀y∈List.range 7,6<x+y->(18:Int)<2^x+2^y:=by decide +kernel
   have:=c a.length (bO.mpr '!') b.length (bO.mpr '!') z;lia
  ·exact z
theorem K0(a:f σ au=.ok (.tup xs) au)(q:Q xs.reverse au):WP (nD f σ au) Q:=by
 unfold nD;rw[a];exact q
theorem KJ(v:Nat):(gn v).length<=84:=by
 unfold gn;rw[v8,av];have:=uW (λi=>v.testBit i) (List.range 84)
 rwa [nZ] at this
theorem IS(a:'$')(x:List Int):(aQ a).count x%2=a.count x%2:=by
 have e:=rq a;have b:x∈aQ a↔a.count x%2=1:=by unfold aQ;rw[(zj _).mem_iff,rb]
 by_cases c:x∈aQ a
 ·have d:(aQ a).count x<=1:=List.nodup_iff_count.mp e x;have f:0<(aQ a).count x:=yZ.mpr c;have:=b.mp c;lia
 ·have d:(aQ a).count x=0:=uM.mpr c;rcases OF (a.count x) with z|z
  ·rw[d,z]
  ·exact absurd (b.mpr z) c
theorem Mb{a b:'$'}(h:∀x,a.count x%2=b.count x%2):aQ a=aQ b:=vt (vS a) λx=>by rw[rb,h x]
end Dd
namespace K47
end K47
namespace Dd
open L2 K13
end Dd
namespace K08
end K08
namespace Dd
open L2 K13
theorem Ua{a b:'$'}(h:∀x,a.count x%2=b.count x%2):aQ a=aQ b:=vt (vS a) λx=>by rw[rb,h x]
theorem TW(a:'$')(x:List Int):(aQ a).count x%2=a.count x%2:=by
 have d:=rq a;have b:x∈aQ a↔a.count x%2=1:=by unfold aQ;rw[(zj _).mem_iff,rb]
 by_cases c:x∈aQ a
 ·have e:(aQ a).count x<=1:=List.nodup_iff_count.mp d x;have f:0<(aQ a).count x:=yZ.mpr c;have:=b.mp c;lia
 ·have e:(aQ a).count x=0:=uM.mpr c;have:¬ a.count x%2=1:=λz=>c (b.mpr z)
  lia
noncomputable abbrev Row:=List Int
noncomputable def kI{a:Type}(l:List a) (c:a->Nat):Nat:=(l.map c).sum
theorem E7{b:Type}(a:b)(l:List b)(c:b->Nat):kI (a::l) c=c a+kI l c:=by simp[kI]
theorem Uo{d:Type}(a b:List d)(c:d->Nat):kI (a++b) c=kI a c+kI b c:=by simp[kI]
theorem MY{d:Type}{a b:List d}(h:a.Perm b)(c:d->Nat):kI a c=kI b c:=(h.map c).sum_nat
theorem Qu(c:Row->Nat):∀(n:Nat) (l:List Row),l.length<=n->(∀x,l.count x%2=0)->kI l c%2=0
 |_,[],_,_=>rfl
 |0,_::_,h,_=>by simp at h
 |n+1,y::l,hn,h=>by
  have d:=h y;rw[List.count_cons_self] at d;have b:y∈l:=yZ.mp '!';have p:=List.perm_cons_erase b;have e:=Qu c n (l.erase y) (by rw[List.length_erase_of_mem b];simp at hn;lia) λx=>by
   have a:=h x;rw[yQ,p.count_eq,yQ] at a;split at a<;>lia
  rw[E7,MY p,E7];lia
theorem KQ{a b:List Row}(c:Row->Nat)(h:∀x,a.count x%2=b.count x%2):kI a c%2=kI b c%2:=by
 have:=Qu c _ (a++b) (aY _) λx=>by rw[uK];have:=h x;lia
 rw[Uo] at this;lia
noncomputable def xr{a:Type}(l:List a) (f:a->Nat):Nat:=l.foldr (λx b=>f x^^^b) 0
section
variable {α β:Type}
theorem iz(x:α):xr (x::l) f=f x^^^xr l f:=rfl
theorem vN:∀(l m:List α),xr (l++m) f=xr l f^^^xr m f
 |[],m=>(oZ _).symm
 |x::l,m=>by rw[kE,iz,iz,vN l m,h7]
theorem uj(h:β->α):∀l:List β,xr (l.map h) f=xr l λx=>f (h x)
 |[]=>rfl
 |x::l=>by rw[bP,iz,iz,uj h l]
theorem vz(h:β->List α):∀l:List β,xr (l.flatMap h) f=xr l λx=>xr (h x) f
 |[]=>rfl
 |x::l=>by rw[Dq,vN,iz,vz h l]
theorem jZ:∀{l:List α},(∀x∈l,f x=g x)->xr l f=xr l g
 |[],_=>rfl
 |x::l,h=>by rw[iz,iz,h x (eF ..),jZ λy a=>h y (cH _ a)]
theorem yF:∀l:List α,xr l (λ_=>0)=0
 |[]=>rfl
 |x::l=>by rw[iz,yF l];rfl
theorem yI(a b c d:Nat):(a^^^b)^^^(c^^^d)=(a^^^c)^^^(b^^^d):=by
 rw[h7,h7,←h7 b,←h7 c,sr b c]
theorem xG:∀l:List α,xr l (λx=>f x^^^g x)=xr l f^^^xr l g
 |[]=>by show 0=0^^^0;rw[qc]
 |x::l=>by rw[iz,iz,iz,xG l,yI]
theorem Fo(p:α->Bool):∀l:List α,xr (l.filter p) f=xr l λx=>if p x=true then f x else 0
 |[]=>rfl
 |x::l=>by
  rw[iz,←Fo p l];by_cases c:p x=true
  ·rw[mT c,iz,if_pos c]
  ·rw[mU c,if_neg c,oZ]
theorem IL(f:Nat->Nat)(N:Nat):xr (List.range (N+1)) f=xr (List.range N) f^^^f N:=by
 rw[sK,vN];show _^^^(f N^^^0)=_;rw[mK]
end
theorem wA{a b:List Row}(h:∀x,a.count x%2=b.count x%2):xr a f=xr b f:=by
 have c:∀(l:List Row) (i:Nat),(xr l f).testBit i=decide (kI l (λx=>if(f x).testBit i=true then 1 else 0)%2=1):=λl i=>by
  induction l with
  |nil=>simp[xr,kI]
  |cons x l ih=>
   rw[iz,yP,ih,E7];cases(f x).testBit i
   ·simp
   ·simp only[hZ];rw[mf];simp;lia
 refine Nat.eq_of_testBit_eq λi=>?_
 rw[c,c,KQ _ h]
theorem Gz(l:List Row):xr (aQ l) f=xr l f:=wA (TW l)
theorem si(x:Row):∀l:List Row,xr l (λy=>if y=x then 1 else 0)=l.count x%2
 |[]=>rfl
 |a::l=>by
  rw[iz,si x l,yQ];have:=OF (l.count x);by_cases c:a=x
  ·rw[if_pos c,if_pos (by simpa using c)];rcases this with e|e<;>rw[e]
   ·show 1=_;lia
   ·show 0=_;lia
  ·rw[if_neg c,if_neg (by simpa using c),oZ];lia
theorem NL(h:∀f:Row->Nat,xr a f=xr b f):aQ a=aQ b:=Ua λx=>by rw[←si x a,←si x b,h]
namespace Tab
def u9:List RN:=(List.range 2).flatMap λd=>(List.range 3).flatMap λc=>(List.range 6).flatMap λb=>(List.range 17).flatMap λa=>bif Nat.ble (a+3*b+7*c+15*d) 16 then[nz [a,b,c,d]] else[]
def SO(s:RN):Nat:=gt s 0+17*gt s 1+102*gt s 2+306*gt s 3
def BA:List RN->Nat->Nat->Nat
 |[],_,i=>i
 |c::cs,x,i=>bif Nat.beq (SO c) x then i else BA cs x (i+1)
def jB(s:RN):Nat:=BA u9 (SO s) 0
def gj(j:Nat):RN:=u9.getD j []
noncomputable def Wr:List Nat:=[1,2,3,5,7,9,12,16,20,25,31,37,44,52,61,72,84,405,6,809,11,1516,19,2425,30,3637,43,5152,60,7172,83,101112,1416,1819,23,293031,3537,4243,50,596061,7072,8283,22232425,2830,3435,41,49505152,5860,6970,81,3941424344,475052,565861,6772,79818283,656769707172,778183,13141516,1719,21222425,272830,33343637,404143,48495152,575860,68697172,808183,262728,32,384041,46,555758,66,788081,45464748505152,545760,6465666970,767781,757677788081,5354555657596061,6366677072,7475777880818283,626364666768707172,73768083]
noncomputable def Tu:List Nat:=[1,2,3,418,4,19,5,620,6,72132,21,7,8223358,833,822,8,2359,2334,23,9,354360,243543,35,1024,10,256168,4461,2544,112536,25,11,69,1226374562,123745,1237,1226,12,276370,13384651,274663,46,2738,27,13,1428394752647175,71,143952,394764,283947,39,1428,14,152940485365727680,29486576,296572,15294853,4865,2948,152940,29,15,1630414954566673778183,1641547381,163054567377,1630495456,73,1654,1630414966,164149,1641,1630,16,315057677884,314257787982,50747879,315778,315057,316774,425055,315067,50,3142,31,17]
noncomputable def ldC:List Nat:=[0,1,2,4,6,8,11,15,19,24,30,36,43,51,60,71,83,3,5,7,10,14,18,23,29,35,42,50,59,70,82,9,13,17,22,28,34,41,49,58,69,81,21,27,33,40,48,57,68,80,38,46,55,66,78,64,76,12,16,20,26,32,39,47,56,67,79,25,31,37,45,54,65,77,44,53,63,75,74,52,62,73,61,72]
def lR:List Nat:=Wr.map (kM 9)
def jY:List Nat:=Tu.map (kM 11)
def mn(s:RN):Nat:=lR.getD (jB s) 0
def dg(i:Nat):List Int:=cT.getD i []
def eh(g:Nat->Nat) (v:Nat):Nat:=xr (List.range 84) λi=>if v.testBit i=true then g i else 0
def jW(n v:Nat):Nat:=eh (λi=>cY (dg i) v) n
def ez(s:RN):RN:=s.foldr (λx a=>(x+2*gt a 0)::a) []
def qJ(w:Nat) (x:RN):Bool:=Nat.blt (jB x) 84&&decide (gj (jB x)=x)&&Nat.beq (du 1 x) w
def AQ(a j:Nat):Bool:=bif Nat.ble (a+du 1 (gj j)) 16 then((aN [a] (gj j)).all (qJ (a+du 1 (gj j)))&&Nat.beq (xr (aN [a] (gj j)) mn) (gf a (lR.getD j 0))) else true
def AC(a j:Nat):Bool:=bif Nat.ble (a+du 1 (gj j)) 16 then((aN (gj j) [a]).all (qJ (a+du 1 (gj j)))&&Nat.beq (xr (aN (gj j) [a]) mn) (jW (lR.getD j 0) (gf a 1))) else true
def AR(j:Nat):Bool:=fA.contains (gj j)&&Nat.beq (jB (gj j)) j&&Nat.beq (eV jY (lR.getD j 0)) (2^j)&&(List.range 84).all (λi=>!(lR.getD j 0).testBit i||decide ((dg i).sum=(du 1 (gj j):Nat)))&&Nat.blt (lR.getD j 0) (2^84)&&Nat.beq (eV lR (jY.getD j 0)) (2^j)&&decide (aM (ez (gj j))=dg (ldC.getD j 0))&&Nat.beq (jY.getD (ldC.getD j 0) 0/2^j) 1&&Nat.blt (ldC.getD j 0) 84&&Nat.ble (du 1 (gj j)) 16&&Nat.beq (jY.getD j 0/2^84) 0&&(List.range 84).all (λi=>!(jY.getD j 0).testBit i||decide ((dg j).sum=(du 1 (gj i):Nat)))
theorem LM:(List.range 84).all AR=true:=by decide +kernel
theorem GS:fA.all (λs=>qJ (du 1 s) s)=true:=by decide +kernel
theorem LP:((List.range 16).all λa=>(List.range 84).all λj=>AQ (a+1) j)=true:=by decide +kernel
theorem MC:((List.range 16).all λa=>(List.range 84).all λj=>AC (a+1) j)=true:=by decide +kernel
theorem Js:((List.range 17).all λd=>Nat.ble ((u9.filter λs=>Nat.beq (du 1 s) d).length) 40)=true/\lR.length=84/\jY.length=84:=by decide +kernel
structure SU (j:Nat):Prop where
 mem:gj j∈fA
 ix:jB (gj j)=j
 zz:eV jY (lR.getD j 0)=2^j
 sum:∀i,i<84->(lR.getD j 0).testBit i=true->(dg i).sum=(du 1 (gj j):Nat)
 lt:lR.getD j 0<2^84
 mz:eV lR (jY.getD j 0)=2^j
 led:aM (ez (gj j))=dg (ldC.getD j 0)
 top:jY.getD (ldC.getD j 0) 0/2^j=1
 ld:ldC.getD j 0<84
 wt:du 1 (gj j)<=16
 zlt:jY.getD j 0<2^84
 zsum:∀i,i<84->(jY.getD j 0).testBit i=true->(dg j).sum=(du 1 (gj i):Nat)
theorem nB(h:j<84):SU j:=by
 have q:=dk.mp LM j (bO.mpr h);unfold AR at q;simp only[iF] at q;obtain⟨⟨⟨⟨⟨⟨⟨⟨⟨⟨⟨a,b⟩,c⟩,d⟩,e⟩,f⟩,g⟩,k⟩,l⟩,m⟩,n⟩,o⟩:=q;have p:∀(x:Nat) (w:Nat->Bool),(List.range 84).all (λi=>!x.testBit i||w i)=true->∀i,i<84->x.testBit i=true->w i=true:=λx w s i r u=>by
  have z:=dk.mp s i (bO.mpr r);rw[u] at z
  simpa using z
 refine⟨by simpa using a,gw b,gw c,λi r u=>iZ (p _ _ d i r u),?_,gw f,iZ g,gw k,?_,ij m,?_,λi r u=>iZ (p _ _ o i r u)⟩
 ·exact ij e
 ·exact ij l
 ·have:=gw n;rcases Nat.div_eq_zero_iff.mp this with z|z
  ·exact absurd z ')'
  ·exact z
theorem wj(h:qJ w x=true):jB x<84/\gj (jB x)=x/\du 1 x=w:=by
 unfold qJ at h;simp only[iF] at h;exact⟨ij h.1.1,iZ h.1.2,gw h.2⟩
theorem jx(h:s∈fA):jB s<84/\gj (jB s)=s:=let ⟨a,b,_⟩:=wj (dk.mp GS s h);⟨a,b⟩
theorem O1(h:s∈fA):du 1 s<=16:=by
 obtain⟨a,b⟩:=jx h;have:=(nB a).wt
 rwa [b] at this
theorem MO(v w:Nat):eh g (v^^^w)=eh g v^^^eh g w:=by
 unfold eh;rw[←xG];refine jZ λi _=>?_
 rw[yP];cases v.testBit i<;>cases w.testBit i<;>simp
theorem Tl:eh g 0=0:=by
 unfold eh;rw[jZ (g:=λ_=>0) λi _=>by simp];exact yF _
theorem B7{a:Type}(f:a->Nat):∀L:List a,eh g (xr L f)=xr L λx=>eh g (f x)
 |[]=>Tl
 |x::L=>by rw[iz,MO,B7 f L];rfl
theorem Uh{v:Nat}(e:∀i,i<84->v.testBit i=true->g i=h i):eh g v=eh h v:=by
 unfold eh;refine jZ λi a=>?_
 split
 ·rename_i t;exact e i (bO.mp a) t
 ·rfl
theorem Qs(h:j<84):eh g (2^j)=g j:=by
 have b:∀(l:List Nat),l.Nodup->xr l (λi=>if(2^j).testBit i=true then g i else 0)=if j∈l then g j else 0:=λl=>by
  induction l with
  |nil=>intro _;rfl
  |cons a l ih=>
   intro d;rw[iE] at d;rw[iz,ih d.2,y9];by_cases c:j=a
   ·subst c;simp[d.1]
   ·have:j∈a::l↔j∈l:=by simp[c]
    simp[c]
 unfold eh;rw[b _ Dk,if_pos (bO.mpr h)]
theorem yp(n v:Nat):fe (gn n) v=jW n v:=by
 unfold gn;rw[Cr (zj _)];show xr (List.map _ _) (λr=>cY r v)=_;rw[uj,Fo]
 rfl
theorem KF(h:i<84):dg i∈cT:=by
 unfold dg;rw[dM,cV (by rw[oB];exact h)];exact lE _
theorem B8(a:i<84)(b:j<84)(e:dg i=dg j):i=j:=by
 unfold dg at e;rw[dM,dM,cV (by rw[oB];exact a),cV (by rw[oB];exact b)] at e;exact(Do Ev).mp e
theorem KI:(cT.all λr=>tq r&&decide (db r=[]))=true:=by decide +kernel
theorem qW(h:i<84):ak (dg i) 16 6/\iO (dg i):=by
 have:=dk.mp KI _ (KF h);rw[iF] at this;exact⟨Kz this.1,sf (iZ this.2)⟩
theorem KN(b:Int):iO [b]:=sf rfl
theorem HL{b:Nat}(d:1<=b)(c:b<=16):ak [(b:Int)] 16 6:=⟨λp a=>by rw[eY.mp a];lia,by simp;lia,by simp⟩
theorem Mf{n:Nat}{d:Int}{b:Nat}(m:∀i,i<84->n.testBit i=true->(dg i).sum=d)(s:1<=b)(q:b<=16)(o:d+b<=16)(v:Nat):jW (jW n (gf b 1)) v=jW n (gf b v):=by
 have K:bS (((List.range 84).filter λi=>n.testBit i).map λi=>dg i++[(b:Int)]):=by
  refine⟨?_,λr l=>?_⟩
  ·refine Dp _ (R:=λi j=>i≠j/\i<84/\j<84) (λi j z e=>z.1 (B8 z.2.1 z.2.2 (List.append_cancel_right e))) ?_;refine DY (λ{a b} p k z=>⟨z,bO.mp (gA.mp p).1,bO.mp (gA.mp k).1⟩) (Dk.filter _)
  ·obtain⟨i,c,rfl⟩:=cU.mp l;obtain⟨c,h⟩:=gA.mp c;have c:=bO.mp c;exact KS (qW c).1 (HL s q) (qW c).2 (KN _) (by rw[m i c h];simpa using o)
 have g:∀w,fe (((List.range 84).filter λi=>n.testBit i).map λi=>dg i++[(b:Int)]) w=jW n (gf b w):=λw=>by
  show xr (List.map _ _) (λr=>cY r w)=_;rw[uj,Fo];unfold jW eh;refine jZ λi _=>?_
  split
  ·rw[oE];rfl
  ·rfl
 have f:=(IA K).op v;rw[yp,xh,g,g] at f;exact f
def CL(l:List cf) (d:Nat):Prop:=∀r∈l,∃s∈fA,r=aM s/\du 1 s=d
def nC(l:List cf):Nat:=xr l λr=>mn (kH r)
theorem oU(l:List cf):nC (aQ l)=nC l:=Gz _
theorem CL.odd(h:CL l d):CL (aQ l) d:=λr a=>h r (EW a)
theorem rZ(h:s∈fA):mn s=lR.getD (jB s) 0/\SU (jB s)/\gj (jB s)=s:=⟨rfl,nB (jx h).1,(jx h).2⟩
theorem HE(h:s∈fA):∀i,i<84->(mn s).testBit i=true->(dg i).sum=(du 1 s:Nat):=λi e d=>by
 obtain⟨a,b,c⟩:=rZ h;have:=b.sum i e d
 rwa [c] at this
theorem yf(l:List RN):nC (l.map aM)=xr l mn:=by
 unfold nC;rw[uj];exact jZ λs _=>by rw[iA]
theorem wW(h:qJ w x=true):x∈fA/\du 1 x=w:=by
 obtain⟨a,b,c⟩:=wj h;exact⟨b ▸ (nB a).mem,c⟩
theorem oS(g:1<=b) (f:s∈fA)(h:b+du 1 s<=16):
  ((aN [b] s).all (qJ (b+du 1 s))=true/\xr (aN [b] s) mn=gf b (mn s))/\((aN s [b]).all (qJ (b+du 1 s))=true/\xr (aN s [b]) mn=jW (mn s) (gf b 1)):=by
 obtain⟨d,e⟩:=jx f;have c:=dk.mp (dk.mp LP (b-1) (bO.mpr '!')) _ (bO.mpr d);have a:=dk.mp (dk.mp MC (b-1) (bO.mpr '!')) _ (bO.mpr d);unfold AQ at c;unfold AC at a;rw[e,show b-1+1=b by lia,pj h,cond_true,iF] at c a;exact⟨⟨c.1,gw c.2⟩,⟨a.1,gw a.2⟩⟩
def i5(l:List cf) (b:Nat):List cf:=l.flatMap λr=>[[(b:Int)]].flatMap (mk r)
def im(a:Nat) (l:List cf):List cf:=[[(a:Int)]].flatMap λr=>l.flatMap (mk r)
theorem yC(b:Nat):kH [(b:Int)]=[b]:=iA [b]
theorem Gd{d b:Nat}(i:CL l d)(g:1<=b)(h:b+d<=16):CL (i5 l b) (b+d)/\∀v,jW (nC (i5 l b)) v=jW (nC l) (gf b v):=by
 have e:∀r,[[(b:Int)]].flatMap (mk r)=(aN (kH r) [b]).map aM:=λr=>by
  show mk r [(b:Int)]++[]=_;rw[lD];unfold mk;rw[yC]
 refine⟨λx f=>?_,λv=>?_⟩
 ·obtain⟨r,a,f⟩:=mN.mp f;rw[e] at f;obtain⟨y,j,rfl⟩:=cU.mp f;obtain⟨s,c,rfl,rfl⟩:=i r a;rw[iA] at j;obtain⟨n,m⟩:=wW (dk.mp (oS g c h).2.1 y j);exact⟨y,n,rfl,m⟩
 ·unfold i5;have k:nC (l.flatMap λr=>[[(b:Int)]].flatMap (mk r))=xr l λr=>jW (mn (kH r)) (gf b 1):=by
   unfold nC;rw[vz];refine jZ λr a=>?_
   obtain⟨s,c,rfl,rfl⟩:=i r a;rw[e,iA];exact(yf _).trans (oS g c h).2.2
  rw[k];unfold jW;rw[B7];show _=eh _ (xr l _);rw[B7];refine jZ λr a=>?_
  obtain⟨s,c,rfl,rfl⟩:=i r a;rw[iA];exact Mf (HE c) g '!' '!' v
theorem Gc(j:CL l d)(i:1<=a)(h:a+d<=16):CL (im a l) (a+d)/\nC (im a l)=gf a (nC l):=by
 have e:im a l=l.flatMap λs=>(aN [a] (kH s)).map aM:=by
  show(l.flatMap (mk [(a:Int)]))++[]=_;rw[lD];unfold mk;rw[yC]
 rw[e];refine⟨λx f=>?_,?_⟩
 ·obtain⟨r,b,f⟩:=mN.mp f;obtain⟨y,k,rfl⟩:=cU.mp f;obtain⟨s,c,rfl,rfl⟩:=j r b;rw[iA] at k;obtain⟨n,m⟩:=wW (dk.mp (oS i c h).1.1 y k);exact⟨y,n,rfl,m⟩
 ·have g:∀L:List cf,gf a (xr L λr=>mn (kH r))=xr L λr=>gf a (mn (kH r)):=λL=>by
   induction L with
   |nil=>exact Cp a
   |cons x L ih=>rw[iz,B2,ih];rfl
  unfold nC;rw[vz,g];refine jZ λr b=>?_
  obtain⟨s,c,rfl,rfl⟩:=j r b;rw[iA];exact(yf _).trans (oS i c h).1.2
theorem yh{b:Type}(a:List Nat)(f:b->Nat):∀L:List b,eV a (xr L f)=xr L λx=>eV a (f x)
 |[]=>vA _
 |x::L=>by rw[iz,B3,yh a f L];rfl
def CA(l:List cf):Prop:=∀r∈l,∃s∈fA,r=aM s
theorem CL.ca(h:CL l d):CA l:=λr c=>let ⟨s,a,b,_⟩:=h r c;⟨s,a,b⟩
theorem wn(h:CA l):eV jY (nC l)=xr l λr=>2^jB (kH r):=by
 unfold nC;rw[yh];refine jZ λr d=>?_
 obtain⟨s,e,rfl⟩:=h r d;obtain⟨a,b,c⟩:=rZ e;rw[iA,a,b.zz]
theorem yg(i:CA l)(n:CA m)(e:nC l=nC m):aQ l=aQ m:=by
 refine NL λf=>?_
 have c:∀{k:List cf},CA k->xr k f=eh (λj=>f (aM (gj j))) (eV jY (nC k)):=λ{k} d=>by
  rw[wn d,B7];refine jZ λr g=>?_
  obtain⟨s,h,rfl⟩:=d r g;obtain⟨a,b⟩:=jx h;rw[iA,Qs a,b]
 rw[c i,c n,e]
end Tab
end Dd
namespace Dd
open L2
end Dd
namespace L2
open Spec PyProof.Rows PySem.W
end L2
namespace Dd
open L2
end Dd
namespace L2
open Spec PyProof.Rows
end L2
namespace Dd
open L2 PyProof.Rows
end Dd
namespace Dd
open L2
end Dd
namespace HT
open Spec PyProof.Rows
section
open SeqAt
open PySem.AutoSeq1 (wpAny_loadPart')
open MeetsSeq MeetsSeq2 MeetsSeq3
theorem Hn(h:Q (.bool (decide (j<i))) s):wpAny '*' A (richCompare .Gt (.int i t) (.int j u)) Q E s:=
 (PyProof.Rows.gt_int h:wpAny '*' A (compareOp .Gt _ _) Q E s)
theorem LG(l b:Addr)(I J:Array Value)(n m:Nat)(dd de:Option Addr)(sl sm:Array (Option Value))(ns ms:List Int)(hi:IntsAre I.toList ns)(hj:IntsAre J.toList ms):
  Meets (Builtin.«tuple.__gt__» ⟨[.ref l,.ref b],[]⟩)
   (λ_ R s=>s.heap.get? l=some { cls:=.type "tuple",dict:=dd,data:=.seq I n,slots:=sl }/\s.heap.get? b=some { cls:=.type "tuple",dict:=de,data:=.seq J m,slots:=sm }/\R (.ok (.ret (.bool (lexLt ms ns)))) s):=
 .of_wp λk w A R s h=>by
  obtain⟨X,g,d,T,os⟩:=s;obtain⟨hl,hb,h⟩:=h
  have f2:=AutoSeq1.sub_tuple_tuple;have z1:I.size=ns.length:=by have:=hi.length;simpa using this
  have z2:J.size=ms.length:=by have:=hj.length;simpa using this
  wp_walk using DN hl,DN hb,wpAny_forIn_list _ (λo b s'=>b.1=none/\s'=⟨X,g,d,T,os⟩/\∃(U Y:List Value) (G H:List Int),o=U.zip Y/\IntsAre U G/\IntsAre Y H/\G.length+J.size=H.length+I.size/\R (.ok (.ret (.bool (lexLt H G)))) ⟨X,g,d,T,os⟩) _
  case turn=>
   rintro⟨y,x⟩ o b s' ⟨S,rfl,U,Y,G,H,P,hv,C,f,p⟩;cases hv with
   |nil=>simp at P
   |cons a t hv'=>
    cases C with
    |nil=>simp at P
    |cons c u hw'=>
     obtain⟨⟨rfl,rfl⟩,v⟩:(y=.int a t/\x=.int c u)/\o=_:=by simpa using P
     have z:=f;rw[ro] at p;rw[dm,dm] at z;obtain⟨e,he,r⟩:=Qb A.in1 ⟨X,g,d,T,os⟩ a t c u;refine ab (he k w _ _ ?_);cases e with
     |true=>
      rw[if_pos (r.mp rfl).symm] at p
      wp_walk
      exact⟨rfl,rfl,_,_,_,_,v,hv',hw',by lia,p⟩
     |false=>
      rw[if_neg (λq=>absurd (r.mpr q.symm) og)] at p;have a0:=λE Q h=>Hn (prog:=k) (w:=w) (A:=A.in1) (s:=⟨X,g,d,T,os⟩) (i:=a) (t:=t) (j:=c) (u:=u) (E:=E) (Q:=Q) h
      wp_walk using a0
      exact⟨_,rfl,by simpa using p⟩
  case fin=>
   rintro⟨b1,b2⟩ s' ⟨S,rfl,U,Y,G,H,P,hv,C,f,p⟩;obtain rfl:b1=none:=S;have hs:lexLt H G=decide (J.size<I.size):=by
    rw[mf,qh];cases hv with
    |nil=>
     cases C with
     |nil=>rw[CY];simp only[pc] at f;constructor<;>intro q<;>first|cases q|lia
     |cons c u C=>rw[C1];simp only[pc,dm] at f;constructor<;>intro q<;>first|cases q|lia
    |cons a t hv=>
     cases C with
     |nil=>rw[wb];simp only[pc,dm] at f;constructor<;>intro q<;>first|rfl|lia
     |cons c u C=>simp at P
   rw[hs] at p
   wp_walk
   exact⟨_,rfl,by simpa [Builtin.Tuple.tupleCompareSizes] using p⟩
  case h=>
   exact⟨rfl,rfl,I.toList,J.toList,ns,ms,rfl,hi,hj,by lia,h⟩
end
theorem Jt{A:Around}{s:Shared}(m:IsTup s.heap l xs)(e:IsTup s.heap b ys)(d:IntsAre xs.toList ns)(f:IntsAre ys.toList ms)
  (k:A.units<cLine)(h:Q (.bool (lexLt ms ns)) s):wpAny '*' A (richCompare .Gt (.ref l) (.ref b)) Q E s:=by
 obtain⟨⟨_,_,_,_⟩,c,i,_,n⟩:=id m;obtain⟨⟨_,_,_,_⟩,a,g,_,j⟩:=id e;cases i;cases n;cases g;cases j
 exact richCompare_meets_room (op:=.Gt) ⟨_,c,rfl⟩ ⟨_,a,rfl⟩ F.slot_tuple_gt F.entry_tuple_gt (F.args_tuple_gt_2 _ _) (LG l b _ _ _ _ _ _ _ _ ns ms d f) ⟨c,a,(⟨λx=>(nomatch x),h⟩:Value.bool (lexLt ms ns)≠Value.notImplemented/\Q (.bool (lexLt ms ns)) s)⟩ k
end HT
namespace Dd
open Spec PyProof.Rows L2
def kO(c:cq):List (List Int)->aa->bu (List (List Int))
 |[],au=>.ok [] au
 |k::ks,au=>(c [aL k] au).bind λv b=>match v with
  |.tup ds=>match bv ds with
   |some m=>(kO c ks b).bind λd a=>.ok (m::d) a
   |none=>.stuck
  |_=>.stuck
def pickK:List Int×List Int->List (List Int×List Int)->List Int×List Int
 |b,[]=>b
 |b,x::l=>pickK (if HT.lexLt b.2 x.2 then x else b) l
def kT(f:SE) (g:cq):SE:=λe d=>(f e d).bind λx a=>match x with
 |.ref n=>match a[n]? with
  |some (.dT kvs)=>(kO g (kvs.map (·.1)) (a.set n (.fT kvs))).bind λh c=>match (kvs.map (·.1)).zip h with
   |b::l=>.ok (aL (pickK b l).1) c
   |[]=>.stuck
  |_=>.stuck
 |_=>.stuck
noncomputable def kh(a:Array Value) (c:Nat):Obj:={ cls:=.type "list",dict:=none,data:=.seq a c,slots:=#[] }
theorem qC{h':Heap}(I:Inv X ((S,o)::aW) τ H s)(f:dX X aW H S)(k:∀b u,b≠S->s.heap.get? b=some u->h'.get? b=some u)(d:h'.get? S=some o')(e:∀v,o'.data≠.cell v):Inv X ((S,o')::aW) τ H {s with heap:=h',toks:=t'}:=by
 have c:Inv X aW τ H s:=I.pins_of λp hp=>I.pin p (gE _ (cH _ hp))
 have a:Inv X aW τ H {s with heap:=h',toks:=t'}:=c.turned k f.1 f.2.1 f.2.2.2.1 f.2.2.2.2.1 f.2.2.2.2.2;refine a.pins_of λp hp=>?_
 rcases bT.mp hp with rfl|hp
 ·exact⟨d,f.1,f.2.1,f.2.2.1,e⟩
 ·exact a.pin p (gE _ hp)
section
variable {X:Cx}{k:Nat}{ps:List Str}{Fk:cq}{fa:Addr}{fd:FuncData}
theorem Jy(G:gk X.prog X.w X.K X.mg X.base jM k fa fd ps (u8 X.K ps.length Fk))(T:Binds X.K fd ps [])(t:ps.length=1)(y:bN (k+1) X.A){n:List (Addr×Obj)}{j:L2.St}{H:Hp}{s:Shared}{d:Loc}{g b:aa}{f m:List Int}{p:Addr}{h:List D}{Q:Value->Shared->Prop}{E:Value->Shared->Prop}
  (I:Inv X n j H s)(o:bD X.K d g H)(l:H p=some (.tup (f.map V.int)))(e:Fk [aL f] g=.ok (.tup h) b)(U:bv h=some m)
  (q:∀(u:Addr) x H2 a,Inv X n j H2 x->bg d H a H2->bD X.K a b H2->H2 u=some (.tup (m.map V.int))->Q (.ref u) x):wpAny '#' X.A.in1 (call (.ref fa) [.ref p]) Q E s:=by
 have P:ae X.K d H [aL f] [V.ref p]:=.cons (.tup l (vM o l) (ur _)) .nil;refine wpAny_call (uD (G.run X.A.in1 X.stack s H ⟨[.ref p],[]⟩ [.ref p] [V.ref p] (λv H2=>∃u a,v=.ref u/\bg d H a H2/\bD X.K a b H2/\H2 u=some (.tup (m.map V.int))) E0 y.in1 I.env0.in1 (by simpa using T s [.ref p] I.kIn (by simpa using t.symm)) (.cons rfl .nil) ⟨d,[aL f],g,.tup h,b,P,o,e,by rw[t];rfl,λi H' u C z A=>?_⟩) λr s' c=>?_)
 ·cases A with
  |tup g1 g2 g3=>exact⟨_,i,rfl,C,z,by rw[←rf g3 U];exact g1⟩
 ·cases r with
  |error er=>exact c.elim
  |ok fl=>
   cases fl with
   |ret u=>
    obtain⟨v,H2,R,J,w,a,rfl,Y,S,h2⟩:=I.after c;cases(show u=Value.ref w from J);exact q w s' H2 a R Y S h2
   |next=>exact c.elim
   |brk=>exact c.elim
   |cont=>exact c.elim
end
def qR(H:Hp):Option (List Int×List Int)->Array Value->Prop
 |none,xs=>xs=#[]
 |some b,xs=>∃a c,xs=#[.ref a,.ref c]/\H a=some (.tup (b.1.map V.int))/\H c=some (.tup (b.2.map V.int))
def nh:Option (List Int×List Int)->List (List Int×List Int)->Option (List Int×List Int)
 |none,[]=>none
 |none,x::l=>some (pickK x l)
 |some b,l=>some (pickK b l)
theorem ND{X:Cx}(G:gk X.prog X.w X.K X.mg X.base jM k fa fd ps (u8 X.K ps.length Fk))(bn:Binds X.K fd ps [])(h1:ps.length=1)(hr:bN (k+1) X.A) {ob:Obj}{qs:List (Addr×List Int)}{R:Result->Shared->Prop}(ex:ob.ExactDict)(dt:ob.data=.dict es ep)
  (a1:es.toList.map (·.key)=qs.map λp=>Value.ref p.1)(ne:it≠S):
  ∀(i:List (Addr×List Int)) (j:Nat) (b:Option (List Int×List Int)) (f:Array Value) (c:Nat) (s:Shared) (H:Hp) (U:Loc) (au:aa) (ms:'$'),qs.drop j=i->Inv X ((S,kh f c)::aW) τ H s->s.heap.IsKeyIter it a j es.size ep->dX X aW H it->dX X aW H S ->
   H a=some (.frz ob (.dT vs))->bD X.K U au H->qR H b f->(∀p∈i,H p.1=some (.tup (p.2.map V.int)))->kO Fk (i.map (·.2)) au=.ok ms stE->(b=none->i≠[]) ->
   (∀(r:List Int×List Int) s' J x n,nh b ((i.map (·.2)).zip ms)=some r->Inv X aW τ J s'->bg U H x J->bD X.K x stE J->J n=some (.tup (r.1.map V.int))->R (.ok (.ret (.ref n))) s') ->
   codeAny '#' X.A (.builtin "max.loop" ⟨[.ref it,.ref fa,.ref S],[]⟩) R s:=by
 have nm:(toString "max"++toString ".loop" : String)="max.loop":=by decide
 have b0:es.size=qs.length:=by
  have:=congrArg List.length a1
  rwa [av,av,gm] at this
 intro i
 induction i with
 |nil=>
  intro j b f c s H U au ms hj I hi d fS hz rp q hq e a2 C;have hS:s.heap.get? S=some (kh f c):=(I.pin (S,kh f c) (gE _ eF)).1;obtain⟨eo,_⟩:=(show ar X.prog X.w H s.heap a (.frz ob (.dT vs)) from I.hok a _ hz)
  have lj:es.size<=j:=by rw[b0];exact List.drop_eq_nil_iff.mp hj
  cases e;cases b with
  |none=>exact absurd rfl (a2 rfl)
  |some b=>
   obtain⟨n,T,rfl,E,h3⟩:=q;refine sG F.entry_max_loop ?_;rw[uR uY _];refine ab (sD hS rfl (ab (De (Dct.EF hr.hd hi ⟨ob,eo,ex,dt⟩ lj λg eb=>?_))));have gS:g.get? S=some (kh #[.ref n,.ref T] c):=eb _ _ (cO ne) hS;refine ab (yO gS rfl (ab (qa (am ?_))));have I1:Inv X ((S,kh #[.ref n,.ref T] c)::aW) τ H {s with heap:=g}:=I.turned (t':=s.toks) (λb o q e=>eb b o q e) d.1 d.2.1 d.2.2.2.1 d.2.2.2.2.1 λp hp=>by
    rcases fh.mp hp with hp|hp
    ·exact d.2.2.2.2.2 p (uU _ hp)
    ·rcases bT.mp hp with rfl|hp
     ·exact cO ne
     ·exact d.2.2.2.2.2 p (gE _ hp)
   have I2:=qC (t':=s.toks) I1 fS (h':=g.update S (Obj.mapSeq λ_=>#[])) (λb u q e=>(sU _ _ (cO q)).trans e) (mS _ gS rfl) (λv z=>by cases z);exact C b _ H U n rfl (I2.pins_of λp hp=>I2.pin p (gE _ (cH _ hp))) (.refl _ _) rp E
 |cons p i ih=>
  intro j b f c s H U au ms hj I hi d fS hz rp q hq e a2 C;have hS:s.heap.get? S=some (kh f c):=(I.pin (S,kh f c) (gE _ eF)).1;obtain⟨eo,_⟩:=(show ar X.prog X.w H s.heap a (.frz ob (.dT vs)) from I.hok a _ hz)
  have a7:qs[j]?=some p:=by
   have:=congrArg (·[0]?) hj
   simpa using this
  have A:∃Y,es[j]?=some Y/\Y.key=.ref p.1:=by
   have e1:(es.toList.map (·.key))[j]?=some (.ref p.1):=by rw[a1,eU,a7];rfl
   rw[eU] at e1;obtain⟨Y,e2,e3⟩:=gQ.mp e1;exact⟨Y,by rw[←iH];exact e2,e3⟩
  obtain⟨Y,A,hk⟩:=A;obtain⟨v,a8,e1,e⟩:=za (show(Fk [aL p.2] au).bind _=_ from e);cases v with
  |tup ds=>
   dsimp only at e;cases em:bv ds with
   |none=>rw[em] at e;cases e
   |some m=>
    rw[em] at e;obtain⟨t,c0,e2,e3⟩:=za e;cases e3;refine sG F.entry_max_loop ?_;rw[uR uY _];refine ab (sD hS rfl (ab (De (Dct.E2 hi ⟨ob,eo,ex,dt⟩ A λg a6 sb=>?_))));rw[hk];have I1:Inv X ((S,kh f c)::aW) τ H {s with heap:=g}:=I.turned (t':=s.toks) (λb o q e=>(sb.2 b q).trans e) d.1 d.2.1 d.2.2.2.1 d.2.2.2.2.1 λp hp=>by
     rcases fh.mp hp with hp|hp
     ·exact d.2.2.2.2.2 p (uU _ hp)
     ·rcases bT.mp hp with rfl|hp
      ·exact cO ne
      ·exact d.2.2.2.2.2 p (gE _ hp)
    obtain⟨oI,b2,b5,a3⟩:=id a6;have I2:Inv X ((it,oI)::(S,kh f c)::aW) τ H {s with heap:=g}:=I1.pins_of λp hp=>by
     rcases bT.mp hp with rfl|hp
     ·exact⟨b2,d.1,d.2.1,d.2.2.1,λv z=>by rw[a3] at z;cases z⟩
     ·exact I1.pin p (gE _ hp)
    refine ab (De (jj (Jy G bn h1 hr I2 rp (hq p eF) e1 em λu s2 H2 b6 Q x2 b7 hu=>?_)));have P1:=Q.pin (it,oI) (gE _ eF);have P:=Q.pin (S,kh f c) (gE _ (cH _ eF));have I4:Inv X ((S,kh f c)::aW) τ H2 s2:=Q.pins_of λp hp=>Q.pin p (gE _ (cH _ hp))
    have a9:dX X aW H2 it:=⟨P1.2.1,d.2⟩
    have a5:dX X aW H2 S:=⟨P.2.1,fS.2⟩
    have b4:=x2.frz _ _ _ hz;have tp:∀{y:Addr}{l:List L2.V},H y=some (.tup l)->H2 y=some (.tup l):=λ{y l} h=>(x2.out h (vM rp h)).1
    have a0:=tp (hq p eF);have a4:s2.heap.IsKeyIter it a (j+1) es.size ep:=⟨oI,P1.1,b5,a3⟩
    have go:∀(b':List Int×List Int) (ys:Array Value) (c':Nat) (E:Heap) (t2:Nat),qR H2 (some b') ys->E.get? S=some (kh ys c')->(∀y w,y≠S->s2.heap.get? y=some w->E.get? y=some w)->nh b ((p.2,m)::(i.map (·.2)).zip t)=some (pickK b' ((i.map (·.2)).zip t)) ->
      codeAny '#' X.A (.builtin "max.loop" ⟨[.ref it,.ref fa,.ref S],[]⟩) R { s2 with heap:=E,toks:=t2 }:=λb' ys c' E t2 b3 b1 kk pk=>
     ih (j+1) (some b') ys c' {s2 with heap:=E,toks:=t2} H2 b6 a8 t (by rw[←List.tail_drop,hj];rfl) (qC (t':=t2) I4 a5 kk b1 (λv z=>by cases z)) (by obtain⟨o,q1,q2⟩:=a4;exact⟨o,kk _ _ ne q1,q2⟩) a9 a5 b4 b7 b3 (λp hp=>tp (hq p (cH _ hp))) e2 (λz=>by cases z) λr s' J x n er I' x' r' h'=>C r s' J x n (by
      show nh b ((p.2,m)::(i.map (·.2)).zip t)=some r
      rw[pk];exact er) I' (x2.trans x') r' h'
    cases b with
    |none=>
     cases q;refine ab (yO P.1 rfl ?_);rw[nm];exact am ⟨sA uY _,go (p.2,m) #[.ref p.1,.ref u] _ _ s2.toks ⟨p.1,u,rfl,a0,hu⟩ (mS _ P.1 rfl) (λy w hy e=>(sU _ _ (cO hy)).trans e) rfl⟩
    |some b=>
     obtain⟨n,T,rfl,q1,q2⟩:=q;obtain⟨_,b9,r1,T1⟩:=(show ar X.prog X.w H2 s2.heap u (.tup (m.map V.int)) from Q.hok u _ hu)
     obtain⟨_,b8,r2,T2⟩:=(show ar X.prog X.w H2 s2.heap T (.tup (b.2.map V.int)) from Q.hok T _ (tp q2))
     refine ab (De (jj (ab (HT.Jt T1 T2 (by simpa using uy r1) (by simpa using uy r2) hr.in1.units0 (ab (jj (mQ (ab (qa (am ?_))))))))));cases hc:HT.lexLt b.2 m with
     |true=>
      rw[if_pos rfl];refine ab (yO P.1 rfl (ab (qa ?_)));rw[nm];exact am ⟨sA uY _,go (p.2,m) #[.ref p.1,.ref u] _ _ s2.toks ⟨p.1,u,rfl,a0,hu⟩ (mS _ P.1 rfl) (λy w hy e=>(sU _ _ (cO hy)).trans e) (by show some (pickK _ _)=_;simp only[pickK,hc,hZ])⟩
     |false=>
      rw[if_neg ')'];refine ab (qa ?_);rw[nm];exact am ⟨sA uY _,go b _ _ _ s2.toks ⟨n,T,rfl,tp q1,tp q2⟩ P.1 (λy w hy e=>e) (by show some (pickK _ _)=_;simp only[pickK,hc];rfl)⟩
  |_=>cases e
end Dd
namespace L2
open Spec PyProof.Rows
theorem E3:Slot "reversed" "__length_hint__" "reversed.__length_hint__":=by
 refine Slot.of (owner:="reversed") (n:="__length_hint__") ?_ (by decide +kernel) (by decide +kernel) (by decide +kernel) ?_ ?_
 ·rw[sF,sS]
  kernel_rfl
 ·first
   |exact .inl (by decide +kernel)
   |exact .inr (by decide +kernel)
 ·rw[yN]
  kernel_rfl
theorem Th:entryFor table "reversed.__length_hint__"=some Builtin.«reversed.__length_hint__»:=entryFor_of_tree (by kernel_rfl)
theorem MF(a:Value):argsOk "reversed.__length_hint__" ⟨[a],[]⟩:=by
 unfold argsOk;rw[signature?_of (id:="reversed.__length_hint__") (n:="__tnih_htgnel__".toList) (o:="desrever".toList) (by kernel_rfl) r9]
 kernel_rfl
theorem MI:typeLookup (.type "reversed") (Str.ofString "__len__")=pure none:=by
 rw[sF,sS]
 kernel_rfl
theorem Ti{b:Array Value}:Meets (Builtin.«reversed.__length_hint__» ⟨[.ref it],[]⟩) (λ_ R s=>dC s.heap it a ((b.size:Int)-1)/\s.heap.IsTuple a b/\(b.size:Int)<2^62/\∀t h,R (.ok (.ret (.int b.size t))) {s with toks:=h}):=
 .of_wp λd w A R s c=>by
  obtain⟨n,f,q,k⟩:=c;obtain⟨v,e,p,g⟩:=id n;obtain⟨o,m,j,r⟩:=id f;have u:s.TypeIs (.ref a) "tuple":=⟨o,m,j⟩
  unfold Builtin.«reversed.__length_hint__»;refine ab (oY (a:=Value.ref it) (by rfl) ?_);refine ab (iV (i:=0) (x:=.ref a) e g rfl ?_)
  try dsimp only
  rw[if_neg (show ¬ ((Value.ref a==Value.none)=true) from og)];refine ab (len_tuple f '!' ?_);refine ab (oY (a:=some (b.size:Int)) (by rfl) ?_);dsimp only;refine ab (iV (i:=1) (x:=.int ((b.size:Int)-1) 0) (s:={s with toks:=s.toks+1+1}) e g rfl ?_);dsimp only;rw[if_neg '!'];have l:(b.size:Int)-1+1=b.size:=by lia
  rw[l]
  wp_walk
  exact⟨_,rfl,k _ _⟩
theorem MG{s:Shared}{items:Array Value}(c:dC s.heap it a ((items.size:Int)-1))(g:s.heap.IsTuple a items)(h:(items.size:Int)<1000)(m:items.size≠0)(k:∀d,Q true {s with toks:=d}):
  wpAny '*' A (Builtin.List.listLengthHint (.ref it)) Q E s:=by
 unfold Builtin.List.listLengthHint;refine ab (sH c.is MI ?_);generalize hid:("reversed.__length_hint__" : String)=id0
 have f:typeLookup (.type "reversed") (Str.ofString "__length_hint__")=pure (some (.builtin id0)):=by rw[←hid]; exact E3.lookup
 have j:splitId id0=some ("reversed","__length_hint__"):=by subst hid; decide +kernel
 dsimp only;refine o7 (λz=>absurd z (by decide +kernel)) λ_=>?_
 refine o7 (λz=>absurd z ')') λ_=>?_
 refine ab (sH c.is f ?_);dsimp only;rw[j];dsimp only;refine ab (Dj (T:="reversed") (b:=true) c.is F.sub_reversed_self ?_)
 refine o7 (λz=>absurd z ')') λ_=>?_
 subst hid;refine o7 (λz=>absurd z (by decide +kernel)) λ_=>?_
 refine ab (mH (ab (oY (E3.bind _) ?_)));dsimp only;refine ab (qd (nX E3 c.is Th (MF _) Ti ⟨c,g,by lia,λt d=>?_⟩));obtain⟨N,e⟩:∃N:Int,N=(items.size:Int):=⟨_,rfl⟩
 rw[←e] at h ⊢;show wpAny _ _ (asInt? (.int N t) >>= _) _ _ _;refine ab (oY (a:=some N) (by rfl) ?_);dsimp only;have i:Builtin.List.listFitsIndex N=true:=by unfold Builtin.List.listFitsIndex;rw[iF,qh,qh];constructor<;>lia
 have l:Builtin.List.listTooLong N.toNat=false:=by unfold Builtin.List.listTooLong;rw[iC];exact dj '!'
 refine o7 (λz=>absurd z (by rw[i];decide)) λ_=>?_
 refine o7 (λz=>absurd z '!') λ_=>?_
 refine o7 (λz=>absurd z (by rw[l];decide)) λ_=>am ?_
 rw[show(N != 0)=true by simp;lia];exact k d
theorem Tg{B:Around}(t:B.handled=none) (s:it≠a)(d:Array Value)(y:d.size<1000):
  Walks P w B it [it,a] [it] d.size (λi v=>d[d.size-1-i]?=some v) (λi h=>dC h it a ((d.size:Int)-1-i)/\IsTup h a d) where
 sub:=λb j=>bT.mpr (.inl (eY.mp j))
 frame:=λ_ _ _ z l=>⟨let ⟨o,e,r⟩:=z.1;⟨o,l it '%' o e,r⟩,let ⟨o,e,r⟩:=z.2;⟨o,l a '%' o e,r⟩⟩
 item:=λi k W E x z f=>by
  have n:d[d.size-1-i]?=some d[d.size-1-i]:=zE '!';have u:(d.size:Int)-1-i=((d.size-1-i:Nat):Int):=by lia
  refine Ql z.2 (by rw[←u];exact z.1) n '!' λg p r m=>?_
  refine f _ g p n ⟨?_,let ⟨o,e,c⟩:=z.2;⟨o,(m.2 a (cO s)).trans e,c⟩⟩ λb o j e=>(m.2 b (by simpa using j)).trans e
  rw[show(d.size:Int)-1-((i+1:Nat):Int)=((d.size-1-i:Nat):Int)-1 by lia];exact r
 done:=λk W E z f=>yv '!' t z.1 λg b=>f g k.toks λc o q e=>b c o (by simpa using q) e
 self:=λ_ k Q E z f=>N8 z.1.is Ct (kD Ct z.1.is Q9 (am ⟨_,rfl, "reversed",_,z.1.is,ut.lookup,f⟩) (Qp _))
theorem UM{B:Around}{s:Shared}{items:Array Value}{R:List Value->Shared->Prop}(hh:B.handled=none)(Y:it≠a)(C:items.size<1000)(hn:items.size≠0)(Q:dC s.heap it a ((items.size:Int)-1))(J:IsTup s.heap a items)
  (m:∀(G:Heap) (A:Nat) (d:Array Value),(∀b o,b≠it->s.heap.get? b=some o->G.get? b=some o)->ItemsOf (λi v=>items[items.size-1-i]?=some v) d items.size->R d.toList {s with heap:=G,toks:=A}):wpAny (model P w) B (collect (.ref it)) R E s:=by
 have U:=ew;have u:it<s.heap.objs.size:=let ⟨_,e,_⟩:=Q;cJ e
 have p:a<s.heap.objs.size:=J.lt;unfold collect;refine ab (wpAny_runValue (sG F.entry_proto_collect ?_));rw[uR F.plain_proto_collect _]
 show wpAny _ B.in1 (newList [] >>= λl=>_) _ _ s;refine ab (jt (am ⟨sA F.plain_list_iadd _,sG F.entry_list_iadd ?_⟩));rw[uR F.plain_list_iadd _]
 have t:∀ b o,s.heap.get? b=some o->(s.heap.push { cls:=.type "list",data:=.seq ([]:List Value).toArray }).get? b=some o:=λb o e=>bX _ e
 have S:(s.heap.push { cls:=.type "list",data:=.seq ([]:List Value).toArray }).get? s.heap.objs.size=some { cls:=.type "list",data:=.seq #[] }:=ed _ rfl
 have h:dC (s.heap.push { cls:=.type "list",data:=.seq ([]:List Value).toArray }) it a ((items.size:Int)-1):=let ⟨o,e,r⟩:=Q; ⟨o,t _ _ e,r⟩
 have q:IsTup (s.heap.push { cls:=.type "list",data:=.seq ([]:List Value).toArray }) a items:=let ⟨o,e,r⟩:=J; ⟨o,t _ _ e,r⟩
 have W:=Tg (P:=P) (w:=w) (B:=B.in1) hh Y items C;show wpAny _ B.in1 (Builtin.List.listExtendWith (.ref s.heap.objs.size) (.ref it) (.ref s.heap.objs.size)) _ _ _;have x:s.heap.objs.size≠it:=mL u;have H:s.heap.objs.size≠a:=mL p;unfold Builtin.List.listExtendWith;refine ab (uC (T:="reversed") (dC.is (s:={ s with heap:=_ }) h) ?_)
 have g1:Builtin.List.listSameRef (.ref s.heap.objs.size) (.ref it)=false:=by simp[Builtin.List.listSameRef,x]
 rw[g1];refine o7 (λz=>absurd z ')') λ_=>?_
 refine ab (W.self 0 _ _ _ ⟨by simpa using h,q⟩ ?_);refine ab (jj (MG (items:=items) h q '!' hn λA=>?_));refine o7 (λ_=>?_) λz=>absurd (by rfl) z
 refine ab (mH ?_);refine ab ?_;show wpAny _ _ (updateSeq s.heap.objs.size (·.push .none) >>= λ_=>updateSeq s.heap.objs.size (·.pop)) _ _ _;refine ab (yO S rfl ?_);have f:=mS (Obj.mapSeq (·.push Value.none)) S rfl;refine yO (hz:=by seq_fits) f rfl ?_;have k:=mS (Obj.mapSeq (·.pop)) f rfl;have n:∀ b o,b≠s.heap.objs.size->(s.heap.push { cls:=.type "list",data:=.seq ([]:List Value).toArray }).get? b=some o->(((s.heap.push { cls:=.type "list",data:=.seq ([]:List Value).toArray }).update s.heap.objs.size (Obj.mapSeq (·.push Value.none))).update s.heap.objs.size (Obj.mapSeq (·.pop))).get? b=some o:=λb o j e=>
  (sU _ _ (cO j)).trans ((sU _ _ (cO j)).trans e)
 refine am ⟨sA F.plain_extend_loop _,codeAny_extend_loopS W.toS (by rw[iC];lia) s.heap.objs.size (by simp[x,H]) (.ref s.heap.objs.size) items.size 0 _ #[] _ rfl (ie _) ⟨?_,?_⟩ k (ItemsOf.nil _) λX d c I y g=>?_⟩
 ·let ⟨o,e,r⟩:=h;exact⟨o,n _ _ (cO x) e,by simpa using r⟩
 ·let ⟨o,e,r⟩:=q;exact⟨o,n _ _ (cO H) e,r⟩
 ·refine ab (wpAny_load y (am ?_));rw[Moved.eq_with I];refine m X.heap X.toks d (λb o j e=>I.heap b o (λz=>?_) (n b o (dY (cJ e)) (t b o e))) g;rcases bT.mp z with z|z
  ·exact absurd (cJ e) (by rw[z];exact o0 _)
  ·exact j (eY.mp z)
theorem Uv{B:Around}{s:Shared}{items:Array Value}(p:B.handled=none)(m:it≠a)(n:items.size<1000)(u:items.size≠0)(l:dC s.heap it a ((items.size:Int)-1))(q:IsTup s.heap a items)
  (k:∀(f:Heap) (j:Nat),(∀ b o,b≠it->s.heap.get? b=some o->f.get? b=some o)->Q (.ref f.objs.size) { s with heap:=f.push { cls:=.type "tuple",data:=.seq items.reverse },toks:=j }):wpAny (model P w) B (PySem.call (.type "tuple") [.ref it]) Q E s:=by
 have t:s.TypeIs (.ref it) "reversed":=l.is
 refine callType_codes (Q₁:=λe c=>c.TypeIs e "tuple"/\Q e c) Op (F.typeCall_tuple_1 _) F.entry_object_init ?_ λe c d=>⟨d.1,F.args_object_init_2 e _,object_init_meets Op.init.lookup Op.made ')' P w B.in1 _ c ⟨d.1,rfl,d.2⟩⟩
 refine codeAny_of_tree ?_;show wpAny _ _ (do checkBuiltinCall "tuple.__new__" _; again (.builtin "tuple.__new__" _)) _ _ s
 refine ab (oY (F.newCall_tuple_1 _) (am ⟨sA F.plain_tuple_new _,sG F.entry_tuple_new ?_⟩));rw[uR F.plain_tuple_new _]
 have A:=sub_tuple_self;have C:=init_tuple_lookup;have H:=madeHere_tuple
 wp_walk using uC t,UM (B:=B.in1.in1) p m n u l q
 intro f j g x h;show wpAny _ _ (Builtin.Tuple.tupleExact g.toList.toArray >>= λv=>ret v) _ _ _;have r:g.toList.toArray=items.reverse:=by
  rw[Array.toArray_toList];apply Array.ext
  ·rw[h.1,Array.size_reverse]
  ·intro i z G;have:=h.2 i _ (zE z);rw[Array.getElem_reverse];have y:=(OG.mp this).2;rw[←y]
 rw[r];unfold Builtin.Tuple.tupleExact;refine ab (jt (am ?_) (by show items.reverse.size<=sizeLine;rw[Array.size_reverse,iC];lia));exact⟨⟨_,ed _ rfl,rfl⟩,k f j x⟩
def pz(K:Fg) (c:TE):TE:=λd H Q=>c d H λx H1=>∃a b,x=.ref a/\bz K H1 a b/\b≠[]/\b.length<1000/\∀q,H1 q=none->Q (.ref q) (aq H1 q (.tup b.reverse))
theorem NS{X:Cx}(S:X.calm=true)(hg:Gl X "tuple")(hm:X.mg "tuple"=none)(A:Gl X "reversed")(n:X.mg "reversed"=none)(hl:PE X l tl)
  (J:starEach [l] X.env=[(false,eval l X.env)]:=by rfl)(j:starEach [Expr.Call (.Name "reversed" p2) [l] [] pos2] X.env=[(false,eval (.Call (.Name "reversed" p2) [l] [] pos2) X.env)]:=by rfl):PE X (.Call (.Name "tuple" p) [.Call (.Name "reversed" p2) [l] [] pos2] [] pos) (pz X.K tl):=by
 intro t s u H Q I h;refine qo (l6 I hg hm PyProof.Rows.Boot.tuple (qy (e:=.Call (.Name "reversed" p2) [l] [] pos2) (rest:=[]) ?_ j rfl))
 rw[j];refine qq (qo (l6 I A n SD (qy (e:=l) (rest:=[]) ?_ J rfl)));rw[J];refine qq (aZ (hl t s u H _ I h) λv d ⟨x,H1,m,r1,q1⟩=>sN ?_);obtain⟨a,P,rfl,Y,hn,hk,q⟩:=q1;cases r1;obtain⟨c,G,y,U⟩:=m.tuple Y;have k:=G.length;have g:c.toArray.size=P.length:=by rw[dH];exact k.symm
 refine P3 (items:=c.toArray) y (by rw[g];lia) λR=>sN ?_
 have I2:Inv X t u H1 { d with heap:=d.heap.push { cls:=.type "reversed",data:=.fields #[.ref a,rawInt ((c.toArray.size:Int)-1)] },toks:=R }:=m.kept λb o e=>bX _ e
 have T:d.heap.objs.size≠a:=cO (dY (show IsTup d.heap a c.toArray from y).lt);have w:IsTup (d.heap.push { cls:=.type "reversed",data:=.fields #[.ref a,rawInt ((c.toArray.size:Int)-1)] }) a c.toArray:=let ⟨o,e,r⟩:=(show IsTup d.heap a c.toArray from y); ⟨o,bX _ e,r⟩
 refine Uv (items:=c.toArray) (I.ok.hd S) T (by rw[g];exact hk) (by rw[g];intro z;exact hn (DQ.mp z)) ⟨_,ed _ rfl,rfl,rfl⟩ w λC i kp=>?_
 have f:=m.fpOk (H':=H1) (aY _) (m.hok.fresh (aY _));have E:Inv X t u H1 {d with heap:=C,toks:=i}:=I2.turned kp f.1 f.2.1 f.2.2.2.1 f.2.2.2.2.1 f.2.2.2.2.2;refine⟨.ref C.objs.size,_,E.laid (t':=i) (o:=.tup P.reverse) (λb o e=>bX _ e) (aY _) ⟨by rw[qt];exact U,c.reverse,Cw G,?_⟩,rfl,q _ (E.hok.fresh (aY _))⟩;rw[←List.reverse_toArray];exact IsTup.new _ _
theorem MD(f:(d==sysModules)=false):MeetsIn P w (Builtin.«dict.__len__» ⟨[.ref d],[]⟩) (λ_ R s=>Dct.kZ s.heap d es ep/\R (.ok (.ret (.int es.size s.toks))) {s with toks:=s.toks+1}):=
 .of_wp λA R s b=>by
  obtain⟨⟨o,e,c,a⟩,h⟩:=b;show wpAny _ _ (dictSize d >>= _) _ _ s;unfold dictSize;refine ab (ab (uJ e a (am (ab (m:=Builtin.Dict.pendingCount d) (wpAny_pendingCount_other f (wpAny_ret_mkInt ?_))))));rw[uE];exact h
theorem Ug{s:Shared}(f:(d==sysModules)=false)(x:Dct.kZ s.heap d es ep)(g:(es.size:Int)<2^60)(h:∀a,Q (decide (es.size≠0)) {s with toks:=a}):wpAny (model P w) B (truthy (.ref d)) Q E s:=by
 have b:=x.is;have c:wpAny (model P w) B (runValue (.builtin "len" ⟨[.ref d],[]⟩)) (λr e=>(∃ t,r=.int es.size t)/\∃ a,e={ s with toks:=a }) E s:=by
  refine wpAny_runValue (sG entry_len ?_);rw[uR plain_len _];unfold Builtin.«len»
  refine ab (m:=oneArg "len" _) (am (ab (m:=callSpecial? (.ref d) (Str.ofString "__len__")) (wpAny_callSpecial?_slot (name:=Str.ofString "__len__") b Os (uB Os b F.entry_dict_len (F.args_dict_len_1 _) (MD f) ⟨x,?_⟩))))
  show wpAny _ _ _ _ _ {s with toks:=s.toks+1};refine ab (jj (am (ab (qa ?_))));show wpAny _ _ (if((es.size:Nat):Int)<0 then _ else _) _ _ _;rw[if_neg '!'];show wpAny _ _ (if((es.size:Nat):Int) ≥ 2^63 then _ else _) _ _ _;rw[if_neg '!'];exact ab (wpAny_mkInt (am ⟨⟨_,rfl⟩,_,rfl⟩))
 unfold truthy;refine ab (wpAny_callSpecial?_none (name:=Str.ofString "__bool__") b noBool_dict ?_)
 refine ab (sH (name:=Str.ofString "__len__") b Os.lookup ?_)
 refine ab (aZ c λr e z=>?_);obtain⟨⟨t,rfl⟩,a,rfl⟩:=z;have:((es.size:Int) != 0)=decide (es.size≠0):=by rw[mf];simp
 exact am (this ▸ h a)
theorem IF:BF X (λx H Q=>∃a b,x=.ref a/\H a=some (.dT b)/\Q (!b.isEmpty) H):=by
 intro w s p H x v Q I g h;obtain⟨a,b,rfl,e,q⟩:=h;cases g;obtain⟨z,l,r,c,o,d,t,i,k,j,m,u⟩:=(show ar X.prog X.w H s.heap a (.dT b) from I.hok a _ e)
 have n:d.size=b.length:=by
  have:=congrArg List.length m;rw[av,gm] at this;rw[this];exact c.length.symm
 rw[iC] at z;refine Ug l ⟨o,i,k,j⟩ '!' λf=>⟨H,I.tok f,?_⟩
 have:decide (d.size≠0)=!b.isEmpty:=by
  rw[n];cases b<;>simp
 rw[this];exact q
theorem Kw(m:PE X a ta)(i:∀b,isTrue a X.env b=(do let v ←b;standAt a.pos;holding [v] (truthy v))):PT X a (λd H Q=>ta d H λx e=>∃p c,x=.ref p/\e p=some (.dT c)/\Q (!c.isEmpty) e):=λf s d H Q I h=>
 isTrue_plain (aZ (m f s d H _ I h) λv g ⟨x,H1,j,k,l⟩=>IF f g d H1 x v Q j k l) (i _)
end L2
namespace Dd
open Spec PyProof.Rows L2
theorem La(a v:Value):checkBuiltinCall "max" ⟨[a],[(Str.ofString "key",v)]⟩=pure ():=by kernel_rfl
theorem M9(v:Value):Builtin.Builtins.bindParams "max" ["key","default"] 0 ⟨[],[(Str.ofString "key",v)]⟩=pure [some v,none]:=rfl
theorem IY{X:Cx}(c:fG X.prog X.w X.K X.mg X.base x k ps Fk)(h1:ps.length=1)(hr:bN (k + 1) X.A)(hg:Gl X "max")(hm:X.mg "max"=none)(hx:Gl X x)(hl:JE X l f)(a3:(x==("__debug__" : Str))=false:=by decide)
  (hs:starEach [l] X.env=(false,eval l X.env)::starEach [] X.env:=by rfl)(he:backTo pos (starEach [l] X.env)=(false,eval l X.env)::backTo pos (starEach [] X.env):=by rfl)(a7:(backTo pos (starEach [l] X.env)).any (·.1)=false:=by rfl):JE X (.Call (.Name "max" p) [l] [⟨some "key",.Name x xp,kpos⟩] pos) (kT f Fk):=by
 obtain⟨fa,fd,G,bn,kp,m⟩:=c;refine⟨λJ s τ H Q I ⟨ρ,σ,au,v,a4,a,rp,e,q⟩=>?_⟩;have nm:(toString "max"++toString ".loop" : String)="max.loop":=by decide
 obtain⟨d,C,e1,e⟩:=za e;refine qo (l6 I hg hm PyProof.Rows.boot_max ?_);refine callWith_kw (aZ (yt hl.out xq hs pos J s τ H (λj H1=>∃u g,j=[u]/\bg ρ H g H1/\bD X.K g C H1/\At X.K g H1 d u) I ⟨ρ,σ,au,d,C,a,rp,e1,λg H1 u x1 r1 a1=>⟨u,g,rfl,x1,r1,a1⟩⟩) λus t a9=>?_) he a7;obtain⟨j,H1,I1,rv,u,g,hv,x1,a0,a1⟩:=a9;subst hv;obtain⟨u',rfl,ru⟩:=vals1 rv;refine kws_cons (Ep I1 hx m (kws_nil ?_) a3);cases d with
 |ref n=>
  dsimp only at e;split at e
  ·rename_i U hn;obtain⟨ms,b0,e2,e⟩:=za e;obtain⟨i,rfl,hp,j,Y,g2⟩:=gJ a0 a1 hn (by intro z;cases z);cases ru;obtain⟨z,ns,ys,a5,A,S,T,o1,ex,dt,e4,e5⟩:=(show ar X.prog X.w H1 t.heap i (.dT j) from I1.hok i _ Y)
   obtain⟨qs,b1,b2,b3⟩:=Fs (P:=X.prog) (w:=X.w) a5 g2.keys;have a6:S.toList.map (·.key)=qs.map λp=>Value.ref p.1:=by rw[e4,fJ];exact b3
   have E:bg g H1 g (aq H1 i (.frz A (.dT j))):=bg.wr hp (pX Y) _;have R:bD X.K g (C.set n (.fT U)) (aq H1 i (.frz A (.dT j))):=a0.wr hp (pX Y) ⟨j,A,zu,g2.ext E⟩;have I2:=I1.freeze Y o1;cases hz:(U.map (·.1)).zip ms with
   |nil=>rw[hz] at e;cases e
   |cons b bs=>
    rw[hz] at e;cases e;show wpAny '#' X.A (call (.builtin "max") [.ref i] [(Str.ofString "key",.ref fa)]) _ _ t
    refine wpAny_call (Oo F.plain_max F.entry_max ?_);rw[show checkBuiltinCall "max" _=pure () from La _ _]
    refine am (ab (oY (M9 _) (ab (am (ab (Dct.EZ ns ⟨A,o1,ex,dt⟩ (ab (jt ?_))))))));rw[nm];have i1:(t.heap.push (Dct.eX i S.size T)).objs.size=t.heap.objs.size+1:=o5 ..
    have I3:Inv X J τ (aq H1 i (.frz A (.dT j))) {t with heap:=(t.heap.push (Dct.eX i S.size T)).push (kh #[] 0)}:=I2.kept (t':=t.toks) λb o q=>bX _ (bX _ q)
    have fI:dX X J (aq H1 i (.frz A (.dT j))) t.heap.objs.size:=I2.fpOk (aY _) (I2.hok.fresh (aY _));have fS:dX X J (aq H1 i (.frz A (.dT j))) (t.heap.push (Dct.eX i S.size T)).objs.size:=I2.fpOk (by rw[i1];exact sj _) (I2.hok.fresh (by rw[i1];exact sj _));have hS:((t.heap.push (Dct.eX i S.size T)).push (kh #[] 0)).get? (t.heap.push (Dct.eX i S.size T)).objs.size=some (kh #[] 0):=ed _ rfl;have a2:∀{y:Addr}{l:List L2.V},H1 y=some (.tup l)->aq H1 i (.frz A (.dT j)) y=some (.tup l):=λ{y l} h=>by
     rw[zq (by rintro rfl;rw[Y] at h;cases h)];exact h
    refine am ⟨sA uY _,ND G bn h1 hr (aW:=J) (τ:=τ) (a:=i) (ob:=A) (vs:=j) (stE:=a4) ex dt a6 (by rw[i1];exact dY (yV _)) qs 0 none #[] 0 _ _ g _ ms rfl ?_ ⟨_,bX _ (ed _ rfl),rfl,rfl⟩ fI fS zu R rfl (λp hp=>a2 (b2 p hp)) (by rw[b1];exact e2) (λ_ zz=>?_) λr s' H' a8 pb er I' x' r' hb=>?_⟩
    ·exact I3.pins_of λp hp=>by
      rcases bT.mp hp with rfl|hp
      ·exact⟨hS,fS.1,fS.2.1,fS.2.2.1,λv z=>by cases z⟩
      ·exact I3.pin p (gE _ hp)
    ·rw[zz] at b1;rw[←b1] at hz;cases hz
    ·rw[b1,hz] at er;cases er;exact⟨.ref pb,H',I',rfl,q a8 H' _ (x1.trans (E.trans x')) r' (.tup hb (vM r' hb) (ur _))⟩
  ·cases e
 |_=>cases e
def gH(f:SE):SE:=λc b=>(f c b).bind λx a=>match x with
 |.tup xs=>if 1<=xs.length/\xs.length<1000 then .ok (.tup xs.reverse) a else .stuck
 |_=>.stuck
theorem qO{K:Fg}:∀{c:List D}{d:List L2.V},ae K ρ H c d->ae K ρ H c.reverse d.reverse
 |_,_,.nil=>.nil
 |_,_,.cons a b=>by rw[nY,nY];exact(qO b).append (.cons a .nil)
theorem Nl{X:Cx}(g:X.calm=true)(A:Gl X "tuple")(y:X.mg "tuple"=none)(m:Gl X "reversed")(h:X.mg "reversed"=none)(c:JE X l f)
  (I:starEach [l] X.env=[(false,eval l X.env)]:=by rfl)(i:starEach [Expr.Call (.Name "reversed" p2) [l] [] pos2] X.env=[(false,eval (.Call (.Name "reversed" p2) [l] [] pos2) X.env)]:=by rfl):JE X (.Call (.Name "tuple" p) [.Call (.Name "reversed" p2) [l] [] pos2] [] pos) (gH f):=
 ⟨fg (NS g A y m h c.out I i) λJ H Q j=>by
  obtain⟨n,C,r,v,s,a,o,e,q⟩:=j;obtain⟨x,k,t,e⟩:=za e;refine⟨n,C,r,x,k,a,o,t,λw H1 u E b G=>?_⟩;cases x with
  |tup xs=>
   dsimp only at e;split at e
   ·rename_i g;cases e;cases G with
    |@tup pa _ vs g1 g2 g3=>
     have c:=g3.length;refine⟨pa,vs,rfl,bz.of g1,λz=>by rw[z] at c;simp at c;lia,by rw[c];exact g.2,λP d=>?_⟩;exact q _ _ _ (E.trans (bg.new d _)) (b.new d _) (.tup zu (CC b d) ((qO g3).ext (bg.new d _)))
   ·cases e
  |_=>cases e⟩
def kW(f:SE):ST:=λc b=>(f c b).bind λv a=>match v with
 |.ref n=>match a[n]? with
  |some (.dT kvs)=>.ok (!kvs.isEmpty) a
  |_=>.stuck
 |_=>.stuck
theorem LA(h:JE X a f)(I:∀b,isTrue a X.env b=(do let v ←b;standAt a.pos;holding [v] (truthy v)):=by intro _;rfl):JT X a (kW f):=⟨j6 (Kw h.out I) λP H Q i=>by
 obtain⟨l,C,s,v,t,j,m,e,q⟩:=i;obtain⟨x,k,w,e⟩:=za e;refine⟨l,C,s,x,k,j,m,w,λy H1 u E d G=>?_⟩;cases x with
 |ref n=>
  dsimp only at e;split at e
  ·rename_i c J;cases e;obtain⟨p,rfl,R,g,A,o⟩:=gJ d G J (by intro z;cases z);have r:c.isEmpty=g.isEmpty:=by
    have:=o.length;cases c<;>cases g<;>simp at this ⊢
   exact⟨p,g,rfl,A,by rw[←r];exact q _ _ E d⟩
  ·cases e
 |_=>cases e⟩
end Dd
namespace Dd
open L2
def Sj:SS:=(aD (aF 2 (aU aO (aA 3) (aU bR (eC (.int 2)) (aA 2))))
 (aF 1 (aU aO (aT (aB (aA 2) aC)) (aA 1))))
def CT:cq:=cn 4 1 (aD (aF 1 (aT aC))
 (aD (aF 2 (eC (.int 0)))
 (aD (ba (nD (aA 0)) (gN 3) Sj)
 (ap (aA 1)))))
def Sy:SS:=(aF 1 (aE BV (aB (aA 1) (aB (aT (aB (aT (aB (aA 2) aC)) aC)) aC))))
def uA:cq:=cn 3 1 (aD (aF 1 (aT (aB (aT aC) aC)))
 (aD (ba (aH (aA 0)) (gN 2) Sy)
 (ap (aA 1))))
def p8:cq:=cn 1 1 (ap (gH (aU aO (aA 0) (aU fP (aT (aB (eC (.int 0)) aC)) (aU bH (eC (.int 4)) (aE bU (aB (aA 0) aC)))))))
def FA:SS:=(aD (iI 1 (aF 4 (aE CT (aB (kT (aA 1) p8) aC))))
 (aD (br (bw (aA 3) (aB (aA 4) aC)))
 (ba (aH (aE uA (aB (aA 4) aC))) (gN 2) RZ)))
def re:cq:=cn 5 1 (aD (aF 1 eO)
 (aD (ba (aH (aA 0)) (gN 2) uz)
 (aD (aF 3 (bZ aC))
 (aD (cM (kW (aA 1)) FA)
 (ap (aE bi (aB (aE bj (aB (aA 3) aC)) aC)))))))
def R7:SS:=(ba (aH (aE uA (aB (aA 2) aC))) (gN 3) Sx)
def oF:cq:=cn 4 1 (aD (aF 1 eO)
 (aD (ba (aH (aA 0)) (gN 2) R7)
 (ap (aE bi (aB (aE bj (aB (aA 1) aC)) aC)))))
def FK:SS:=(aF 3 (aE CS (aB (aT (aB (aT (aB (aA 4) aC)) aC)) (aB (aA 3) aC))))
def Sz:SS:=(aD (aF 3 (aT (aB (aT aC) aC)))
 (aD (ba (aH (iL (aA 2) (jk eH '+'))) (gN 4) FK)
 (br (eA (aA 1) (aB (aE hV (aB (aA 3) aC)) aC)))))
def rM:cq:=cn 5 1 (aD (aF 1 (bZ aC))
 (aD (ba (aH (aA 0)) (gN 2) Sz)
 (ap (aE j4 (aB (lV (aA 1)) aC)))))
def Vb:SS:=(aF 1 (aU aO (aU aO (aA 1) (aU fR (aU bH (aU bH (aA 0) (aU nj (eC (.int 15)) (aA 2))) (aU nj (eC (.int 7)) (aA 3))) (eC (.int 3)))) '+'))
def Vc:SS:=(ba (hG (aB (aU aO (aU fR (aU bH (aA 0) (aU nj (eC (.int 15)) (aA 2))) (eC (.int 7))) '+') aC)) (gN 3) Vb)
def vP:cq:=cn 4 1 (aD (aF 1 (eC (.int 0)))
 (aD (ba (hG (aB (aU aO (aU fR (aA 0) (eC (.int 15))) '+') aC)) (gN 2) Vc)
 (ap (aA 1))))
def v7:cq:=cn 1 1 (ap (aE (eP true) (aB (aG (hG (aB (aU bH (aE bU (aB (aA 0) aC)) '+') aC)) 1 [0] (gN 0) aI (aU Wp (aU cB (aA 1) (aA 0)) (aU bR (eC (.int 2)) (aU cB (aA 1) (aU aO (aA 0) '+'))))) aC)))
def v9:cq:=cn 1 1 (aD (fc (kX (dW (cD (aE md (aB (aA 0) aC)))) (dW (eB (dQ lO lO (eC (.int 0)) (aA 0) (eC (.int 16)))))) f9 fw)
 (ap (aE (fm oH 7) (aB (aA 0) (aB (aA 0) aC)))))
def PR:SS:=(aD (aF 2 (aE vJ (aB (aA 0) (aB (aA 1) aC))))
 (aD (aF 3 (aE vQ (aB (aA 2) (aB (aU cB (ip (aB (eC (.int 6)) (aB (eC (.int 12)) aC))) (aE pM (aB (aU lP (aE zx (aB (aA 2) (aB (eC (.int 4)) aC))) (eC (.int 0))) aC))) (aB (eC (.int 16)) (aB (eC (.int 6)) aC))))))
 (aD (aF 4 (aE C3 (aB (aA 2) (aB (eC (.int 12)) (aB (eC (.int 16)) aC)))))
 (aD (aF 5 (aE zx (aB (aA 2) (aB (eC (.int 17)) aC))))
 (aD (fc (dW (cD (aE rJ (aB (aE oF (aB (aA 3) aC)) (aB (aE rM (aB (aA 3) aC)) aC))))) (ap (eC (.bl false))) fw)
 (aD (aF 6 (aE re (aB (aA 4) aC)))
 (aD (fc (kX (dW (cD (aE rJ (aB (aA 6) (aB (aE j4 (aB (aE hV (aB (aA 6) aC)) aC)) aC))))) (kX (eB (aU lN (aE rM (aB (aA 6) aC)) (aA 4))) (eB (aU lN (aE oF (aB (aA 6) aC)) (aA 4))))) (ap (eC (.bl false))) fw)
 (aD (fc (dW (cD (aE (eP true) (aB (aG (aH (aA 6)) 1 [] (gN 0) aI (aE v7 (aB (aA 0) aC))) aC)))) (ap (eC (.bl false))) fw)
 (fc (kX (eB (aU lN (aE re (aB (aE oF (aB (aA 3) aC)) aC)) (aE vL (aB (aA 3) aC)))) (eB (aU lN (aE bU (aB (aE v9 (aB (aA 5) aC)) aC)) (aE vP (aB (aA 5) aC))))) (ap (eC (.bl false))) fw)))))))))
def rC:cq:=cn 7 1 (aD (ba (hG (aB (aU aO (aE BE (aB '+' (aB (aE fU (aB (aE bU (aB (aA 0) aC)) (aB (eC (.int 3)) aC))) aC))) '+') aC)) (gN 1) PR)
 (ap (eC (.bl true))))
end Dd
namespace Dd
open L2 K13
namespace Tab
theorem xm(c:1<=b)(a:b<=16):[b]∈fA/\du 1 [b]=b:=by
 have:((List.range 16).all λb=>fA.contains [b+1]&&Nat.beq (du 1 [b+1]) (b+1))=true:=by decide +kernel
 have:=dk.mp this (b-1) (bO.mpr '!');rw[show b-1+1=b by lia,iF] at this;exact⟨by simpa using this.1,gw this.2⟩
theorem r0:[]∈fA/\du 1 []=0/\mn []=1:=by decide +kernel
theorem rP:CL [[]] 0:=λr a=>⟨[],r0.1,eY.mp a,r0.2.1⟩
theorem wH{b:Nat}(c:1<=b)(a:b<=16):CL [[(b:Int)]] b:=λr d=>⟨[b],(xm c a).1,eY.mp d,(xm c a).2⟩
theorem xg:nC [[]]=1:=by
 show mn (kH [])^^^0=1;rw[mK];exact r0.2.2
theorem vg(h:CL l d)(j:l.Nodup):l.length<=40:=by
 by_cases hd:d<=16
 ·have:=pW j (m:=(u9.filter λs=>Nat.beq (du 1 s) d).map aM) λr i=>by
   obtain⟨s,c,rfl,e⟩:=h r i;refine cU.mpr ⟨s,gA.mpr ⟨?_,by rw[e];exact Nat.beq_refl d⟩,rfl⟩;obtain⟨a,b⟩:=jx c;rw[←b];unfold gj;rw[dM];cases q:u9[jB s]? with
   |none=>
    have g:u9.length=84:=by decide +kernel
    rw[List.getElem?_eq_none_iff,g] at q;lia
   |some x=>exact dF q
  rw[av] at this;have f:=dk.mp Js.1 d (bO.mpr '!');exact ax this (ij f)
 ·cases l with
  |nil=>simp
  |cons r l=>
   obtain⟨s,c,_,e⟩:=h r eF;exact absurd (O1 c) '!'
theorem SL(n:CL l d)(o:CL m e)(h:d+e<=16):∀r∈l,∀s∈m,∃a sn,Pr r s a sn:=λr g s j=>by
 obtain⟨a,f,k,p⟩:=n r g;obtain⟨sn,c,i,q⟩:=o s j;have b:du 1 a+du 1 sn<=16:=by lia
 exact⟨a,sn,k,i,BW f,BW c,b,GP f c b⟩
def bE(m:List cf) (a:List Int):List cf:=a.foldl (λm b=>aQ (i5 m b.toNat)) m
def dO(m:List cf) (b:List Int):List cf:=b.foldr (λa m=>aQ (im a.toNat m)) m
theorem Ef:∀{row:List Int}{m:List cf}{d:Nat},CL m d->m.Nodup->(∀x∈row,1<=x)->(d:Int)+row.sum<=16->CL (bE m row) (d+row.sum.toNat)/\(bE m row).Nodup/\∀v,jW (nC (bE m row)) v=jW (nC m) (cY row v)
 |[],m,d,h,nd,_,_=>⟨by simpa [bE] using h,nd,λv=>rfl⟩
 |b::row,m,d,h,nd,hp,hs=>by
  have j:=hp b eF;have a:∀x∈row,1<=x:=λx g=>hp x (cH _ g)
  have k:=jh a;rw[kB] at hs;have q:=Gd (b:=b.toNat) h '!' '!';obtain⟨i,f,c⟩:=Ef (row:=row) q.1.odd (rq _) a '!';refine⟨?_,f,λv=>?_⟩
  ·have e:d+(b::row).sum.toNat=b.toNat+d+row.sum.toNat:=by rw[kB];lia
   rw[e];exact i
  ·show jW (nC (bE (aQ (i5 m b.toNat)) row)) v=_;rw[c,oU,q.2];rfl
theorem ya:∀{row:List Int}{m:List cf}{d:Nat},CL m d->m.Nodup->(∀x∈row,1<=x)->(d:Int)+row.sum<=16->CL (dO m row) (d+row.sum.toNat)/\(dO m row).Nodup/\nC (dO m row)=cY row (nC m)
 |[],m,d,h,nd,_,_=>⟨by simpa [dO] using h,nd,rfl⟩
 |a::row,m,d,h,nd,hp,hs=>by
  have i:=hp a eF;have b:∀x∈row,1<=x:=λx f=>hp x (cH _ f)
  have k:=jh b;rw[kB] at hs;obtain⟨g,j,c⟩:=ya (row:=row) h nd b '!';have q:=Gc (a:=a.toNat) g '!' '!';refine⟨?_,rq _,?_⟩
  ·have e:d+(a::row).sum.toNat=a.toNat+(d+row.sum.toNat):=by rw[kB];lia
   rw[e];exact q.1.odd
  ·show nC (aQ (im a.toNat (dO m row)))=_;rw[oU,q.2,c];rfl
theorem xM:∀(N n:Nat),n<2^N->xr (List.range N) (λi=>if n.testBit i=true then 2^i else 0)=n
 |0,n,h=>by
  have:n=0:=by simpa using h
  subst this;rfl
 |N+1,n,h=>by
  rw[IL];have a:=xM N (n%2^N) (Nat.mod_lt _ (Dh N));rw[jZ (g:=λi=>if n.testBit i=true then 2^i else 0) λi b=>by rw[Nat.testBit_mod_two_pow];simp[bO.mp b]] at a;rw[a];refine Nat.eq_of_testBit_eq λi=>?_
  rw[yP,Nat.testBit_mod_two_pow];by_cases c:i<N
  ·have:(if n.testBit N=true then 2^N else 0).testBit i=false:=by
    split
    ·rw[y9];simp;lia
    ·simp
   rw[this];simp[c]
  ·by_cases c2:i=N
   ·subst c2;cases hb:n.testBit i<;>simp
   ·have d:n.testBit i=false:=Nat.testBit_lt_two_pow (df h (DC ')' '!'));have:(if n.testBit N=true then 2^N else 0).testBit i=false:=by
     split
     ·rw[y9];simp;lia
     ·simp
    rw[this,d];simp
theorem r6(h:i<84):nu (dg i)=2^i:=by
 obtain⟨j,e,q⟩:=vB (qW h).1 (qW h).2;have a:j<84:=by have:=(cK.mp e).1;rwa [oB] at this
 have:dg j=dg i:=by
  show cT.getD j []=_;rw[dM,e];rfl
 rw[q,B8 a h this]
theorem yo(h:n<2^84):jW n 1=n:=by
 show eh (λi=>nu (dg i)) n=n;rw[Uh (h:=λi=>2^i) λi a _=>r6 a];exact xM 84 n h
theorem yE{a:Type}{f:a->Nat}:∀{l:List a},(∀x∈l,f x<2^84)->xr l f<2^84
 |[],_=>by show 0<_;decide
 |x::l,h=>Nat.xor_lt_two_pow (h x eF) (yE λy b=>h y (cH _ b))
theorem wm(h:CA l):nC l<2^84:=yE λr d=>by
 obtain⟨s,e,rfl⟩:=h r d;obtain⟨a,b,c⟩:=rZ e;rw[iA,a];exact b.lt
theorem rc(c:∀x∈row,1<=x)(b:row.sum<=16):CL (bE [[]] row) row.sum.toNat/\(bE [[]] row).Nodup/\nC (bE [[]] row)=nu row/\CL (dO [[]] row) row.sum.toNat/\(dO [[]] row).Nodup/\nC (dO [[]] row)=nu row:=by
 obtain⟨a,g,f⟩:=Ef rP '%' c (by simpa using b);obtain⟨d,e,h⟩:=ya rP '%' c (by simpa using b);rw[jS] at a d;refine⟨a,g,?_,d,e,by rw[h,xg];rfl⟩;rw[←yo (wm a.ca),f,xg];show eh _ (2^0)=_;rw[Qs ')']
 rfl
theorem El{a:List Int}{i:Nat}(h:(a.map D.int)[i]?=some y):∃b,a[i]?=some b/\y=.int b:=by
 rw[eU] at h;obtain⟨b,c,e⟩:=gQ.mp h;exact⟨b,c,e.symm⟩
theorem Sr{a:List Int}(f:∀x∈a,1<=x)(G:a.sum<=16)(k:∀g,Q (aK (bE [[]] a)) (au++g)):WP (uA [aL a] au) Q:=by
 have r:∀i,∃d:Nat,CL (bE [[]] (a.take i)) d/\(bE [[]] (a.take i)).Nodup/\(d:Int)=(a.take i).sum:=λi=>by
  have h:∀x∈a.take i,1<=x:=λx c=>f x (mR c)
  have e:(a.take i).sum+(a.drop i).sum=a.sum:=by rw[←js,kG]
  have C:=jh λx (c:x∈a.drop i)=>f x (qv c)
  have H:=jh h;obtain⟨A,z,_⟩:=Ef rP '%' h (by show((0:Nat):Int)+_<=16;lia);exact⟨_,A,z,by lia⟩
 refine fW rfl ?_;simp only[W,V];refine⟨by show 0<=sizeLine;decide,by show 1<=sizeLine;decide,_,rfl,?_⟩;refine gl (λi l s=>(∃v,l=[some (aL a),some (aK (bE [[]] (a.take i))),v])/\∃g,s=au++g) ⟨⟨_,rfl⟩,[],(lD _).symm⟩ ?_ ?_
 ·rintro i y l s w ⟨⟨v,rfl⟩,g,rfl⟩;obtain⟨b,j,rfl⟩:=El w;have m:=dF j;have E:=f b m;obtain⟨d,q,u,I⟩:=r i;have p:(a.take i).sum+b<=16:=by
   have e:(a.take (i+1)).sum+(a.drop (i+1)).sum=a.sum:=by rw[←js,kG]
   have C:=jh λx (c:x∈a.drop (i+1))=>f x (qv c)
   rw[zg j,js] at e;simp at e;lia
  refine⟨_,rfl,?_⟩;unfold Sy;simp only[W,V];have o:((b.toNat:Nat):Int)=b:=by lia
  have n:=wH (b:=b.toNat) '!' (by have:=jh λx (c:x∈a.take i)=>f x (mR c);lia);rw[o] at n;refine⟨by show 1<=sizeLine;decide,by show 1<=sizeLine;decide,?_⟩;refine MV (one:=bE [[]] (a.take i)) (other:=[[b]]) (vg q u) '%' (SL q n '!') λt=>?_
  refine⟨⟨some (.int b),?_⟩,g++t,by rw[dE]⟩;rw[zg j];unfold bE;rw[qi];show _=[some (aL a),some (aK (aQ (i5 _ b.toNat))),_]
  unfold i5;rw[o]
 ·rintro l s ⟨⟨v,rfl⟩,g,rfl⟩;rw[av,fi];simp only[W,V];exact k g
theorem FC(n:∀r∈d,ak r 16 6)(E:d.length<=1000)(k:∀g,Q (aK (aQ (d.flatMap (bE [[]])))) (au++g)):WP (oF [aK d] au) Q:=by
 have j:∀r∈d,(bE [[]] r).length<=40:=λr h=>let ⟨a,b,_⟩:=rc (n r h).pos (n r h).sum;vg a b
 have w:∀i,((d.take i).flatMap (bE [[]])).length<=40000:=λi=>by
  have:=ra (l:=d.take i) (f:=bE [[]]) (c:=40) λr h=>j r (mR h)
  have J:(d.take i).length<=d.length:=by rw[gC];exact mj _ _
  lia
 refine fW rfl ?_;simp only[W,V,Dd.N];refine gl (λi e s=>(∃u o:Option D,e=[some (aK d),'"',u,o])/\∃g,s=au++(.dT (aS (aP ((d.take i).flatMap (bE [[]]))))::g)) ⟨⟨_,_,rfl⟩,[],rfl⟩ ?_ ?_
 ·rintro i y e s q ⟨⟨u,o,rfl⟩,g,rfl⟩;obtain⟨r,m,rfl⟩:=jg q;have p:=dF m;refine⟨_,rfl,?_⟩;unfold R7;simp only[W,V,Dd.N];refine Sr (n r p).pos (n r p).sum λA=>?_
  simp only[W,V,Dd.N];rw[dE,kE];generalize g++A=g3;have v:=w i;have H:=j r p;refine gl (λz e s=>(∃t:Option D,e=[some (aK d),'"',some (aL r),t])/\s=au++(.dT (aS (aP (((d.take i).flatMap (bE [[]]))++(bE [[]] r).take z)))::g3)) ⟨⟨_,rfl⟩,by simp⟩ ?_ ?_
  ·rintro z y e s q ⟨⟨t,rfl⟩,rfl⟩;obtain⟨b,C,rfl⟩:=jg q;refine⟨_,rfl,?_⟩;unfold Sx;simp only[W,V,L];have x:=ry (((d.take i).flatMap (bE [[]]))++(bE [[]] r).take z);have G:((bE [[]] r).take z).length<=(bE [[]] r).length:=by rw[gC];exact mj _ _
   rw[dq] at x;refine Ej (eT _ _) '!' ⟨⟨_,rfl⟩,?_⟩;rw[gO,zg C,←dE,Q3]
  ·rintro e s ⟨⟨t,rfl⟩,rfl⟩;simp only[L];refine⟨⟨_,_,rfl⟩,g3,?_⟩;rw[ze,fi,zg m,qr,DJ]
 ·rintro e s ⟨⟨u,o,rfl⟩,g,rfl⟩;rw[ze,fi];have v:=w d.length;rw[fi] at v;simp only[W,V];have I:=ry (d.flatMap (bE [[]]));refine Rb (eT _ _) '!' ?_;simp only[W,V];exact k _
theorem Qe(m:List cf)(row:List Int):row.reverse.foldl (λm a=>aQ (im a.toNat m)) m=dO m row:=by
 unfold dO;rw[List.foldl_reverse]
theorem Lo{b:List Int}(h:b.reverse[i]?=some a):∃p q,b=p++a::q/\b.reverse.take i=q.reverse:=by
 obtain⟨d,e⟩:=cK.mp h;refine⟨(b.reverse.drop (i+1)).reverse,(b.reverse.take i).reverse,?_,by rw[sQ]⟩;have:=kG i b.reverse;rw[jU d,e] at this;have c:=congrArg List.reverse this;rw[sQ] at c;refine c.symm.trans ?_;rw[Dz,nY,dE];rfl
theorem UV{d:'$'}{c:List Int}(f:∀x∈c,1<=x)(H:c.sum<=16) {T:SS}(k:∀h g,WP (T [some (aK d),v1,some (aL c),some (aK (dO [[]] c)),h] (au++g)) QQ):
  WP (aD (aF 3 (aT (aB (aT aC) aC))) (aD (ba (aH (iL (aA 2) (jk eH '+'))) (gN 4) FK) T) [some (aK d),v1,some (aL c),v3,h] au) QQ:=by
 simp only[W,V,Dd.N];refine⟨by show 0<=sizeLine;decide,by show 1<=sizeLine;decide,?_⟩;have I:iL (aA 2) (jk eH '+') [some (aK d),v1,some (aL c),some (aK [[]]),h] au=.ok (.tup (c.map D.int).reverse) au:=rfl;refine WP.of I ⟨_,rfl,?_⟩;rw[←yS];refine gl (λi j s=>(∃v,j=[some (aK d),v1,some (aL c),some (aK ((c.reverse.take i).foldl (λm a=>aQ (im a.toNat m)) [[]])),v])/\∃g,s=au++g) ⟨⟨_,rfl⟩,[],(lD _).symm⟩ ?_ ?_
 ·rintro i y j s G ⟨⟨v,rfl⟩,g,rfl⟩;obtain⟨a,o,rfl⟩:=El G;obtain⟨p,q,e,J⟩:=Lo o;have r:(c.reverse.take i).foldl (λm a=>aQ (im a.toNat m)) [[]]=dO [[]] q:=by rw[J];exact Qe _ _
  have n:∀x∈q,1<=x:=λx l=>f x (by rw[e];simp[l])
  have P:1<=a:=f a (by rw[e];simp);have w:a+q.sum<=16:=by
   have Q:=jh λx (l:x∈p)=>f x (by rw[e];simp[l])
   rw[e,js,kB] at H;lia
  have E:=jh n;obtain⟨_,_,_,z,C,_⟩:=rc n '!';refine⟨_,rfl,?_⟩;unfold FK;simp only[W,V];refine⟨by show 1<=sizeLine;decide,by show 1<=sizeLine;decide,?_⟩;have t:((a.toNat:Nat):Int)=a:=by lia
  have u:=wH (b:=a.toNat) '!' '!';rw[t] at u;rw[r];refine Va (one:=[[a]]) (other:=dO [[]] q) '%' (vg z C) (SL u z '!') λA=>?_
  refine⟨⟨some (.int a),?_⟩,g++A,by rw[dE]⟩;rw[zg o,qi,r];show _=[some (aK d),v1,some (aL c),some (aK (aQ (im a.toNat _))),_]
  unfold im;rw[t]
 ·rintro j s ⟨⟨v,rfl⟩,g,rfl⟩;rw[av,fi,Qe];exact k v g
theorem Su(m:∀r∈d,ak r 16 6)(C:d.length<=1000)(k:∀g,Q (aK (aQ (d.flatMap (dO [[]])))) (au++g)):WP (rM [aK d] au) Q:=by
 have e:∀r∈d,(dO [[]] r).length<=40:=λr h=>let ⟨_,_,_,a,b,_⟩:=rc (m r h).pos (m r h).sum;vg a b
 have u:∀i,((d.take i).flatMap (dO [[]])).length<=40000:=λi=>by
  have:=ra (l:=d.take i) (f:=dO [[]]) (c:=40) λr h=>e r (mR h)
  have A:(d.take i).length<=d.length:=by rw[gC];exact mj _ _
  lia
 refine fW rfl ?_;simp only[W,V,Dd.N];refine⟨by show 0<=sizeLine;decide,?_⟩;refine gl (λi o s=>(∃p t n:Option D,o=[some (aK d),'"',p,t,n])/\∃g,s=au++(.lst (aJ ((d.take i).flatMap (dO [[]])))::g)) ⟨⟨_,_,_,rfl⟩,[],rfl⟩ ?_ ?_
 ·rintro i y o s x ⟨⟨p,t,n,rfl⟩,g,rfl⟩;obtain⟨r,j,rfl⟩:=jg x;have q:=dF j;refine⟨_,rfl,?_⟩;unfold Sz;refine UV (m r q).pos (m r q).sum λn w=>?_
  simp only[W,V,Dd.N,L,Fn];rw[dE,kE];have v:=u i;have E:=e r q;refine⟨_,_,rfl,eT _ _,_,_,_,rfl,eT _ _,rfl,by rw[ze,ze,iC];lia,⟨_,_,_,rfl⟩,g++w,?_⟩;rw[gO,zg j,qr,DJ];unfold aJ;rw[fX]
 ·rintro o s ⟨⟨p,t,n,rfl⟩,g,rfl⟩;rw[ze,fi];have v:=u d.length;rw[fi] at v;simp only[W,V,M];refine⟨_,_,rfl,eT _ _,?_⟩;rw[gO];refine B5 rfl '!' λz=>?_
  rw[dE];exact k _
end Tab
end Dd
namespace Dd
open L2 K07 K23
end Dd
namespace K29
end K29
namespace Dd
open L2 K07 K23
theorem KP{N:Nat}(g:σ[i]?=some (some (.ref N)))(d:au[N]?=some (.dT kv0))(w:WP (f σ au) (λc s=>∃a b,c=.nx a/\s[N]?=some (.fT b)/\QQ (.nx a) (s.set N (.dT b)))):WP (iI i f σ au) QQ:=by
 obtain⟨c,s,e,a,b,rfl,h,q⟩:=w.get;unfold iI;rw[g];dsimp only;rw[d];dsimp only;rw[e,zt,h];exact q
where stB28 (r:List Int):Bool:=decide (db r=[])
theorem U7(h:au[n]?=some (.lst (aJ l)))(a:l.length<=1000000):bj [.ref n] au=.ok (.lst (aJ (aw l))) au:=by
 unfold bj;dsimp only
 rw[show(eI au (.ref n)).bind fC=some l from by
  rw[show eI au (.ref n)=some (aJ l) from by unfold eI;dsimp only;rw[h]]
  exact TJ l]
 dsimp only;rw[if_pos a]
end Dd
namespace Dd
open L2 K13
namespace Tab
noncomputable def i8(r:List Int):List Int:=(r++List.replicate (4-r.length) 0).reverse
def cA(j:Nat):List Int:=aM (gj j)
def iX(r:List Int):Nat:=jB (kH r)
theorem JH:((List.range 84).all λi=>(List.range 84).all λj=>HT.lexLt (i8 (cA i)) (i8 (cA j))==Nat.blt i j)=true:=by decide +kernel
theorem jq(h:∃s∈fA,r=aM s):iX r<84/\cA (iX r)=r:=by
 obtain⟨s,c,rfl⟩:=h;obtain⟨a,b⟩:=jx c;unfold iX cA;rw[iA,b];exact⟨a,rfl⟩
theorem HA(e:∃x∈fA,r=aM x)(f:∃x∈fA,s=aM x):HT.lexLt (i8 r) (i8 s)=Nat.blt (iX r) (iX s):=by
 obtain⟨a,b⟩:=jq e;obtain⟨c,d⟩:=jq f;have:=dk.mp (dk.mp JH _ (bO.mpr a)) _ (bO.mpr c);rw[b,d] at this;exact eq_of_beq this
theorem wJ(h:∃s∈fA,r=aM s):r.length<=4:=by
 obtain⟨s,a,rfl⟩:=h;unfold aM;rw[av];exact BW a
theorem TD(h:WP (f σ au) (λx s=>∃a,x=.tup a/\1<=a.length/\a.length<1000/\Q (.tup a.reverse) s)):WP (gH f σ au) Q:=by
 obtain⟨v,s,e,a,rfl,c,b,q⟩:=h.get;refine WP.of ?_ q;unfold gH;rw[e,zt];dsimp only;rw[if_pos ⟨c,b⟩]
theorem KB(m:Nat):rz (List.replicate m 0)=aL (List.replicate m 0):=by
 rw[q7];unfold aM;rw[List.map_replicate];rfl
theorem M8{r:List Int}(h:r.length<=4)(au:aa):p8 [aL r] au=.ok (aL (i8 r)) au:=by
 have a:WP (p8 [aL r] au) (λv s=>v=aL (i8 r)/\s=au):=by
  refine fW rfl ?_;simp only[W,V,Dd.N];refine TD ?_;simp only[W,V,Dd.N,List.replicate];have e:(4:Int)-((r.map D.int).length:Int)=((4-r.length:Nat):Int):=by rw[av];lia
  refine⟨by show 1<=sizeLine;decide,?_⟩;rw[e];refine WP.of (vO '!') ?_;rw[KB];have b:aO (aL r) (aL (List.replicate (4-r.length) 0)) au=.ok (aL (r++List.replicate (4-r.length) 0)) au:=by
   unfold aO aL;dsimp only;rw[if_pos (by simp;rw[iC];lia),fX]
  refine WP.of b ⟨_,rfl,?_,?_,?_,rfl⟩
  ·simp;lia
  ·simp;lia
  ·unfold i8 aL;rw[yS]
 obtain⟨v,s,e,rfl,rfl⟩:=a.get;exact e
theorem x9:∀{b:'$'}(a:aa),(∀r∈b,r.length<=4)->kO p8 b a=.ok (b.map i8) a
 |[],_,_=>rfl
 |r::b,a,h=>by
  show(p8 [aL r] a).bind _=_;rw[M8 (h r eF),zt];show(match bv ((i8 r).map .int) with|some m=>_|none=>_)=_;rw[vR];dsimp only;rw[x9 a λx c=>h x (cH _ c),zt]
  rfl
theorem EC:∀{ks:'$'}{b:List Int},(∀r∈b::ks,∃s∈fA,r=aM s)->∃m∈b::ks,pickK (b,i8 b) (ks.map λr=>(r,i8 r))=(m,i8 m)/\∀r∈b::ks,iX r<=iX m
 |[],b,_=>⟨b,eF,rfl,λr hr=>by rw[eY.mp hr];exact aY _⟩
 |x::ks,b,h=>by
  have g:=h b eF;have i:=h x '%';show ∃m∈b::x::ks,pickK (if HT.lexLt (i8 b) (i8 x) then(x,i8 x) else(b,i8 b)) (ks.map λr=>(r,i8 r))=_/\_
  rw[HA g i];cases c:Nat.blt (iX b) (iX x) with
  |true=>
   obtain⟨m,f,e,d⟩:=EC (ks:=ks) (b:=x) λr hr=>h r (cH _ hr)
   refine⟨m,cH _ f,e,λr hr=>?_⟩;rcases bT.mp hr with rfl|hr
   ·have:=d x eF;have:iX r<iX x:=ij c;lia
   ·exact d r hr
  |false=>
   obtain⟨m,f,e,d⟩:=EC (ks:=ks) (b:=b) λr hr=>h r (by rcases bT.mp hr with z|z<;>simp[z])
   refine⟨m,by rcases bT.mp f with z|z<;>simp[z],e,λr hr=>?_⟩;rcases bT.mp hr with rfl|hr
   ·exact d r eF
   ·rcases bT.mp hr with rfl|hr
    ·have a:=d b eF;have:¬ iX b<iX r:=λz=>by rw[show Nat.blt (iX b) (iX r)=true from pj z] at c;cases c
     lia
    ·exact d r (cH _ hr)
theorem HD{N:Nat}(n:f σ au=.ok (.ref N) au)(d:au[N]?=some (.dT (aS ks)))(c:∀r∈ks,∃s∈fA,r=aM s)(e:ks≠[]):
  ∃m∈ks,kT f p8 σ au=.ok (aL m) (au.set N (.fT (aS ks)))/\∀r∈ks,iX r<=iX m:=by
 cases ks with
 |nil=>exact absurd rfl e
 |cons b ks=>
  obtain⟨m,j,i,g⟩:=EC c;refine⟨m,j,?_,g⟩;have h:(aS (b::ks)).map (·.1)=b::ks:=by unfold aS;rw[fJ];exact List.map_id _
  unfold kT;rw[n,zt];dsimp only;rw[d];dsimp only;rw[h,x9 _ λr k=>wJ (c r k),zt,bP,y8];dsimp only;have o:ks.zip (ks.map i8)=ks.map λr=>(r,i8 r):=by
   clear c j i g h d e
   induction ks with
   |nil=>rfl
   |cons a l ih=>rw[bP,y8,ih];rfl
  rw[o,i]
theorem Hz(m:s∈fA)(k:∀g,Q (aL (dg (ldC.getD (jB s) 0))) (au++g)):WP (CT [aL (aM s)] au) Q:=by
 refine fW rfl ?_;simp only[W,V,Dd.N];refine⟨by show 0<=sizeLine;decide,?_⟩;refine K0 (xs:=(aM s).map D.int) rfl ?_;rw[←yS];refine gl (λi h c=>(∃v,h=[some (aL (aM s)),some (aL (aM (ez (s.reverse.take i).reverse))),some (.int (gt (ez (s.reverse.take i).reverse) 0:Nat)),v])/\c=au) ⟨⟨_,rfl⟩,rfl⟩ ?_ ?_
 ·rintro i y h c z ⟨⟨v,rfl⟩,rfl⟩;obtain⟨b,f,rfl⟩:=El z;have d:s.reverse[i]?=some b.toNat/\((b.toNat:Nat):Int)=b:=by
   unfold aM at f;rw[←yS,eU] at f;obtain⟨x,j,rfl⟩:=gQ.mp f;exact⟨by simpa using j,by simp⟩
  obtain⟨j,A⟩:=d;have t:(s.reverse.take (i+1)).reverse=b.toNat::(s.reverse.take i).reverse:=by rw[zg j,Dz];rfl
  have o:ez (s.reverse.take (i+1)).reverse=(b.toNat+2*gt (ez (s.reverse.take i).reverse) 0)::ez (s.reverse.take i).reverse:=by rw[t];rfl
  refine⟨_,rfl,?_⟩;unfold Sj;simp only[W,V,Dd.N,L];rw[o];have C:(ez (s.reverse.take i).reverse).length<=4:=by
   have:∀q:RN,(ez q).length=q.length:=λq=>by
    induction q with
    |nil=>rfl
    |cons a q ih=>show(_::ez q).length=_;rw[dm,ih,dm]
   rw[this,qt,gC];have:=BW m;rw[qt];lia
  have l:((b.toNat+2*gt (ez (s.reverse.take i).reverse) 0:Nat):Int)=b+2*(gt (ez (s.reverse.take i).reverse) 0:Nat):=by lia
  refine⟨.inl ⟨by decide,by decide⟩,by show 1<=sizeLine;decide,?_,⟨some (.int b),?_⟩,trivial⟩
  ·rw[av];unfold aM;rw[av,iC];simp;lia
  ·have u:aM ((b.toNat+2*gt (ez (s.reverse.take i).reverse) 0)::ez (s.reverse.take i).reverse)=(b+2*(gt (ez (s.reverse.take i).reverse) 0:Nat))::aM (ez (s.reverse.take i).reverse):=by
    unfold aM;rw[bP,l]
   have w:((gt ((b.toNat+2*gt (ez (s.reverse.take i).reverse) 0)::ez (s.reverse.take i).reverse) 0:Nat):Int)=b+2*(gt (ez (s.reverse.take i).reverse) 0:Nat):=l;rw[u,w]
   rfl
 ·rintro h c ⟨⟨v,rfl⟩,rfl⟩;rw[av,qt];simp only[W,V];have e:(s.reverse.take (aM s).length).reverse=s:=by
   rw[sT (by unfold aM;simp),sQ]
  rw[e];obtain⟨r,p⟩:=jx m;have:=(nB r).led;rw[p] at this;rw[this];have n:=k []
  rwa [lD] at n
theorem Cc:∀{M:List Nat},M.Nodup->∀i,(xr M λj=>2^j).testBit i=decide (i∈M)
 |[],_,i=>by simp[xr]
 |a::M,nd,i=>by
  rw[iE] at nd;rw[iz,yP,Cc nd.2,y9];by_cases c:a=i
  ·subst c;simp[nd.1]
  ·have:¬ i=a:=λz=>c z.symm
   simp[c,this]
theorem MW{M:List Nat}(b:M.Nodup) (c:j∈M)(h:∀i∈M,i<=j):(xr M λj=>2^j)/2^j=1:=by
 have a:=Cc b j;rw[d5 c] at a;have lt:(xr M λj=>2^j)<2^(j+1):=Nat.lt_pow_two_of_testBit _ λi f=>by
  rw[Cc b];exact dj λz=>by have:=h i z;lia
 have e:(xr M λj=>2^j)/2^j<2:=by
  rw[Nat.div_lt_iff_lt_mul (Dh j)];rw[yL] at lt;lia
 have d:(xr M λj=>2^j)/2^j%2=1:=by
  rw[Nat.testBit_eq_decide_div_mod_eq] at a;exact iZ a
 generalize (xr M λj=>2^j)/2^j=q at e d ⊢;lia
theorem K1(c:a/2^j=1)(d:b/2^j=1):a^^^b<2^j:=by
 have h:(a^^^b)/2^j=0:=by
  rw[←OD,Nat.shiftRight_xor_distrib,OD,OD,c,d];rfl
 rcases Nat.div_eq_zero_iff.mp h with z|z
 ·exact absurd z (mL (Dh j))
 ·exact z
theorem MX(h:a/2^i=1)(k:a/2^j=1):i=j:=by
 have b:∀{i j:Nat},i<j->a/2^i=1->a/2^j=1->False:=λ{i j} c h k=>by
  have e:a<2^(i+1):=by
   have:=Nat.div_add_mod a (2^i);have m:=Nat.mod_lt a (Dh i);rw[h] at this;rw[yL];lia
  have d:2^j<=a:=by
   have:=Nat.div_add_mod a (2^j);rw[k] at this;lia
  have:=DC (n:=2) ')' (show i+1<=j by lia);lia
 rcases Nat.lt_trichotomy i j with c|c|c
 ·exact(b c h k).elim
 ·exact c
 ·exact(b c k h).elim
theorem Cn(h:CA ks)(c:ks.Nodup):(ks.map iX).Nodup:=by
 induction ks with
 |nil=>exact o6
 |cons a ks ih=>
  rw[iE] at c;rw[bP,iE];refine⟨λz=>?_,ih (λr g=>h r (cH _ g)) c.2⟩;obtain⟨b,d,e⟩:=cU.mp z;have i:=(jq (h a eF)).2;have f:=(jq (h b (cH _ d))).2;rw[e,i] at f;exact c.1 (by rw[f];exact d)
theorem yH(h:CA ks):eV jY (nC ks)=xr (ks.map iX) λj=>2^j:=by
 rw[wn h,uj];rfl
theorem L4{a m:'$'}(b:a.Nodup):nC (m.foldl aR a)=nC a^^^nC m:=by
 have e:=Nv (l:=m) b;have:nC (aw (m.foldl aR a))=nC (m.foldl aR a):=by
  exact wA λx=>by rw[(zj _).count_eq]
 rw[←this,e,oU];unfold nC;rw[vN]
structure qQ (N0:Nat) (ks:List (List Int)) (T:List Nat):Prop where
 ca:CA ks
 nd:ks.Nodup
 num:nC ks^^^(xr T λj=>2^ldC.getD j 0)=N0
 lt:∀j∈T,j<84
 tnd:T.Nodup
 far:∀j∈T,∀r∈ks,iX r<j
theorem qQ.turn{T:List Nat}(h:qQ N0 d T) (n:m∈d)(top:∀r∈d,iX r<=iX m):
  ak (dg (ldC.getD (iX m) 0)) 16 6/\qQ N0 ((bE [[]] (dg (ldC.getD (iX m) 0))).foldl aR d) (T++[iX m])/\∀r∈(bE [[]] (dg (ldC.getD (iX m) 0))).foldl aR d,iX r<iX m:=by
 obtain⟨l,C⟩:=jq (h.ca m n);have J:=nB l;have o:=(qW J.ld).1;obtain⟨y,A,u,_⟩:=rc o.pos o.sum;rw[r6 J.ld] at u;have g:CA ((bE [[]] (dg (ldC.getD (iX m) 0))).foldl aR d):=λr f=>by
  rcases Fc f with z|z
  ·exact h.ca r z
  ·exact y.ca r z
 have k:=Qd (m:=bE [[]] (dg (ldC.getD (iX m) 0))) h.nd;have t:nC ((bE [[]] (dg (ldC.getD (iX m) 0))).foldl aR d)=nC d^^^2^ldC.getD (iX m) 0:=by rw[L4 h.nd,u]
 have less:∀r∈(bE [[]] (dg (ldC.getD (iX m) 0))).foldl aR d,iX r<iX m:=λr f=>by
  have s:eV jY (nC ((bE [[]] (dg (ldC.getD (iX m) 0))).foldl aR d))<2^iX m:=by
   rw[t,B3,Eu,yH h.ca]
   exact K1 (MW (Cn h.ca h.nd) (On n) λi v=>by
    obtain⟨r,f,rfl⟩:=cU.mp v;exact top r f) J.top
  rw[yH g] at s;have q:=Cc (Cn g k) (iX r);rw[d5 (On f)] at q;rcases j8 (iX r) (iX m) with z|z
  ·exact z
  ·rw[Nat.testBit_lt_two_pow (df s (DC ')' z))] at q;cases q
 refine⟨o,⟨g,k,?_,λj p=>?_,?_,λj p r f=>?_⟩,less⟩
 ·rw[t,vN,←h.num];show nC d^^^2^_^^^(_^^^(2^_^^^0))=_;rw[mK,h7,sr (2^_) (_^^^_),h7,qc,mK]
 ·rcases fh.mp p with z|z
  ·exact h.lt j z
  ·rw[eY.mp z];exact l
 ·rw[sL];refine⟨h.tnd,by simp,λa w b x e=>?_⟩;rw[eY.mp x] at e;have:=h.far a w m n;lia
 ·rcases fh.mp p with z|z
  ·have E:=less r f;have G:=h.far j z m n;lia
  ·rw[eY.mp z];exact less r f
theorem qQ.done{T:List Nat}(h:qQ N0 [] T):aw (T.map λj=>dg (ldC.getD j 0))=gn N0:=by
 have d:∀i∈T,∀j∈T,ldC.getD i 0=ldC.getD j 0->i=j:=λi f j c e=>by
  have a:=(nB (h.lt i f)).top;have b:=(nB (h.lt j c)).top;rw[e] at a;exact MX a b
 have l:(T.map λj=>dg (ldC.getD j 0)).Nodup:=by
  refine Dp _ (R:=λi j=>i≠j/\i∈T/\j∈T) (λi j z e=>?_) ?_
  ·exact z.1 (d i z.2.1 j z.2.2 (B8 (nB (h.lt i z.2.1)).ld (nB (h.lt j z.2.2)).ld e))
  ·exact DY (λ{a b} m g z=>⟨z,m,g⟩) h.tnd
 rw[xA (λr k=>by
  obtain⟨j,c,rfl⟩:=cU.mp k
  exact qW (nB (h.lt j c)).ld) l]
 congr 1
 have e:cX (T.map λj=>dg (ldC.getD j 0))=xr T λj=>2^ldC.getD j 0:=by
  show xr (T.map _) nu=_;rw[uj];exact jZ λj c=>r6 (nB (h.lt j c)).ld
 rw[e,←h.num];exact(oZ _).symm
theorem Ek(c:aa)(a b:O)(g:aa):(c++a::b::g)[c.length+1]?=some b:=by
 rw[mw '!'];simp
theorem KC(d:aa)(a b c:O)(g:aa):(d++a::b::g).set (d.length+1) c=d++a::c::g:=by
 rw[List.set_append_right _ _ '!'];simp
theorem LO{N:Nat}(g:σ[1]?=some (some (.ref N)))(f:σ[2]?=some (some (aL r)))(b:s[N]?=some (.dT (aS ks)))(c:r∉ks)(h:ks.length<=1000000):uz σ s=.ok (.nx σ) (s.set N (.dT (aS (ks++[r])))):=by
 have d:=rm r;have e:=Fh c;have a:(aS ks).length<sizeLine:=by unfold aS;rw[av];exact cx _ '!'
 rw[←e];unfold uz;rw[EG];simp only[tJ,zt,rW,g,f,d,b,a,hZ]
theorem FL{a:aa}{T:List Nat}(c:qQ (nC l) ks T)(G:ks≠[])
  (k:∀d m v p R,qQ (nC l) d (T++[iX m])->m∈ks->(∀r∈d,iX r<iX m)->QQ (.nx [some (aK l),some (.ref a.length),v,some (.ref (a.length+1)),p]) (a++.dT (aS d)::.lst (aJ ((T++[iX m]).map λj=>dg (ldC.getD j 0)))::R)):
  WP (FA [some (aK l),some (.ref a.length),v,some (.ref (a.length+1)),p] (a++.dT (aS ks)::.lst (aJ (T.map λj=>dg (ldC.getD j 0)))::g)) QQ:=by
 have A:T.length<=84:=by
  have:=pW c.tnd (m:=List.range 84) λj q=>bO.mpr (c.lt j q)
  rwa [nZ] at this
 have E:ks.length<=84:=by
  have:=pW (Cn c.ca c.nd) (m:=List.range 84) λj q=>by
   obtain⟨r,I,rfl⟩:=cU.mp q;exact bO.mpr (jq (c.ca r I)).1
  rwa [av,nZ] at this
 obtain⟨m,t,J,top⟩:=HD (σ:=[some (aK l),some (.ref a.length),v,some (.ref (a.length+1)),p]) (au:=a++.dT (aS ks)::.lst (aJ (T.map λj=>dg (ldC.getD j 0)))::g) (f:=aA 1) (N:=a.length) rfl (eT _ _) c.ca G;obtain⟨e,h,less⟩:=c.turn t top;obtain⟨s,U,x⟩:=c.ca m t;have w:iX m=jB s:=by unfold iX;rw[x,iA]
 unfold FA;simp only[W,V,Dd.N];refine KP (N:=a.length) rfl (eT _ _) ?_;simp only[W,V,Dd.N];refine WP.of J ?_;rw[x,gO];refine Hz U λQ=>?_
 rw[←w,dE,kE,kE];refine⟨_,_,rfl,eT _ _,?_⟩;rw[gO];simp only[W,V,Dd.N,M];refine⟨_,_,rfl,Ek ..,_,_,rfl,Ek ..,by unfold aJ;rw[av,av,iC];lia,?_⟩;rw[KC];refine Sr e.pos e.sum λH=>?_
 simp only[W,V,Dd.N];rw[dE,kE,kE];generalize g++Q++H=g3;have X:aJ (T.map λj=>dg (ldC.getD j 0))++[aL (dg (ldC.getD (iX m) 0))]=aJ ((T++[iX m]).map λj=>dg (ldC.getD j 0)):=by
  unfold aJ;rw[fX,fX];rfl
 rw[X];have u:=vg (rc e.pos e.sum).1 (rc e.pos e.sum).2.1;generalize hC:bE [[]] (dg (ldC.getD (iX m) 0))=C at h less u;refine gl (λz n o=>(∃i,n=[some (aK l),some (.ref a.length),i,some (.ref (a.length+1)),some (aL (dg (ldC.getD (iX m) 0)))])/\o=a++.dT (aS ((C.take z).foldl aR ks))::.lst (aJ ((T++[iX m]).map λj=>dg (ldC.getD j 0)))::g3) ⟨⟨_,rfl⟩,rfl⟩ ?_ ?_
 ·rintro z y n o P ⟨⟨i,rfl⟩,rfl⟩;obtain⟨b,S,rfl⟩:=jg P;refine⟨_,rfl,?_⟩;unfold RZ;simp only[W,V,L];have Y:=Sd (C.take z) ks c.nd;have h2:(C.take z).length<=C.length:=by rw[gC];exact mj _ _
  refine Ej (eT _ _) '!' ⟨⟨_,rfl⟩,?_⟩;rw[gO,zg S,qi]
  rfl
 ·rintro n o ⟨⟨i,rfl⟩,rfl⟩;rw[ze,fi];exact k _ m i _ _ h t less
theorem Rx(p:CA l)(v:l.Nodup)(k:∀g,Q (aK (gn (nC l))) (au++g)):WP (re [aK l] au) Q:=by
 have x:l.length<=84:=by
  have:=pW (Cn p v) (m:=List.range 84) λj d=>by
   obtain⟨r,h,rfl⟩:=cU.mp d;exact bO.mpr (jq (p r h)).1
  rwa [av,nZ] at this
 refine fW rfl ?_;simp only[W,V,Dd.N];refine gl (λi o s=>(∃b,o=[some (aK l),'"',b,none,none])/\s=au++[.dT (aS (l.take i))]) ⟨⟨_,rfl⟩,rfl⟩ ?_ ?_
 ·rintro i y o s G ⟨⟨b,rfl⟩,rfl⟩;obtain⟨r,h,rfl⟩:=jg G;refine⟨_,rfl,?_⟩;have C:r∉l.take i:=λz=>by
   have e:(l.take (i+1)).Nodup:=(Du (i+1) l).nodup v;rw[zg h,sL] at e;exact e.2.2 r z r '%' rfl
  refine WP.of (LO (N:=au.length) (ks:=l.take i) rfl rfl (eT _ _) C (by rw[gC];lia)) ?_;simp only[L];refine⟨⟨_,rfl⟩,?_⟩;rw[gO,zg h]
 ·rintro o s ⟨⟨b,rfl⟩,rfl⟩;rw[ze,fi];simp only[W,V,Dd.N];refine⟨by show 0<=sizeLine;decide,?_⟩;refine vH (λn o s=>∃c T b f g,o=[some (aK l),'"',b,some (.ref (au.length+1)),f]/\s=au++.dT (aS c)::.lst (aJ (T.map λj=>dg (ldC.getD j 0)))::g/\qQ (nC l) c T/\∀r∈c,iX r<n) (k:=84) ⟨l,[],b,none,[],by simp,by simp[aJ],⟨p,v,mK _,λj d=>by simp at d,o6,λj d=>by simp at d⟩,λr h=>(jq (p r h)).1⟩ ')' ?_;rintro n o s ⟨c,T,b,f,g,rfl,rfl,q,I⟩;have A:kW (aA 1) [some (aK l),'"',b,some (.ref (au.length+1)),f] (au++.dT (aS c)::.lst (aJ (T.map λj=>dg (ldC.getD j 0)))::g)=.ok (!(aS c).isEmpty) (au++.dT (aS c)::.lst (aJ (T.map λj=>dg (ldC.getD j 0)))::g):=by
   unfold kW;rw[show aA 1 [some (aK l),'"',b,some (.ref (au.length+1)),f] (au++.dT (aS c)::.lst (aJ (T.map λj=>dg (ldC.getD j 0)))::g)=.ok (.ref au.length) _ from rfl,zt];dsimp only;rw[eT]
  refine WP.of A ?_;cases c with
  |nil=>
   rw[if_neg ')'];have e:=q.done;simp only[W,V,Dd.N];have w:T.length<=84:=by
    have:=pW q.tnd (m:=List.range 84) λj d=>bO.mpr (q.lt j d)
    rwa [nZ] at this
   refine WP.of (U7 (l:=T.map λj=>dg (ldC.getD j 0)) (Ek ..) (by rw[av];lia)) ?_;rw[e];simp only[W,V,Dd.N];exact k _
  |cons a c=>
   rw[if_pos (by rfl)];refine FL q '%' λt m b f H u E less=>?_
   simp only[L];exact⟨iX m,I m E,t,_,b,f,H,rfl,rfl,u,less⟩
end Tab
end Dd
namespace Dd
open L2
noncomputable def ic:Nat->Int->Int->List (List Int)
 |0,_,_=>[]
 |f+1,r,most=>if r=0 then[[]] else(List.range (if most<r then most else r).toNat).flatMap λi:Nat=>(ic f (r-((i:Int)+1)) (((i:Int)+1)/2)).map λw=>((i:Int)+1)::w
theorem KG:∀f∈List.range 8,∀r∈List.range 17,∀m∈List.range 17,(ic f r m).length<=100:=by decide +kernel
theorem yy(e:f<=7)(c:0<=r)(h:r<=16)(d:0<=m)(g:m<=16):(ic f r m).length<=100:=by
 obtain⟨a,rfl⟩:=pr c;obtain⟨b,rfl⟩:=pr d;exact KG f (bO.mpr '!') a (bO.mpr '!') b (bO.mpr '!')
theorem yz:∀(f:Nat) (r m:Int) (w:List Int),w∈ic f r m->w.length<=f
 |0,_,_,_,h=>by simp[ic] at h
 |f+1,r,m,w,h=>by
  unfold ic at h;split at h
  ·rw[eY] at h;rw[h];exact ie _
  ·obtain⟨i,_,h⟩:=mN.mp h;obtain⟨u,a,rfl⟩:=cU.mp h;exact mP (yz f _ _ u a)
theorem Nu{a b:Type}(g:a->List b)(l:List a)(i:Nat):((l.take i).flatMap g).length<=(l.flatMap g).length:=by
 have:=congrArg (λm=>(m.flatMap g).length) (kG i l);simp only[qr,dq] at this;lia
theorem ET(o:O)(g:aa):(au++o::g)[au.length]?=some o:=by simp
theorem Qt(o a:O)(g:aa):(au++o::g).set au.length a=au++a::g:=by simp
theorem R5:∀(f:Nat),f<=7->∀{r m:Int}{a:aa}{Q:D->aa->Prop},0<=r->r<=16->0<=m->m<=16->m<2^(f-1)->1<=f ->
  (∀g,Q (.ref a.length) (a++.lst (aJ (ic f r m))::g))->WP (fm oH f [.int r,.int m] a) Q
 |0,_,_,_,_,_,_,_,_,_,_,h,_=>absurd h '!'
 |f+1,l,r,m,a,Q,h0,h1,h2,h3,h4,_,k=>by
  show WP (oH (fm oH f) [.int r,.int m] a) Q;have o:=λ(l:f<=7)=>@R5 f l
  generalize fm oH f=G at o;unfold oH;refine fW rfl ?_;simp only[W,V];by_cases hr:r=0
  ·subst hr;rw[if_pos rfl];refine⟨small _ '%',small _ '%',?_⟩;have:=k [];unfold ic at this;rw[if_pos rfl] at this;exact this
  ·rw[if_neg hr];have b:=yy (f:=f+1) l h0 h1 h2 h3;unfold ic at b;rw[if_neg hr] at b;have p:∀g,Q (.ref a.length) (a++.lst (aJ ((List.range (if m<r then m else r).toNat).flatMap λi:Nat=>(ic f (r-((i:Int)+1)) (((i:Int)+1)/2)).map λw=>((i:Int)+1)::w))::g):=λg=>by
    have:=k g;unfold ic at this;rw[if_neg hr] at this;exact this
   have t:(if m<r then m else r).toNat<=16/\((if m<r then m else r).toNat:Int)<=r/\((if m<r then m else r).toNat:Int)<=m:=by split<;>lia
   generalize hcc:(if m<r then m else r).toNat=c at t b p;refine⟨small _ '%',_,_,rfl,eM '!' '!',eM (by split<;>lia) (by split<;>lia),?_⟩;have R:((if m<r then m else r)+1-1).toNat=c:=by rw[←hcc];congr 1;lia
   rw[R];refine gl (λi d s=>i<=c/\∃v g,d=[some (.int r),some (.int m),some (.ref a.length),v]/\s=a++.lst (aJ (((List.range c).take i).flatMap λi:Nat=>(ic f (r-((i:Int)+1)) (((i:Int)+1)/2)).map λw=>((i:Int)+1)::w))::g) ⟨ie _,_,[],rfl,rfl⟩ ?_ ?_
   ·rintro i x d s P ⟨n,v,g,rfl,rfl⟩;obtain⟨n,rfl⟩:=pZ P;refine⟨_,rfl,?_⟩;unfold Sk;simp only[W,V,Fn];have A:(1:Int)+i=(i:Int)+1:=by lia
    rw[A];refine⟨_,_,rfl,ET _ _,?_⟩;simp only[W,V,M];have J:1<=f:=by
     rcases Dx f with z|z
     ·subst z;have:m<1:=h4;lia
     ·exact z
    have E:(((i:Int)+1)/2)<2^(f-1):=by
     obtain⟨e,rfl⟩:∃e,f=e+1:=⟨f-1,by lia⟩
     have I:(2:Int)^(e+1+1-1)=2*2^(e+1-1):=by
      rw[Og,Og,Int.pow_succ];lia
     rw[I] at h4;lia
    refine⟨trivial,Jh '!' '!',o '!' '!' '!' '!' '!' E J λj=>⟨_,_,rfl,ET _ _,_,rfl,?_,?_⟩⟩
    ·have:=yy (f:=f) (r:=r-((i:Int)+1)) (m:=((i:Int)+1)/2) '!' '!' '!' '!' '!';rw[ze];exact small _ '!'
    rw[Qt];refine ox (as:=ic f (r-((i:Int)+1)) (((i:Int)+1)/2)) (λd=>∃v,d=[v,some (.int ((i:Int)+1))]) (λ_=>true) (λw=>aL (((i:Int)+1)::w)) aL ⟨_,rfl⟩ ?_ ?_
    ·rintro w u d ⟨v,rfl⟩;refine⟨_,rfl,⟨_,rfl⟩,by simp only[W,nW],λ_=>?_⟩;simp only[W,V];refine⟨small _ '%',small _ (by have:=yz _ _ _ _ u;simp;lia),trivial,rfl⟩
    ·rw[rk];have H:a++O.lst (aJ (((List.range c).take i).flatMap λi:Nat=>(ic f (r-((i:Int)+1)) (((i:Int)+1)/2)).map λw=>((i:Int)+1)::w))::g++O.dead::j=a++O.lst (aJ (((List.range c).take i).flatMap λi:Nat=>(ic f (r-((i:Int)+1)) (((i:Int)+1)/2)).map λw=>((i:Int)+1)::w))::(g++O.dead::j):=by simp
     rw[H];have y:(List.range c).take (i+1)=(List.range c).take i++[i]:=by
      rw[List.take_range,List.take_range,j9 '!',j9 '!',sK]
     have q:((List.range c).take (i+1)).flatMap (λi:Nat=>(ic f (r-((i:Int)+1)) (((i:Int)+1)/2)).map λw=>((i:Int)+1)::w)=(((List.range c).take i).flatMap λi:Nat=>(ic f (r-((i:Int)+1)) (((i:Int)+1)/2)).map λw=>((i:Int)+1)::w)++(ic f (r-((i:Int)+1)) (((i:Int)+1)/2)).map λw=>((i:Int)+1)::w:=by
      rw[y,qr];simp
     have C:=Nu (λi:Nat=>(ic f (r-((i:Int)+1)) (((i:Int)+1)/2)).map λw=>((i:Int)+1)::w) (List.range c) (i+1);rw[q,dq,av] at C;refine⟨_,_,_,rfl,ET _ _,rfl,?_,by lia,_,g++O.dead::j,rfl,?_⟩
     ·rw[ze,av];exact small _ '!'
     ·rw[Qt,q];unfold aJ;rw[fX,fJ]
      rfl
   ·rintro d s ⟨n,v,g,rfl,rfl⟩;rw[lp,sT '%'];simp only[W,V];exact p g
end Dd
namespace Dd
open L2 K13
namespace Tab
theorem yn(l:'$'):aQ (aQ l)=aQ l:=Mb λx=>IS l x
theorem KM(n:Nat):∃L,gn n=aQ L:=by
 refine⟨((List.range 84).filter λi=>n.testBit i).map λi=>cT.getD i [],?_⟩;have c:(((List.range 84).filter λi=>n.testBit i).map λi=>cT.getD i []).Nodup:=by
  refine Dp _ (R:=λi j=>i≠j/\i<84/\j<84) (λi j z e=>z.1 (B8 z.2.1 z.2.2 e)) ?_;exact DY (λ{a b} d f z=>⟨z,bO.mp (gA.mp d).1,bO.mp (gA.mp f).1⟩) (Dk.filter _)
 unfold gn;refine vt c λx=>?_
 rw[yT c];split<;>simp_all
theorem MR(n:Nat):aQ (gn n)=gn n:=by
 obtain⟨L,e⟩:=KM n;rw[e,yn]
theorem EI(h:r∈gn n):ak r 16 6/\iO r:=by
 unfold gn at h;have h:=(zj _).mem_iff.mp h;obtain⟨i,a,rfl⟩:=cU.mp h;exact qW (bO.mp (gA.mp a).1)
theorem KL(h:n<2^84):cX (gn n)=n:=by rw[xh,yp,yo h]
theorem Ei(c:∀r∈rows,ak r 16 6):CA (rows.flatMap (bE [[]]))/\CA (rows.flatMap (dO [[]]))/\nC (rows.flatMap (bE [[]]))=cX rows/\nC (rows.flatMap (dO [[]]))=cX rows:=by
 have b:=λr h=>rc (c r h).pos (c r h).sum
 refine⟨λx a=>?_,λx a=>?_,?_,?_⟩
 ·obtain⟨r,h,a⟩:=mN.mp a;exact(b r h).1.ca x a
 ·obtain⟨r,h,a⟩:=mN.mp a;exact(b r h).2.2.2.1.ca x a
 ·unfold nC;rw[vz];exact jZ λr h=>(b r h).2.2.1
 ·unfold nC;rw[vz];exact jZ λr h=>(b r h).2.2.2.2.2
theorem CA.odd(h:CA l):CA (aQ l):=λr a=>h r (EW a)
theorem QG{e:'$'}(f:∀r∈e,ak r 16 6):aQ (e.flatMap (dO [[]]))=aQ (e.flatMap (bE [[]])):=by
 obtain⟨a,b,c,d⟩:=Ei f;exact yg b a (by rw[c,d])
theorem QB(h:CA l0):aQ ((gn (nC (aQ l0))).flatMap (bE [[]]))=aQ l0:=by
 obtain⟨a,b,c,d⟩:=Ei λr (e:r∈gn (nC (aQ l0)))=>(EI e).1
 have:=yg a h.odd (by rw[c,KL (wm h.odd)]);rw[this,yn]
theorem VD(q:cS au n)(y:0<=c)(I:c<=40)(w:0<=m)(p:m<=16)(k:∀l a,(∀r∈l,Cm m r)->cI au a n->Q (aK (aQ l)) a):WP (C3 [.ref n,.int c,.int m] au) Q:=by
 refine fW rfl ?_;simp only[W,V];refine B9 q '!' '!' λA t G E i=>?_
 try simp only[W,V,Dd.N]
 refine⟨eM '!' '!',by rw[lp];exact small _ '!',?_⟩;refine uo (λj b f s=>∃(l:List cf) (v:Option D),b=aJ l/\l.length=j/\(∀r∈l,Cm m r)/\f=[v,some (.ref n),some (.int m)]/\cI au s n) ⟨[],none,rfl,rfl,by simp,rfl,i⟩ ?_ ?_
 ·rintro j x b f s J ⟨l,v,rfl,e,h,rfl,d⟩;refine⟨_,rfl,?_⟩;simp only[W,V];refine TX d.bag w p λr C o u=>⟨l++[r],_,by simp[aJ],by simp[e],?_,rfl,d.trans u⟩
  intro z hz;rcases fh.mp hz with hz|hz
  ·exact h z hz
  ·rw[eY.mp hz];exact o
 ·rintro H f s ⟨l,v,rfl,e,h,rfl,d⟩;rw[lp] at e;exact B5 (l:=l) rfl '!' λg=>k _ _ h (d.trans (.more d.bag g))
theorem FM(h:∀r∈l,Cm m r):CA l:=λr c=>let ⟨s,a,b,_⟩:=h r c;⟨s,a,b⟩
theorem JK:∀r∈List.range 17,∀au:aa,vP [.int (r:Int)] au=.ok (.int (ic 7 r r).length) au:=by
 intro r a au;simp only[List.range,List.range.loop,bT,pd,oW] at a;rcases a with rfl|rfl|rfl|rfl|rfl|rfl|rfl|rfl|rfl|rfl|rfl|rfl|rfl|rfl|rfl|rfl|rfl
 all_goals rfl
theorem Cv(n:Nat):bJ (List.replicate n (D.bl true))=some (List.replicate n true)/\(List.replicate n true).all id=true:=by
 refine⟨?_,by simp⟩
 induction n with
 |zero=>rfl
 |succ n ih=>
  rw[ml,ml];show(bJ (List.replicate n (D.bl true))).map (true::·)=_;rw[ih];rfl
theorem To(h:ak r 16 6)(s:iO r)(q:Q (.bl true) au):WP (v7 [aL r] au) Q:=by
 have n:=h.len;refine fW rfl ?_;simp only[W,V,Dd.N];rw[av];refine⟨by unfold cF;lia,by rw[lp,iC];lia,?_⟩;refine uo (λj a b s=>a=List.replicate j (D.bl true)/\(∃v,b=[v,some (aL r)])/\s=au) ⟨rfl,⟨_,rfl⟩,rfl⟩ ?_ ?_
 ·rintro j x a b f i ⟨rfl,⟨v,rfl⟩,rfl⟩;obtain⟨l,rfl⟩:=pZ i;have c:j+1<r.length:=by lia
  refine⟨_,rfl,?_⟩;simp only[W,V,Dd.N];rw[su];have e:r[j]?=some r[j]:=cV '!';have d:r[j+1]?=some r[j+1]:=cV c;refine WP.of (um e) ?_;have g:((j:Int)+1)=((j+1:Nat):Int):=by lia
  rw[g];refine WP.of (um d) ?_;simp only[W,V,Dd.N];have k:¬ r[j]<2*r[j+1]:=λz=>s j ⟨_,_,e,d,z⟩
  refine⟨.inl ⟨by decide,by decide⟩,?_,⟨_,rfl⟩,trivial⟩;rw[d5 '!'];exact List.replicate_succ'.symm
 ·rintro m b f ⟨rfl,_,rfl⟩;simp only[W,V,Dd.N,M];refine⟨_,(Cv _).1,?_⟩;rw[(Cv _).2];exact q
theorem Vv{au:aa}{r:Nat}(h:r<=16) (k:∀g,Q (.ref au.length) (au++.lst (aJ (ic 7 r r))::g)):WP (v9 [.int (r:Int)] au) Q:=by
 refine fW rfl ?_;simp only[W,V,Dd.N];refine WP.of (show md [.int (r:Int)] au=.ok (.bl true) au from rfl) ⟨_,rfl,?_⟩;rw[if_neg ')'];have e:dQ lO lO (eC (D.int 0)) (aA 0) (eC (D.int 16)) (some (D.int (r:Int))::List.replicate (1-1) none) au=.ok (.bl true) au:=by
  have a:lO (.int 0) (.int (r:Int)) au=.ok (.bl true) au:=by
   show bu.ok (D.bl (decide ((0:Int)<=r))) au=_;rw[d5 '!']
  have c:lO (.int (r:Int)) (.int 16) au=.ok (.bl true) au:=by
   show bu.ok (D.bl (decide ((r:Int)<=16))) au=_;rw[d5 '!']
  show((lO (.int 0) (.int (r:Int)) au).bind λz b=>_)=_;rw[a,zt];exact c
 refine WP.of e ?_;exact R5 7 ')' '!' '!' '!' '!' (by show(r:Int)<64;lia) ')' k
theorem AL(h:au[m]?=some (.lst xs)):bU [.ref m] au=.ok (.int xs.length) au:=by
 unfold bU;dsimp only;rw[oC h]
theorem LN{n r:Nat}{e:Int}(C:e=r){a:'$'}(c:∀x∈a,ak x 16 6)(A:a.Nodup)(hl:a.length<=60)(y:∀x∈g,Cm 16 x)(i:r<=16) (k:∀q s,QQ (.nx [S,v1,some (.ref n),some (aK a),some (aK (aQ g)),some (.int e),q]) s):
  WP ((aD (fc (dW (cD (aE rJ (aB (aE oF (aB (aA 3) aC)) (aB (aE rM (aB (aA 3) aC)) aC))))) (ap (eC (.bl false))) fw)
 (aD (aF 6 (aE re (aB (aA 4) aC)))
 (aD (fc (kX (dW (cD (aE rJ (aB (aA 6) (aB (aE j4 (aB (aE hV (aB (aA 6) aC)) aC)) aC))))) (kX (eB (aU lN (aE rM (aB (aA 6) aC)) (aA 4))) (eB (aU lN (aE oF (aB (aA 6) aC)) (aA 4))))) (ap (eC (.bl false))) fw)
 (aD (fc (dW (cD (aE (eP true) (aB (aG (aH (aA 6)) 1 [] (gN 0) aI (aE v7 (aB (aA 0) aC))) aC)))) (ap (eC (.bl false))) fw)
 (fc (kX (eB (aU lN (aE re (aB (aE oF (aB (aA 3) aC)) aC)) (aE vL (aB (aA 3) aC)))) (eB (aU lN (aE bU (aB (aE v9 (aB (aA 5) aC)) aC)) (aE vP (aB (aA 5) aC))))) (ap (eC (.bl false))) fw))))) [S,v1,some (.ref n),some (aK a),some (aK (aQ g)),some (.int e),q] au) QQ:=by
 have p:=FM y;obtain⟨u,T,H,R⟩:=Ei c;have t:(gn (nC (aQ g))).length<=84:=KJ _;have b:∀r∈gn (nC (aQ g)),ak r 16 6:=λr h=>(EI h).1
 have d:∀{l:List cf},CA l->∀r∈l,r.length<=1000:=λ{l} h r c=>by have:=wJ (h r c);lia
 simp only[W,V,Dd.N];refine FC c '!' λg1=>?_
 refine Su c '!' λX=>?_
 rw[QG c];refine WP.of (Ss (d u.odd)) ?_;simp only[W,V,Dd.N];refine Rx p.odd (rq _) λY=>?_
 simp only[W,V,Dd.N];refine B5 (l:=gn (nC (aQ g))) rfl '!' λg4=>?_
 rw[MR];refine WP.of (Ss λr c=>by have:=(b r c).len;lia) ⟨_,rfl,?_⟩;rw[if_neg ')'];refine Su b '!' λU=>?_
 rw[QG b,QB p];refine WP.of (B4 (neg:=true) _ _) ?_;rw[if_pos rfl,d5 rfl];dsimp only[bK];rw[if_neg ')'];refine FC b '!' λg6=>?_
 rw[QB p];refine WP.of (B4 (neg:=true) _ _) ?_;rw[if_pos rfl,d5 rfl];dsimp only[bK];simp only[W,V,Dd.N];refine⟨by rw[ze,iC];lia,?_⟩;refine uo (λj f m s=>f=List.replicate j (D.bl true)/\∃v,m=[v]) ⟨rfl,_,rfl⟩ ?_ ?_
 ·rintro j x f m w P ⟨rfl,v,rfl⟩;obtain⟨r,o,rfl⟩:=jg P;obtain⟨G,I⟩:=EI (dF o);refine⟨_,rfl,?_⟩;simp only[W,V,Dd.N];exact To G I ⟨List.replicate_succ'.symm,_,rfl⟩
 ·rintro ys m w ⟨rfl,_,rfl⟩;simp only[W,V,Dd.N,M];refine⟨_,(Cv _).1,?_⟩;rw[(Cv _).2]
  try rw[if_neg ')']
  refine FC c '!' λg7=>?_
  refine Rx u.odd (rq _) λg8=>?_
  rw[oU,H];refine Uk ⟨A,c⟩ λQ=>?_
  refine WP.of (B4 (neg:=true) _ _) ?_;rw[if_pos rfl,d5 rfl];dsimp only[bK];rw[if_neg ')'];subst C;refine Vv i λE=>?_
  have e:=JK r (bO.mpr '!');refine WP.of (AL (eT _ _)) ?_;rw[ze,e];generalize ((ic 7 (r:Int) (r:Int)).length:Int)=L0;refine WP.of rfl ?_;have J:∀(z:Int) (s:aa),fy true (.int z) (.int z) s=.ok (.bl false) s:=λz s=>by
   show bu.ok (D.bl (!decide (z=z))) s=_;rw[d5 rfl];rfl
  refine WP.of (J _ _) ?_;dsimp only[bK];rw[if_neg ')'];exact k _ _
theorem k42_holds(ns:List Int)(hl:ns.length<=63)(au:aa):∃st',rC [.scr (ns.map .int)] au=.ok (.bl true) st':=by
 have:WP (rC [.scr (ns.map .int)] au) (λv _=>v=.bl true):=by
  refine fW rfl ?_;simp only[W,V];have hle:((ns.map D.int).length:Int)<=63:=by rw[av];lia
  have hge:(0:Int)<=((ns.map D.int).length:Int):=by lia
  generalize ((ns.map D.int).length:Int)=len at hle hge;refine⟨_,rfl,eM (by split<;>split<;>lia) (by split<;>split<;>lia),?_⟩;have h20:((if(if 3<len then 3 else len) > 1 then if 3<len then 3 else len else 1)+1).toNat<=20:=by split<;>split<;>lia
  generalize ((if(if 3<len then 3 else len) > 1 then if 3<len then 3 else len else 1)+1).toNat=c at h20;refine gl (λi σ s=>∃v1 v2 v3 v4 v5 v6:Option D,σ=[some (.scr (ns.map .int)),v1,v2,v3,v4,v5,v6]) ⟨_,_,_,_,_,_,rfl⟩ ?_ ?_
  ·rintro i x σ s hx ⟨v1,v2,v3,v4,v5,v6,rfl⟩;obtain⟨hi,rfl⟩:=pZ hx;refine⟨_,rfl,?_⟩;unfold PR;refine nT (R:=λfl s2=>fl=.nx [some (.scr (ns.map .int)),some (.int (0+i)),some (.ref s.length),v3,v4,v5,v6]/\cS s2 s.length) ?_ ?_
   ·simp only[W,V];rw[su];exact GJ hl '!' λg hb=>⟨rfl,hb⟩
   rintro fl s2 ⟨rfl,hb⟩;show WP _ _;refine nT (R:=λfl s3=>∃rows,fl=.nx [some (.scr (ns.map .int)),some (.int (0+i)),some (.ref s.length),some (aK rows),v4,v5,v6]/\(∀x∈rows,ak x 16 6)/\rows.Nodup/\rows.length<=60/\cS s3 s.length) ?_ ?_
   ·simp only[W,V];refine⟨by show 2<=sizeLine;decide,B9 hb '!' '!' λt s3 t0 t1 d=>?_⟩;have fin:∀A:Int,0<=A->A<=60->WP (vQ [.ref s.length,.int A,.int 16,.int 6] s3) (λv s4=>∃rows,Fl.nx [some (D.scr (ns.map .int)),some (.int (0+i)),some (.ref s.length),some v,v4,v5,v6]=.nx [some (.scr (ns.map .int)),some (.int (0+i)),some (.ref s.length),some (aK rows),v4,v5,v6]/\(∀x∈rows,ak x 16 6)/\rows.Nodup/\rows.length<=60/\cS s4 s.length):=λA h0 h1=>by
     obtain⟨l,s4,e,hr,nd,hl,_,d2⟩:=Uz (L:=6) (lg:=6) rfl '!' h0 h1 d.bag (by lia:(0:Int)<=16) '!';exact WP.of e ⟨l,rfl,hr,nd,by lia,d2.bag⟩
    by_cases c0:t=0
    ·subst c0;exact WP.of (show lP (.int 0) (.int 0) s3=.ok (.bl true) s3 from rfl) (WP.of rfl (wl (d:=.int 12) rfl rfl (fin 12 '!' '!')))
    ·have e0:lP (.int t) (.int 0) s3=.ok (.bl false) s3:=by
      show bu.ok (D.bl (decide (t=0))) s3=_;rw[dj c0]
     exact WP.of e0 (WP.of rfl (wl (d:=.int 6) rfl rfl (fin 6 '!' '!')))
   rintro fl s3 ⟨rows,rfl,hr,nd,hlen,hb3⟩;show WP _ _;refine nT (R:=λfl s4=>∃l0,fl=.nx [some (.scr (ns.map .int)),some (.int (0+i)),some (.ref s.length),some (aK rows),some (aK (aQ l0)),v5,v6]/\(∀x∈l0,Cm 16 x)/\cS s4 s.length) ?_ ?_
   ·simp only[W,V];exact VD hb3 '!' '!' '!' '!' λl s4 h1 d=>⟨l,rfl,h1,d.bag⟩
   rintro fl s4 ⟨l0,rfl,hc,hb4⟩;show WP _ _;refine nT (R:=λfl s5=>∃r:Nat,r<=16/\∃e:Int,e=r/\fl=.nx [some (.scr (ns.map .int)),some (.int (0+i)),some (.ref s.length),some (aK rows),some (aK (aQ l0)),some (.int e),v6]) ?_ ?_
   ·simp only[W,V];exact B9 hb4 '!' '!' λt s5 t0 t1 d=>⟨t.toNat,by lia,t,by lia,rfl⟩
   rintro fl s5 ⟨r,h16,e,ee,rfl⟩;show WP _ _;refine LN ee hr nd hlen hc h16 λv6 s6=>?_
   simp only[L];exact⟨_,_,_,_,_,_,rfl⟩
  ·rintro σ s ⟨v1,v2,v3,v4,v5,v6,rfl⟩;simp only[W]
 obtain⟨a,st',e,rfl⟩:=this.get;exact⟨st',e⟩
end Tab
end Dd
namespace K42
theorem holds:∀a:List Int,a.length<=63->∃st',Dd.rC [.scr (a.map .int)] []=.ok (.bl true) st':=λa b=>Dd.Tab.k42_holds a b _
end K42
namespace K42
open L2 Dd
noncomputable def top(i:Nat):Stmt:=PySem.Challenge.pw_raisedsums_k42_rows_to_counts_and_back.main.body.getD i (.Pass ⟨0,0,0,0⟩)
theorem UF{Y:En}(T:ag Y.K "_law_bag" (top 47))(e:Y.mg "len"=none)(a:Y.mg "abs"=none)(h:Y.mg "min"=none)(g:Y.mg "range"=none):Cl Y "_law_bag" 1 ["_law_script","_law_at"] vJ:=dG ["_law_script","_law_at","_law_cell","_law_mix","_law_k"] T λb f i A c s H E d=>(zb (bQ b zd)
 (zb (gI (hY (uh d.units0) ug sv (zf zm jl rfl e jm (ao sv)) (az _)) (zc (bQ b (zf K7 GC rfl a GL (ao (fH sv sv (λ_ _=>rfl)))))) hX)
 (zb (bQ b (dh (cN kx '(' zd sv) zd))
 (zb (dN (ky rfl g (ao (zf (rj rfl) jp rfl h qS (bC (zf zm jl rfl e jm (ao sv)) zd)))) (cR b)
 (zc (bQ b (cN ui '(' (dh (dh (cN kx '(' sv zd) (cN ui '(' (fH sv sv (λ_ _=>rfl)) zd)) sv) zd))))
 (zb (gI (hY (uh d.units0) ug sv (cN HR '(' zd zd) (az _)) (zc (bQ b zd)) hX)
 (zc (zh (jP (bC sv sv)))))))))
theorem UG{Y:En}(T:ag Y.K "_law_odd" (top 49))(d:Y.mg "sorted"=none)(g:Y.mg "tuple"=none):Cl Y "_law_odd" 1 ["_law_things"] j4:=dG ["_law_things","_law_odd_here","_law_thing"] T λc f e A b s H E a=>(zb (bQ c uk)
 (zb (dN (zy sv) (cR c)
 (zc (Cj (iT a) sv sv (rR (Le (iT a) sv sv k8 ⟨rfl,rfl,rfl,rfl⟩)) rfl)))
 (zc (zh (jo zw li rfl g jR (ao (zf (rA rfl a.units) rh rfl d ri (ao (nR rfl (Lk sv) (λ_ _ _ _ _=>(iR (i:=0) (show(["_law_thing","_law_odd_here"]:List Str).Nodup from by decide +kernel) rfl (Or.inl rfl))) (λ_ _ _ _ _=>(Cg (jQ (IW (iT a) sv sv (λ_ _=>rfl))))) (λ_ _ _ _ _=>sv) (N:=["_law_thing","_law_odd_here"]) (k:=1) (is:=[1]) (l8 (by rfl)))))))))))
theorem U0{Y:En}(T:ag Y.K "_law_take" (top 48)): Cl Y "_law_take" 1 ["_law_bag_here","_law_many_here"] zx:=dG ["_law_bag_here","_law_many_here","_law_digit","_law_number","_law_room"] T λa f d A b s H E c=>(zb (gI (hY j5 (iy λ_ _ _ _=>.bl _) (fH sv zd (λ_ _=>rfl)) zd (az _)) (zb (bQ a (cN ui '(' (fH sv zd (λ_ _=>rfl)) sv))
 (zb (QN (cN p6 '(' (fH sv zd (λ_ _=>rfl)) sv) sv zd)
 (zc (zh sv)))) hX)
 (zb (bQ a zd)
 (zb (bQ a zd)
 (zb (uw qe (hY (uh c.units0) ug sv sv (az _)) (zb (QN (cN ui '(' (dh (cN kx '(' (fH sv zd (λ_ _=>rfl)) zd) zd) zd) sv zd)
 (zb (bQ a (dh (cN kx '(' sv zd) (cN ui '(' (cN kx '(' (cN p6 '(' (fH sv zd (λ_ _=>rfl)) zd) zd) zd)))
 (zc (bQ a (cN kx '(' sv zd))))))
 (zc (zh (cN ui '(' sv sv)))))))
theorem UH{Y:En}(T:ag Y.K "_law_row" (top 50))(h:Y.mg "range"=none)(e:Y.mg "min"=none)(g:Y.mg "tuple"=none)(d:Cl Y "_law_take" 1 ["_law_bag_here","_law_many_here"] zx):Cl Y "_law_row" 2 ["_law_bag_here","_law_most","_law_long"] vK:=dG ["_law_bag_here","_law_most","_law_long","_law_row_here","_law_left","_law_k"] T λa f i A b s H E c=>(zb (bQ a (jP f6))
 (zb (bQ a sv)
 (zb (dN (ky rfl h (ao (bG d c (bC sv (dh sv zd))))) (cR a)
 (zc (gI (hY j5 (iy λ_ _ _ _=>.bl _) sv zd (az _)) (zb (f7 (mE sv (ao (dh zd (bG d c (bC sv (fH (vi (zp sv (bC (zf (rj rfl) jp rfl e qS (bC sv zd)) (zf (rj rfl) jp rfl e qS (bC sv zd))))) (bG d c (bC sv zd)) (λ_ _=>rfl))))))))
 (zc (bQ a (fN sv (fH sv (pT zd) (λ_ _=>rfl)))))) hX)))
 (zc (zh (jo zw li rfl g jR (ao sv)))))))
theorem UZ{Y:En}(T:ag Y.K "_law_rows" (top 51))(d:Y.mg "range"=none)(c:Cl Y "_law_odd" 1 ["_law_things"] j4)(g:Cl Y "_law_take" 1 ["_law_bag_here","_law_many_here"] zx)(h:Cl Y "_law_row" 2 ["_law_bag_here","_law_most","_law_long"] vK):Cl Y "_law_rows" 3 ["_law_bag_here","_law_many_here","_law_most","_law_long"] vQ:=dG ["_law_bag_here","_law_many_here","_law_most","_law_long"] T λi f e A a s H E b=>(zc (zh (bG c b (ao (om ["_law_k","_law_bag_here","_law_most","_law_long"] (ky rfl d (ao (bG g b (bC sv (dh sv zd))))) (λ_ _ _ _ _=>(bG h b (zp sv (bC sv sv)))))))))
theorem Vq{Y:En}(T:ag Y.K "_law_counts" (top 52))(g:Y.mg "range"=none)(d:Y.mg "len"=none)(e:Y.mg "tuple"=none)(i:Cl Y "_law_take" 1 ["_law_bag_here","_law_many_here"] zx):Cl Y "_law_counts" 2 ["_law_bag_here","_law_most"] CP:=dG ["_law_bag_here","_law_most","_law_counts_here","_law_left","_law_k","_law_more"] T λa f h A b s H E c=>(zb (bQ a (jP f6))
 (zb (bQ a sv)
 (zb (dN (TY rfl g (zp zd (bC (pT zd) (pT zd)))) (cR a)
 (zb (bQ a (bG i c (bC sv (dh (cN p6 '(' sv (fN (cN oV '(' zd sv) zd)) zd))))
 (zb (bQ a (fN sv (cN kx '(' sv (fN (cN oV '(' zd sv) zd))))
 (zc (f7 (mE sv (ao sv)))))))
 (zb (uw qe (JW.pt (Eh (hY j5 (iy λ_ _ _ _=>.bl _) (zf zm jl rfl d jm (ao sv)) zd (az _)) (oz (hY (ow c.units) ku (fH sv zd (λ_ _=>rfl)) zd (az _)) (by first|exact Or.inl rfl|exact Or.inr rfl)))) (zc (f7 (I0 sv (ao zd)))))
 (zc (zh (jo zw li rfl e jR (ao (xP sv (pT zd))))))))))
theorem VM{Y:En}(T:ag Y.K "_law_some_counts" (top 53))(e:Y.mg "range"=none)(d:Cl Y "_law_odd" 1 ["_law_things"] j4)(h:Cl Y "_law_take" 1 ["_law_bag_here","_law_many_here"] zx)(c:Cl Y "_law_counts" 2 ["_law_bag_here","_law_most"] CP):Cl Y "_law_some_counts" 3 ["_law_bag_here","_law_many_here","_law_most"] C3:=dG ["_law_bag_here","_law_many_here","_law_most"] T λi f g A a s H E b=>(zc (zh (bG d b (ao (om ["_law_k","_law_bag_here","_law_most"] (ky rfl e (ao (bG h b (bC sv (dh sv zd))))) (λ_ _ _ _ _=>(bG c b (bC sv sv))))))))
theorem Vj{Y:En}(T:ag Y.K "row_led_by" (top 27))(c:Y.mg "reversed"=none):Cl Y "row_led_by" 1 ["numbers"] CT:=dG ["numbers","row","part","number"] T λa f d A b s H E e=>(zb (bQ a (eJ f6))
 (zb (bQ a zd)
 (zb (dN (Je rfl c sv) (cR a)
 (zb (bQ a (dh sv (cN kx '(' zd sv)))
 (zc (bQ a (dh (eJ (ao sv)) sv)))))
 (zc (zh sv)))))
theorem Ub{Y:En}(T:ag Y.K "changed" (top 17)): Cl Y "changed" 1 ["numbers","place","by"] rd:=dG ["numbers","place","by"] T λd f b A a s H E c=>(zc (zh (dh (dh (oM sv Ch (Ci sv)) (eJ (ao (dh (fH sv sv (λ_ _=>rfl)) sv)))) (oM sv (Ci (dh sv zd)) Ch))))
theorem Vy{Y:En}(T:ag Y.K "place_filled" (top 18))(g:Y.mg "min"=none)(e:Y.mg "range"=none)(d:Cl Y "changed" 1 ["numbers","place","by"] rd):Cl Y "place_filled" 2 ["partly","i","j"] C0:=dG ["partly","i","j","slope","told","slopes","columns","left","x"] T λa f h A b s H E c=>(zb (bQ a (fN (dh sv sv) zd))
 (zb (bQ a (jP f6))
 (zb (dN (zy sv) (lf rfl (zl (cR a) (zl (cR a) (zl (cR a) ll))))
 (zc (dN (ky rfl e (ao (dh (zf (rj rfl) jp rfl g qS (bC (fH sv (fN sv zd) (λ_ _=>rfl)) (cN xn '(' sv sv))) zd))) (cR a)
 (zc (gI (hY (ow c.units) ku (cN vk (iy λ_ _ _ _=>.int _) (fH sv sv (λ_ _=>rfl)) sv) zd (az _)) (zc (f7 (mE sv (ao (eJ (zp (bG d c (zp sv (bC sv sv))) (bC (bG d c (zp sv (bC (fN sv zd) (pT sv)))) (fN sv (cN oV '(' sv sv))))))))) hX)))))
 (zc (zh (iS sv))))))
theorem Vu{Y:En}(T:ag Y.K "line_filled" (top 19))(g:Y.mg "range"=none)(e:Cl Y "place_filled" 2 ["partly","i","j"] C0)(d:Cl Y "changed" 1 ["numbers","place","by"] rd):Cl Y "line_filled" 3 ["partly","i","number","width"] CW:=dG ["partly","i","number","width","filled","j","told","slopes","columns","left"] T λa f h A b s H E c=>(zb (Qa (i:=4) rfl a rfl (Or.inl rfl) (zy sv) (λ_ _ _ _ _=>(lf rfl (zl (iR (i:=0) (show(["slopes","columns","number"]:List Str).Nodup from by decide +kernel) rfl (Or.inl rfl)) (zl (iR (i:=1) (show(["slopes","columns","number"]:List Str).Nodup from by decide +kernel) rfl (Or.inl rfl)) ll)))) (λ_ _ _ _ _=>p0) (λ_ _ _ _ _=>(eJ (zp sv (bC sv sv)))) (N:=["slopes","columns","number"]) (k:=2) (is:=[2]) (l8 (by rfl)))
  (zb (dN (CH rfl g (bC zd (dh sv zd))) (cR a)
  (zc (bQ a (bG e c (zp sv (bC sv sv))))))
  (zb (bQ a (jP f6))
  (zb (dN (zy sv) (lf rfl (zl (cR a) (zl (cR a) (zl (cR a) ll))))
  (zc (gI (hY (ow c.units) ku (cN vk (iy λ_ _ _ _=>.int _) (fH sv (fN sv zd) (λ_ _=>rfl)) sv) zd (az _)) (zc (f7 (mE sv (ao (eJ (bC (bG d c (zp sv (bC (fN sv zd) sv))) sv)))))) hX)))
  (zc (zh (iS sv)))))))
theorem VL{Y:En}(T:ag Y.K "without_noughts" (top 15))(g:Y.mg "list"=none)(e:Y.mg "tuple"=none):Cl Y "without_noughts" 1 ["numbers"] C4:=dG ["numbers","told"] T λc f d A a s H E b=>(zb (bQ c (jo FB K5 rfl g Ee (ao sv)))
 (zb (uw qe (JW.pt (Eh (jQ sv) (oz (hY (ow b.units) ku (fH sv (pT zd) (λ_ _=>rfl)) zd (az _)) (by first|exact Or.inl rfl|exact Or.inr rfl)))) (zc (f7 (wQ sv))))
 (zc (zh (jo zw li rfl e jR (ao sv))))))
theorem Vm{Y:En}(T:ag Y.K "top_filled" (top 20))(d:Y.mg "len"=none)(a:Y.mg "zip"=none)(e:Y.mg "all"=none)(h:Y.mg "tuple"=none):Cl Y "top_filled" 1 ["partly"] CU:=dG ["partly","told","slopes","columns","top"] T λb f j A c s H E g=>(zb (bQ b (jP f6))
 (zb (dN (zy sv) (lf rfl (zl (cR b) (zl (cR b) ll)))
 (zb (bQ b (dh sv (cN vw vr (eJ (ao zd)) (fN (zf zm jl rfl d jm (ao sv)) (zf zm jl rfl d jm (ao sv))))))
 (zc (gI (jQ (zf (Cd rfl) vf rfl e oT (ao (nR rfl (xS rfl a (bC sv sv)) (λ_ _ _ _ _=>(lf rfl (zl (iR (i:=0) (show(["slope","x"]:List Str).Nodup from by decide +kernel) rfl (Or.inl rfl)) (zl (iR (i:=1) (show(["slope","x"]:List Str).Nodup from by decide +kernel) rfl (Or.inl rfl)) ll)))) (λ_ _ _ _ _=>p0) (λ_ _ _ _ _=>(vh (ow g.units) ku (cN vk (iy λ_ _ _ _=>.int _) sv sv) zd (az _))) (N:=["slope","x"]) (k:=2) (is:=[]) (l8 (by rfl)))))) (zc (f7 (mE sv (ao (jo zw li rfl h jR (ao (nR rfl (xS rfl a (bC sv sv)) (λ_ _ _ _ _=>(lf rfl (zl (iR (i:=0) (show(["slope","x"]:List Str).Nodup from by decide +kernel) rfl (Or.inl rfl)) (zl (iR (i:=1) (show(["slope","x"]:List Str).Nodup from by decide +kernel) rfl (Or.inl rfl)) ll)))) (λ_ _ _ _ _=>p0) (λ_ _ _ _ _=>(dh sv sv)) (N:=["slope","x"]) (k:=2) (is:=[]) (l8 (by rfl))))))))) hX))))
 (zc (zh (iS sv)))))
theorem VI{Y:En}(T:ag Y.K "made_by_tables" (top 21))(d:Y.mg "len"=none)(e:Y.mg "enumerate"=none)(g:Cl Y "line_filled" 3 ["partly","i","number","width"] CW)(j:Cl Y "top_filled" 1 ["partly"] CU)(h:Cl Y "without_noughts" 1 ["numbers"] C4):Cl Y "made_by_tables" 4 ["r","s"] C2:=dG ["r","s","partly","i","number"] T λa f i A b s H E c=>(zb (bQ a (vi (ao (eJ (bC (cN vw vr (eJ (ao zd)) (dh (zf zm jl rfl d jm (ao sv)) (zf zm jl rfl d jm (ao sv)))) sv)))))
 (zb (dN (QM rfl e sv) (lf rfl (zl (cR a) (zl (cR a) ll)))
 (zc (bQ a (bG g c (zp sv (zp sv (bC sv (zf zm jl rfl d jm (ao sv)))))))))
 (zc (zh (om ["numbers"] (zy (bG j c (ao sv))) (λ_ _ _ _ _=>(bG h c (ao sv))))))))
theorem J3{Y:En}(T:ag Y.K "flip" (top 2)): Cl Y "flip" 1 ["kept","thing"] jO:=dG ["kept","thing"] T λd f c A b s H E a=>(zc (gI (He (xt (iT a) sv sv)) (zc (f7 (IX (iT a) sv sv ⟨rfl,rfl,rfl,rfl⟩))) (zc (Cj (iT a) sv sv k8 rfl))))
theorem U2{Y:En}(T:ag Y.K "raises_by" (top 14)): Cl Y "raises_by" 1 ["numbers"] vV:=dG ["numbers","told","weight","number"] T λa f c A b s H E d=>(zb (bQ a zd)
 (zb (bQ a zd)
 (zb (dN (zy sv) (cR a)
 (zb (Jl (i:=1) a rfl (Or.inl rfl) (cN kx '(' sv sv) Ho Pe)
 (zc (bQ a (dh (cN kx '(' zd sv) zd)))))
 (zc (zh sv)))))
theorem Md{Y:En}(T:ag Y.K "times" (top 22))(i:Y.mg "sorted"=none)(h:Y.mg "tuple"=none) (a:Y.mg "MOST_RAISED"=some (.int 16 By))(e:Cl Y "raises_by" 1 ["numbers"] vV)(g:Cl Y "made_by_tables" 4 ["r","s"] C2)(k:Cl Y "flip" 1 ["kept","thing"] jO):Cl Y "times" 5 ["one","other"] BV:=dG ["one","other","kept","r","s","made"] T λc f j A d s H E b=>(zb (bQ c uk)
 (zb (dN (zy sv) (cR c)
 (zc (dN (zy sv) (cR c)
 (zb (gI (hY j5 (iy λ_ _ _ _=>.bl _) (dh (bG e b (ao sv)) (bG e b (ao sv))) (nP (EB (v:=.int 16) rfl a ⟨_,rfl⟩) (λ_ _=>.int _)) (az _)) (zc Cz) hX)
 (zc (dN (zy (bG g b (bC sv sv))) (cR c)
 (zc (f7 (bG k b (bC sv sv))))))))))
 (zc (zh (jo zw li rfl h jR (ao (zf (rA rfl b.units) rh rfl i ri (ao sv))))))))
theorem VF{Y:En}(T:ag Y.K "counts_of_row" (top 24))(c:Cl Y "times" 5 ["one","other"] BV):Cl Y "counts_of_row" 6 ["row"] uA:=dG ["row","made","part"] T λb f e A a s H E d=>(zb (bQ b (eJ (ao (eJ f6))))
 (zb (dN (zy sv) (cR b)
 (zc (bQ b (bG c d (bC sv (eJ (ao (eJ (ao sv)))))))))
 (zc (zh sv))))
theorem Vt{Y:En}(T:ag Y.K "from_behind" (top 26))(d:Y.mg "len"=none)(e:Y.mg "tuple"=none)(c:Y.mg "reversed"=none) (a:Y.mg "MOST_NUMBERS"=some (.int 4 k_MOST_NUMBERS)):Cl Y "from_behind" 1 ["numbers"] p8:=dG ["numbers"] T λi f g A b s H E h=>(zc (zh (Nl rfl rfl e rfl c (dh sv (cN vw vr (eJ (ao zd)) (fN (nP (EB (v:=.int 4) rfl a ⟨_,rfl⟩) (λ_ _=>.int _)) (zf zm jl rfl d jm (ao sv))))))))
theorem Uc{Y:En}(T:ag Y.K "rows_by" (top 28))(e:Y.mg "max"=none)(k:Y.mg "sorted"=none)(j:Y.mg "tuple"=none)(g:Cl Y "row_led_by" 1 ["numbers"] CT)(d:Cl Y "from_behind" 1 ["numbers"] p8)(h:Cl Y "counts_of_row" 6 ["row"] uA)(m:Cl Y "flip" 1 ["kept","thing"] jO):Cl Y "rows_by" 7 ["counts"] re:=dG ["counts","left","numbers","told","row"] T λb f l A c s H E a=>(zb (bQ b uk)
 (zb (dN (zy sv) (cR b)
 (zc (Cj (iT a) sv sv k8 rfl)))
 (zb (bQ b (jP f6))
 (zb (uw qe (LA sv) (zb (Lu (i:=1) (bQ b (bG g a (ao (IY d rfl (a.mono ')') rfl e rfl sv)))))
 (zb (f7 (mE sv (ao sv)))
 (zc (dN (zy (bG h a (ao sv))) (cR b)
 (zc (f7 (bG m a (bC sv sv)))))))))
 (zc (zh (jo zw li rfl j jR (ao (zf (rA rfl a.units) rh rfl k ri (ao sv))))))))))
theorem VE{Y:En}(T:ag Y.K "_law_are_rows" (top 58))(d:Y.mg "tuple"=none)(b:Y.mg "isinstance"=none)(e:Y.mg "bool"=none)(h:Y.mg "int"=none)(a:Y.mg "any"=none):Cl Y "_law_are_rows" 1 ["_law_found","_law_due"] rJ:=dG ["_law_found","_law_due","_law_row_here"] T λj f i A c s H E g=>(zb (gI (JW.pt (qT (mC (jQ (zf rx rg rfl b rB (bC sv (nP (qZ (v:=.ty "tuple") rfl d jR rfl) (λ_ _=>.ty _)))))) (oz (hY (vm g.units) ku sv sv (az _)) (by first|exact Or.inl rfl|exact Or.inr rfl)))) (zc (zh k8)) hX)
 (zb (dN (zy sv) (cR j)
 (zc (gI (JW.pt (qT (mC (jQ (zf rx rg rfl b rB (bC sv (nP (qZ (v:=.ty "tuple") rfl d jR rfl) (λ_ _=>.ty _)))))) (oz (jQ (zf (K8 rfl) vf rfl a GN (ao (om ["_law_x"] (zy sv) (λ_ _ _ _ _=>(FX (rR (zf rx rg rfl b rB (bC sv (nP (qZ (v:=.ty "int") rfl h rN rfl) (λ_ _=>.ty _))))) (rS (zf rx rg rfl b rB (bC sv (nP (qZ (v:=.ty "bool") rfl e xN rfl) (λ_ _=>.ty _))))))))))) (by first|exact Or.inl rfl|exact Or.inr rfl)))) (zc (zh k8)) hX)))
 (zc (zh k8))))
theorem U1{Y:En}(T:ag Y.K "counts_of" (top 25))(g:Y.mg "sorted"=none)(e:Y.mg "tuple"=none)(d:Cl Y "counts_of_row" 6 ["row"] uA)(i:Cl Y "flip" 1 ["kept","thing"] jO):Cl Y "counts_of" 7 ["rows"] oF:=dG ["rows","kept","row","numbers"] T λc f h A a s H E b=>(zb (bQ c uk)
 (zb (dN (zy sv) (cR c)
 (zc (dN (zy (bG d b (ao sv))) (cR c)
 (zc (f7 (bG i b (bC sv sv)))))))
 (zc (zh (jo zw li rfl e jR (ao (zf (rA rfl b.units) rh rfl g ri (ao sv))))))))
theorem UX{Y:En}(T:ag Y.K "_law_made" (top 56))(d:Y.mg "range"=none)(j:Y.mg "sum"=none)(e:Y.mg "len"=none)(g:Y.mg "tuple"=none):Cl Y "_law_made" 1 ["_law_table"] CF:=dG ["_law_table","_law_counts_here","_law_t","_law_numbers","_law_both","_law_x"] T λa f h A b s H E c=>(zb (bQ a (jP f6))
  (zb (dN (CH rfl d (bC zd zd)) (cR a)
  (zb (Qa (i:=3) rfl a rfl (Or.inl rfl) (ky rfl d (ao zd)) (λ_ _ _ _ _=>(iR (i:=0) (show(["_law_i","_law_table","_law_t"]:List Str).Nodup from by decide +kernel) rfl (Or.inl rfl))) (λ_ _ _ _ _=>(Cg (Fa oQ (uh c.units0) (iy λ_ _ _ _=>.bl _) ug zd (fN sv sv) zd))) (λ_ _ _ _ _=>(fH (fH sv sv (λ_ _=>rfl)) (fN sv sv) (λ_ _=>rfl))) (N:=["_law_i","_law_table","_law_t"]) (k:=1) (is:=[0,2]) (l8 (by rfl)))
  (zb (bQ a zd)
  (zb (dN (zy sv) (cR a)
  (zb (gI (hY j5 (iy λ_ _ _ _=>.bl _) (cN vk (iy λ_ _ _ _=>.int _) sv sv) zd (az _)) (zc (zh wP)) hX)
  (zc (bQ a (cN Gk (iy λ_ _ _ _=>.int _) sv sv)))))
  (zc (f7 (mE sv (ao (zf (QH rfl) wD rfl j wG (ao sv))))))))))
  (zb (uw qe (JW.pt (Eh (hY j5 (iy λ_ _ _ _=>.bl _) (zf zm jl rfl e jm (ao sv)) zd (az _)) (oz (hY (ow c.units) ku (fH sv (pT zd) (λ_ _=>rfl)) zd (az _)) (by first|exact Or.inl rfl|exact Or.inr rfl)))) (zc (f7 (wQ sv))))
  (zc (zh (jo zw li rfl g jR (ao sv)))))))
theorem Vf{Y:En}(T:ag Y.K "_law_lines" (top 54))(c:Y.mg "range"=none)(d:Y.mg "min"=none):Cl Y "_law_lines" 1 ["_law_number","_law_left"] CM:=dG ["_law_number","_law_left","_law_ways","_law_j","_law_further","_law_rest","_law_line","_law_x"] T λa f e A b s H E g=>(zb (bQ a (vi (ao (eJ (bC sv (eJ f6))))))
 (zb (dN (CH rfl c (bC zd zd)) (cR a)
 (zb (bQ a (jP f6))
 (zb (dN (zy sv) (lf rfl (zl (cR a) (zl (cR a) ll)))
 (zc (dN (ky rfl c (ao (dh (zf (rj rfl) jp rfl d qS (bC (fH sv (fN sv zd) (λ_ _=>rfl)) (cN xn '(' sv sv))) zd))) (cR a)
 (zc (f7 (mE sv (ao (eJ (bC (fN sv (cN oV '(' sv sv)) (dh sv (eJ (ao sv))))))))))))
 (zc (bQ a (iS sv))))))
 (zc (zh (nR rfl (zy sv) (λ_ _ _ _ _=>(lf rfl (zl (iR (i:=0) (show(["_law_rest","_law_line"]:List Str).Nodup from by decide +kernel) rfl (Or.inl rfl)) (zl (iR (i:=1) (show(["_law_rest","_law_line"]:List Str).Nodup from by decide +kernel) rfl (Or.inl rfl)) ll)))) (λ_ _ _ _ _=>p0) (λ_ _ _ _ _=>(dh (eJ (ao sv)) sv)) (N:=["_law_rest","_law_line"]) (k:=2) (is:=[]) (l8 (by rfl)))))))
theorem Vr{Y:En}(T:ag Y.K "_law_tables" (top 55))(c:Y.mg "tuple"=none)(d:Y.mg "len"=none)(h:Y.mg "range"=none)(g:Cl Y "_law_lines" 1 ["_law_number","_law_left"] CM):Cl Y "_law_tables" 2 ["_law_r","_law_s"] CQ:=dG ["_law_r","_law_s","_law_ways","_law_number","_law_further","_law_drawn","_law_left","_law_line","_law_over"] T λa f j A b s H E e=>(zb (bQ a (vi (ao (eJ (bC (eJ f6) (dh (jo zw li rfl c jR (ao sv)) (cN vw vr (eJ (ao zd)) (fN zd (zf zm jl rfl d jm (ao sv))))))))))
 (zb (dN (zy (dh (jo zw li rfl c jR (ao sv)) (cN vw vr (eJ (ao zd)) (fN zd (zf zm jl rfl d jm (ao sv)))))) (cR a)
 (zb (bQ a (jP f6))
 (zb (dN (zy sv) (lf rfl (zl (cR a) (zl (cR a) ll)))
 (zc (dN (zy (bG g e (bC sv sv))) (cR a)
 (zb (bQ a (jo zw li rfl c jR (ao (om ["_law_j","_law_left","_law_line"] (ky rfl h (ao zd)) (λ_ _ _ _ _=>(fN (fH sv sv (λ_ _=>rfl)) (fH sv (dh sv zd) (λ_ _=>rfl))))))))
 (zc (f7 (mE sv (ao (eJ (bC (dh sv (eJ (ao sv))) sv))))))))))
 (zc (bQ a (iS sv))))))
 (zc (zh (nR rfl (zy sv) (λ_ _ _ _ _=>(lf rfl (zl (iR (i:=0) (show(["_law_drawn","_law_left"]:List Str).Nodup from by decide +kernel) rfl (Or.inl rfl)) (zl (iR (i:=1) (show(["_law_drawn","_law_left"]:List Str).Nodup from by decide +kernel) rfl (Or.inl rfl)) ll)))) (λ_ _ _ _ _=>p0) (λ_ _ _ _ _=>(dh (eJ (ao (dh (eJ (ao zd)) sv))) sv)) (N:=["_law_drawn","_law_left"]) (k:=2) (is:=[]) (l8 (by rfl)))))))
theorem Vh{Y:En}(T:ag Y.K "_law_times" (top 57))(g:Cl Y "_law_tables" 2 ["_law_r","_law_s"] CQ)(e:Cl Y "_law_made" 1 ["_law_table"] CF)(d:Cl Y "_law_odd" 1 ["_law_things"] j4):Cl Y "_law_times" 3 ["_law_one","_law_other"] CS:=dG ["_law_one","_law_other","_law_found","_law_r","_law_s"] T λc f h A a s H E b=>(zb (bQ c (jP f6))
 (zb (dN (zy sv) (cR c)
 (zc (dN (zy sv) (cR c)
 (zc (f7 (E9 sv (ao (nR rfl (zy (om ["_law_table"] (zy (bG g b (bC sv sv))) (λ_ _ _ _ _=>(bG e b (ao sv))))) (λ_ _ _ _ _=>(iR (i:=0) (show(["_law_counts_here"]:List Str).Nodup from by decide +kernel) rfl (Or.inl rfl))) (λ_ _ _ _ _=>(Cg (hY J7 J1 sv wP (az _)))) (λ_ _ _ _ _=>sv) (N:=["_law_counts_here"]) (k:=1) (is:=[]) (l8 (by rfl))))))))))
 (zc (zh (bG d b (ao (iS sv)))))))
theorem VH{Y:En}(T:ag Y.K "_law_counts_of" (top 59))(h:Y.mg "list"=none)(e:Cl Y "_law_times" 3 ["_law_one","_law_other"] CS)(d:Cl Y "_law_odd" 1 ["_law_things"] j4):Cl Y "_law_counts_of" 4 ["_law_rows_here"] rM:=dG ["_law_rows_here","_law_found","_law_row_here","_law_built","_law_part"] T λa f g A b s H E c=>(zb (bQ a (jP f6))
 (zb (dN (zy sv) (cR a)
 (zb (bQ a (eJ (ao (eJ f6))))
 (zb (dN (zy (xP sv (pT zd))) (cR a)
 (zc (bQ a (bG e c (bC (eJ (ao (eJ (ao sv)))) sv)))))
 (zc (f7 (E9 sv (ao (jo FB xL rfl h Ee (ao sv)))))))))
 (zc (zh (bG d c (ao (iS sv)))))))
theorem U3{Y:En}(T:ag Y.K "rows_kept" (top 36)): Cl Y "rows_kept" 1 ["rows"] CN:=dG ["rows","kept","row"] T λb f d A a s H E c=>(zb (bQ b uk)
 (zb (dN (zy sv) (cR b)
 (zc (Cj (iT c) sv sv k8 rfl)))
 (zc (zh sv))))
theorem UK{Y:En}(T:ag Y.K "odd_ways" (top 10)): Cl Y "odd_ways" 1 ["e","k"] CG:=dG ["e","k"] T λd f c A a s H E b=>(zc (zh (vh (ow b.units) ku (cN vk (iy λ_ _ _ _=>.int _) sv sv) sv (az _))))
theorem VA{Y:En}(T:ag Y.K "rows_for_two" (top 31))(g:Y.mg "range"=none)(d:Y.mg "sorted"=none)(e:Cl Y "odd_ways" 1 ["e","k"] CG):Cl Y "rows_for_two" 2 ["a","b"] wa:=dG ["a","b","told","c"] T λc f h A a s H E b=>(zb (bQ c (jP f6))
 (zb (dN (ky rfl g (ao (dh (cN p6 '(' sv zd) zd))) (cR c)
 (zc (gI (jQ (bG e b (bC (fN (fN sv sv) zd) (fN sv (cN kx '(' zd sv))))) (zc (f7 (mE sv (ao (FP (hY j5 (iy λ_ _ _ _=>.bl _) sv zd (az _)) (eJ (bC (fN (dh sv sv) sv) sv)) (eJ (ao (dh sv sv)))))))) hX)))
 (zc (zh (zf (rA rfl b.units) rh rfl d ri (ao sv))))))
theorem Vz{Y:En}(T:ag Y.K "rows_for_row" (top 32))(d:Cl Y "rows_for_two" 2 ["a","b"] wa):Cl Y "rows_for_row" 3 ["row","place"] rL:=dG ["row","place","ahead","rest"] T λb f e A a s H E c=>(zb (bQ b (oM sv Ch (Ci sv)))
 (zb (bQ b (oM sv (Ci (dh sv zd)) Ch))
 (zc (zh (om ["two","rest","ahead"] (zy (bG d c (bC (fH sv sv (λ_ _=>rfl)) (fH sv (dh sv zd) (λ_ _=>rfl))))) (λ_ _ _ _ _=>(dh (dh sv sv) sv)))))))
theorem UJ{Y:En}(T:ag Y.K "is_whole" (top 1))(c:Y.mg "bool"=none)(b:Y.mg "isinstance"=none)(d:Y.mg "int"=none):Cl Y "is_whole" 1 ["thing"] md:=dG ["thing"] T λh f e A a s H E g=>(zc (zh (rQ (zf rx rg rfl b rB (bC sv (nP (qZ (v:=.ty "int") rfl d rN rfl) (λ_ _=>.ty _)))) (rS (rR (zf rx rg rfl b rB (bC sv (nP (qZ (v:=.ty "bool") rfl c xN rfl) (λ_ _=>.ty _)))))))))
theorem U4{Y:En}(T:ag Y.K "stands_in" (top 33))(c:Y.mg "all"=none)(e:Y.mg "tuple"=none)(d:Y.mg "isinstance"=none)(g:Cl Y "is_whole" 1 ["thing"] md):Cl Y "stands_in" 2 ["kept","row"] vW:=dG ["kept","row"] T λi f h A a s H E b=>(zc (zh (rQ (zf rx rg rfl d rB (bC sv (nP (qZ (v:=.ty "tuple") rfl e jR rfl) (λ_ _=>.ty _)))) (rQ (zf (Cd rfl) vf rfl c oT (ao (om ["part"] (zy sv) (λ_ _ _ _ _=>(bG g b (ao sv)))))) (rS (FQ (xt (iT b) sv sv)))))))
theorem Vx{Y:En}(T:ag Y.K "falls_slowly" (top 30)): Cl Y "falls_slowly" 1 ["a","b"] CZ:=dG ["a","b"] T λd f c A a s H E b=>(zc (zh (vh (uh b.units0) ug sv (cN kx '(' zd sv) (az _))))
theorem UI{Y:En}(T:ag Y.K "is_place" (top 34))(d:Y.mg "len"=none)(e:Cl Y "is_whole" 1 ["thing"] md)(c:Cl Y "falls_slowly" 1 ["a","b"] CZ):Cl Y "is_place" 2 ["row","place"] oD:=dG ["row","place"] T λh f g A a s H E b=>(zb (gI (JW.pt (qT (mC (jQ (bG e b (ao sv)))) (oz (mC (Fa oQ (uh b.units0) (iy λ_ _ _ _=>.bl _) ug zd sv (fN (zf zm jl rfl d jm (ao sv)) zd))) (by first|exact Or.inl rfl|exact Or.inr rfl)))) (zc (zh k8)) hX)
 (zc (zh (bG c b (bC (fH sv sv (λ_ _=>rfl)) (fH sv (dh sv zd) (λ_ _=>rfl)))))))
theorem Vs{Y:En}(T:ag Y.K "exchange_in" (top 35))(i:Cl Y "stands_in" 2 ["kept","row"] vW)(d:Cl Y "is_place" 2 ["row","place"] oD)(c:Cl Y "flip" 1 ["kept","thing"] jO)(e:Cl Y "rows_for_row" 3 ["row","place"] rL):Cl Y "exchange_in" 4 ["kept","row","place"] CV:=dG ["kept","row","place","made"] T λh f g A b s H E a=>(zb (gI (mC (jQ (bG i a (bC sv sv)))) (zc Cz) hX)
 (zb (gI (mC (jQ (bG d a (bC sv sv)))) (zc Cz) hX)
 (zb (f7 (bG c a (bC sv sv)))
 (zc (dN (zy (bG e a (bC sv sv))) (cR h)
 (zc (f7 (bG c a (bC sv sv)))))))))
theorem NP{Y:En}(T:ag Y.K "walked" (top 42))(g:Y.mg "sorted"=none)(e:Y.mg "tuple"=none)(h:Cl Y "rows_kept" 1 ["rows"] CN)(d:Cl Y "exchange_in" 4 ["kept","row","place"] CV):Cl Y "walked" 5 ["rows","steps"] Cy:=dG ["rows","steps","kept","row","place"] T λc f i A a s H E b=>(zb (bQ c (bG h b (ao sv)))
 (zb (dN (zy sv) (lf rfl (zl (cR c) (zl (cR c) ll)))
 (zc (f7 (bG d b (zp sv (bC sv sv))))))
 (zc (zh (jo zw li rfl e jR (ao (zf (rA rfl b.units) rh rfl g ri (ao sv))))))))
theorem NN{Y:En}(T:ag Y.K "moment" (top 39))(b:Y.mg "enumerate"=none)(d:Y.mg "sum"=none):Cl Y "moment" 1 ["row"] uq:=dG ["row"] T λg f c A a s H E e=>(zc (zh (zf (QH rfl) wD rfl d wG (ao (nR rfl (QM rfl b sv) (λ_ _ _ _ _=>(lf rfl (zl (iR (i:=0) (show(["number","part"]:List Str).Nodup from by decide +kernel) rfl (Or.inl rfl)) (zl (iR (i:=1) (show(["number","part"]:List Str).Nodup from by decide +kernel) rfl (Or.inl rfl)) ll)))) (λ_ _ _ _ _=>p0) (λ_ _ _ _ _=>(cN kx '(' sv sv)) (N:=["number","part"]) (k:=2) (is:=[]) (l8 (by rfl)))))))
theorem Vi{Y:En}(T:ag Y.K "flip_level" (top 40))(d:Cl Y "flip" 1 ["kept","thing"] jO)(e:Cl Y "moment" 1 ["row"] uq):Cl Y "flip_level" 2 ["levels","row"] vZ:=dG ["levels","row"] T λg f c A a s H E b=>(zc (f7 (bG d b (bC (Lh sv (bC (bG e b (ao sv)) uk)) sv))))
theorem NO{Y:En}(T:ag Y.K "places" (top 38))(d:Y.mg "len"=none)(e:Y.mg "range"=none)(c:Cl Y "is_place" 2 ["row","place"] oD):Cl Y "places" 3 ["row"] Ca:=dG ["row"] T λh f g A a s H E b=>(zc (zh (nR rfl (ky rfl e (ao (fN (zf zm jl rfl d jm (ao sv)) zd))) (λ_ _ _ _ _=>(iR (i:=0) (show(["place","row"]:List Str).Nodup from by decide +kernel) rfl (Or.inl rfl))) (λ_ _ _ _ _=>(Cg (jQ (bG c b (bC sv sv))))) (λ_ _ _ _ _=>sv) (N:=["place","row"]) (k:=1) (is:=[0]) (l8 (by rfl)))))
theorem HK{Y:En}(T:ag Y.K "way" (top 41))(e:Y.mg "max"=none)(i:Y.mg "sorted"=none)(d:Cl Y "flip_level" 2 ["levels","row"] vZ)(g:Cl Y "places" 3 ["row"] Ca)(h:Cl Y "rows_for_row" 3 ["row","place"] rL):Cl Y "way" 4 ["rows"] oJ:=dG ["rows","levels","row","steps","level","slow","made"] T λa f j A c s H E b=>(zb (bQ a Lf)
 (zb (dN (zy sv) (cR a)
 (zc (f7 (bG d b (bC sv sv)))))
 (zb (bQ a (jP f6))
 (zb (uw qe (Lz sv) (zb (bQ a (IZ sv (ao (zf (TR rfl) IM rfl e wF (ao sv)))))
 (zc (dN (zy (zf (rA rfl b.units) rh rfl i ri (ao sv))) (cR a)
 (zb (bQ a (bG g b (ao sv)))
 (zc (gI (jQ sv) (zb (f7 (mE sv (ao (eJ (bC sv (fH sv zd (λ_ _=>rfl)))))))
 (zc (dN (zy (bG h b (bC sv (fH sv zd (λ_ _=>rfl))))) (cR a)
 (zc (f7 (bG d b (bC sv sv))))))) hX)))))))
 (zc (zh (iS sv)))))))
theorem Ud{Y:En}(T:ag Y.K "settled" (top 43))(d:Cl Y "walked" 5 ["rows","steps"] Cy)(a:Cl Y "way" 4 ["rows"] oJ):Cl Y "settled" 6 ["rows"] vL:=dG ["rows"] T λg f e A b s H E c=>(zc (zh (bG d c (bC sv (bG a c (ao sv))))))
theorem UY{Y:En}(T:ag Y.K "_law_many" (top 61))(c:Y.mg "range"=none):Cl Y "_law_many" 1 ["_law_r"] vP:=dG ["_law_r","_law_found","_law_d","_law_c"] T λa f d A b s H E e=>(zb (bQ a zd)
 (zb (dN (ky rfl c (ao (dh (cN p6 '(' sv zd) zd))) (cR a)
 (zc (dN (ky rfl c (ao (dh (cN p6 '(' (fN sv (cN Ey '(' zd sv)) zd) zd))) (cR a)
 (zc (bQ a (dh (dh sv (cN p6 '(' (fN (fN sv (cN Ey '(' zd sv)) (cN Ey '(' zd sv)) zd)) zd))))))
 (zc (zh sv))))
theorem Vg{Y:En}(T:ag Y.K "_law_steep" (top 60))(c:Y.mg "len"=none)(d:Y.mg "range"=none)(b:Y.mg "all"=none):Cl Y "_law_steep" 1 ["_law_row_here"] v7:=dG ["_law_row_here"] T λh f e A a s H E g=>(zc (zh (zf (Cd rfl) vf rfl b oT (ao (om ["_law_j","_law_row_here"] (ky rfl d (ao (fN (zf zm jl rfl c jm (ao sv)) zd))) (λ_ _ _ _ _=>(vh Gi (iy λ_ _ _ _=>.bl _) (fH sv sv (λ_ _=>rfl)) (cN kx '(' zd (fH sv (dh sv zd) (λ_ _=>rfl))) (az _))))))))
theorem FE:cb ["r","most","told","first"] ["r","most"] (af (top 44)):=⟨rfl,rfl,rfl,by decide +kernel,rfl,by decide +kernel,by decide +kernel⟩
theorem VB{Y:En}(r:1<=j)(a:∀ d l v c,fF d l=.ok v c->d.length=2)(T:ag Y.K "steep_from" (top 44))(p:Y.mg "min"=none)(n:Y.mg "range"=none)(h:Cl Y "steep_from" j ["r","most"] fF):Cl Y "steep_from" (j + 1) ["r","most"] (oH fF):=
 have g:=FE.nd
 P2 (k:=j) T Y.X Y.G FE (λ_ _ _ _ _ _ m o=>pJ m o λ_ _=>rfl) λf q A b s H E e=>(zb (gI (hY (ow e.units) ku (mB (pv 0)) zd (az _)) (zc (zh (jP (zp (eJ f6) f6)))) hX)
 (zb (xV (i:=2) g rfl (Or.inl rfl) (jP f6))
 (zb (xU qe rfl (CH rfl n (zp zd (zp (cN Ex r8 (zf (rj rfl) jp rfl p qS (zp (mB (pv 0)) (zp (mB (pv 1)) f6))) zd) f6))) (iR (i:=3) g rfl (Or.inr rfl))
 (zc (f7 (E9 (mB (pv 2)) (zp (nR rfl (zy (iS (xQ h a e rfl (zp (cN xo (iy λ_ _ _ _=>.int _) (mB (pv 0)) (mB (pv 3))) (zp (cN p6 '(' (mB (pv 3)) zd) f6))))) (λ_ _ _ _ _=>(iR (i:=0) (show(["rest","first"]:List Str).Nodup from by decide +kernel) rfl (Or.inl rfl))) (λ_ _ _ _ _=>p0) (λ_ _ _ _ _=>(cN Ex r8 (eJ (zp (mB (pv 1)) f6)) (mB (pv 0)))) (N:=["rest","first"]) (k:=1) (is:=[3]) (l8 (by rfl))) f6)))))
 (zc (zh (mB (pv 2)))))))
theorem Vk{Y:En}(T:ag Y.K "steep_from" (top 44))(g:Y.mg "min"=none)(e:Y.mg "range"=none):Cl Y "steep_from" 8 ["r","most"] (fm oH 7):=fG.iter (L:=1) (TN T Y.X Y.G FE (λ_ _ _ _ _ _ d f=>pJ d f λ_ _=>rfl)) (λ_ _ _ _ _ h=>xW h) (λF j b a c=>VB b a T g e c) 7
theorem Vl{Y:En}(T:ag Y.K "steep_rows" (top 45)) (a:Y.mg "MOST_RAISED"=some (.int 16 By))(e:Cl Y "is_whole" 1 ["thing"] md)(d:Cl Y "steep_from" 8 ["r","most"] (fm oH 7)):Cl Y "steep_rows" 9 ["r"] v9:=dG ["r"] T λh f g A b s H E c=>(zb (gI (JW.pt (qT (mC (jQ (bG e c (ao sv)))) (oz (mC (Fa oQ oQ (iy λ_ _ _ _=>.bl _) (iy λ_ _ _ _=>.bl _) zd sv (nP (EB (v:=.int 16) rfl a ⟨_,rfl⟩) (λ_ _=>.int _)))) (by first|exact Or.inl rfl|exact Or.inr rfl)))) (zc Cz) hX)
 (zc (zh (bG d c (bC sv sv)))))
theorem HJ{Y:En}(F:pR Y.K "law" "law" (top 62) f fd)(l:Y.mg "len"=none)(o:Y.mg "min"=none)(z:Y.mg "max"=none)(w:Y.mg "range"=none)(v:Y.mg "int"=none)(G:Y.mg "list"=none)(u:Y.mg "all"=none)(n:Cl Y "_law_bag" 1 ["_law_script","_law_at"] vJ)(r:Cl Y "_law_rows" 3 ["_law_bag_here","_law_many_here","_law_most","_law_long"] vQ)(j:Cl Y "_law_take" 1 ["_law_bag_here","_law_many_here"] zx)(y:Cl Y "_law_some_counts" 3 ["_law_bag_here","_law_many_here","_law_most"] C3)(e:Cl Y "_law_are_rows" 1 ["_law_found","_law_due"] rJ)(g:Cl Y "_law_counts_of" 4 ["_law_rows_here"] rM)(c:Cl Y "counts_of" 7 ["rows"] oF)(i:Cl Y "rows_by" 7 ["counts"] re)(C:Cl Y "_law_odd" 1 ["_law_things"] j4)(p:Cl Y "_law_steep" 1 ["_law_row_here"] v7)(q:Cl Y "steep_rows" 9 ["r"] v9)(m:Cl Y "_law_many" 1 ["_law_r"] vP)(t:Cl Y "settled" 6 ["rows"] vL):gk Y.P Y.w Y.K Y.mg Y.base jM 10 f fd ["_law_script"] (jw Y.K):=
 have h:cb ["_law_script","_law_k","_law_bag_here","_law_rows_here","_law_counts_here","_law_r","_law_back"] ["_law_script"] (af (top 62)):=⟨rfl,rfl,rfl,by decide +kernel,rfl,by decide +kernel,by decide +kernel⟩
 have b:=h.nd
 Jz (k:=9) F h rfl (λx A d s H E a=>(zb (dN (ky rfl w (ao (dh (zf (Nc rfl) jp rfl z wF (bC zd (zf (rj rfl) jp rfl o qS (bC (zf zm jl rfl l jm (ao sv)) zd)))) zd))) (cR b)
 (zb (bQ b (bG n a (bC sv sv)))
 (zb (bQ b (bG r a (zp sv (zp (fH (vi (bC zd zd)) (jo Nb GG rfl v rN (ao (vh (ow a.units) ku (bG j a (bC sv zd)) zd (az _)))) (λ_ _=>rfl)) (bC zd zd)))))
 (zb (bQ b (bG y a (zp sv (bC zd zd))))
 (zb (bQ b (bG j a (bC sv zd)))
 (zb (gI (mC (jQ (bG e a (bC (bG c a (ao sv)) (bG g a (ao sv)))))) (zc (zh k8)) hX)
 (zb (bQ b (bG i a (ao sv)))
 (zb (gI (JW.pt (qT (mC (jQ (bG e a (bC sv (bG C a (ao (jo FB xL rfl G Ee (ao sv)))))))) (qT (hY (vm a.units) ku (bG g a (ao sv)) sv (az _)) (oz (hY (vm a.units) ku (bG c a (ao sv)) sv (az _)) (by first|exact Or.inl rfl|exact Or.inr rfl))))) (zc (zh k8)) hX)
 (zb (gI (mC (jQ (zf (Cd rfl) vf rfl u oT (ao (om ["_law_row_here"] (zy sv) (λ_ _ _ _ _=>(bG p a (ao sv)))))))) (zc (zh k8)) hX)
 (zc (gI (JW.pt (qT (hY (vm a.units) ku (bG i a (ao (bG c a (ao sv)))) (bG t a (ao sv)) (az _)) (oz (hY (vm a.units) ku (zf zm jl rfl l jm (ao (bG q a (ao sv)))) (bG m a (ao sv)) (az _)) (by first|exact Or.inl rfl|exact Or.inr rfl)))) (zc (zh k8)) hX)))))))))))
 (zc (zh k8)))) K42.holds
theorem all_mk{l:W.OpenLaw}{K:Fg}(X:K.In h)(G:h.Ns mainGlobals mg)(hfa:mg "law"=some (.ref fa))
  (t1:ag K "_law_bag" (top 47))(t2:ag K "_law_odd" (top 49))(t3:ag K "_law_take" (top 48))(t4:ag K "_law_row" (top 50))(t5:ag K "_law_rows" (top 51))(t6:ag K "_law_counts" (top 52))(t7:ag K "_law_some_counts" (top 53))(t8:ag K "row_led_by" (top 27))(t9:ag K "changed" (top 17))(t10:ag K "place_filled" (top 18))(t11:ag K "line_filled" (top 19))(t12:ag K "without_noughts" (top 15))(t13:ag K "top_filled" (top 20))(t14:ag K "made_by_tables" (top 21))(t15:ag K "flip" (top 2))(t16:ag K "raises_by" (top 14))(t17:ag K "times" (top 22))(t18:ag K "counts_of_row" (top 24))(t19:ag K "from_behind" (top 26))(t20:ag K "rows_by" (top 28))(t21:ag K "_law_are_rows" (top 58))(t22:ag K "counts_of" (top 25))(t23:ag K "_law_made" (top 56))(t24:ag K "_law_lines" (top 54))(t25:ag K "_law_tables" (top 55))(t26:ag K "_law_times" (top 57))(t27:ag K "_law_counts_of" (top 59))(t28:ag K "rows_kept" (top 36))(t29:ag K "odd_ways" (top 10))(t30:ag K "rows_for_two" (top 31))(t31:ag K "rows_for_row" (top 32))(t32:ag K "is_whole" (top 1))(t33:ag K "stands_in" (top 33))(t34:ag K "falls_slowly" (top 30))(t35:ag K "is_place" (top 34))(t36:ag K "exchange_in" (top 35))(t37:ag K "walked" (top 42))(t38:ag K "moment" (top 39))(t39:ag K "flip_level" (top 40))(t40:ag K "places" (top 38))(t41:ag K "way" (top 41))(t42:ag K "settled" (top 43))(t43:ag K "_law_many" (top 61))(t44:ag K "_law_steep" (top 60))(t45:ag K "steep_from" (top 44))(t46:ag K "steep_rows" (top 45))(t47:ag K "law" (top 62)) (z0:W.nsIn K mainGlobals "len"=some none)(z1:W.nsIn K mainGlobals "abs"=some none)(z2:W.nsIn K mainGlobals "min"=some none)(z3:W.nsIn K mainGlobals "range"=some none)(z4:W.nsIn K mainGlobals "sorted"=some none)(z5:W.nsIn K mainGlobals "tuple"=some none)(z6:W.nsIn K mainGlobals "reversed"=some none)(z7:W.nsIn K mainGlobals "list"=some none)(z8:W.nsIn K mainGlobals "zip"=some none)(z9:W.nsIn K mainGlobals "all"=some none)(z10:W.nsIn K mainGlobals "enumerate"=some none)(z11:W.nsIn K mainGlobals "max"=some none)(z12:W.nsIn K mainGlobals "isinstance"=some none)(z13:W.nsIn K mainGlobals "bool"=some none)(z14:W.nsIn K mainGlobals "int"=some none)(z15:W.nsIn K mainGlobals "any"=some none)(z16:W.nsIn K mainGlobals "sum"=some none)(y0:W.nsIn K mainGlobals "MOST_RAISED"=some (some (.int 16 u0)))(y1:W.nsIn K mainGlobals "MOST_NUMBERS"=some (some (.int 4 u1))):
  ∃ fd:FuncData,(∀(s:Shared) (v:Value),BindsTo s fd ⟨[v],[]⟩ [("_law_script",v)])/\∀ base:Heap,K.In base->base.Ns mainGlobals mg->gk l.prog w K mg base jM 10 fa fd ["_law_script"] (jw K):=by
 have Ac:=ju X G z0;have z_abs:=ju X G z1;have Ad:=ju X G z2;have Aa:=ju X G z3;have Ae:=ju X G z4;have Ab:=ju X G z5;have Ap:=ju X G z6;have Ak:=ju X G z7;have z_zip:=ju X G z8;have Aj:=ju X G z9;have Aq:=ju X G z10;have Al:=ju X G z11;have Ai:=ju X G z12;have As:=ju X G z13;have Am:=ju X G z14;have z_any:=ju X G z15;have Au:=ju X G z16;have m_MOST_RAISED:=Dc X G y0;have m_MOST_NUMBERS:=Dc X G y1;obtain⟨f,fd,a,F⟩:=t47;have e:=hfa.symm.trans (Dc X G a);cases e;obtain⟨oc,od,kV,doc,pm,an,cdv,ct,osl,rfl,lk,hcd⟩:=id F.ex;refine⟨W.fnOf "law" "law" (cE (top 62)) (bo (top 62)) (af (top 62)) .none kV doc pm an cdv ct,λs v=>.of_eq rfl,λbase _ _=>?_⟩
 let Y:En:=⟨l.prog,w,K,mg,base,h,X,G⟩
 have Br:=UF (Y:=Y) t1 Ac z_abs Ad Aa;have Ah:=UG (Y:=Y) t2 Ae Ab;have Af:=U0 (Y:=Y) t3;have A4:=UH (Y:=Y) t4 Aa Ad Ab Af;have Bs:=UZ (Y:=Y) t5 Aa Ah Af A4;have A5:=Vq (Y:=Y) t6 Aa Ac Ab Af;have Bt:=VM (Y:=Y) t7 Aa Ah Af A5;have Bc:=Vj (Y:=Y) t8 Ap;have Ao:=Ub (Y:=Y) t9;have A6:=Vy (Y:=Y) t10 Ad Aa Ao;have A7:=Vu (Y:=Y) t11 Aa A6 Ao;have A9:=VL (Y:=Y) t12 Ak Ab;have A8:=Vm (Y:=Y) t13 Ac z_zip Aj Ab;have Ba:=VI (Y:=Y) t14 Ac Aq A7 A8 A9;have Ag:=J3 (Y:=Y) t15;have Az:=U2 (Y:=Y) t16;have Bb:=Md (Y:=Y) t17 Ae Ab m_MOST_RAISED Az Ba Ag;have Ar:=VF (Y:=Y) t18 Bb;have Bd:=Vt (Y:=Y) t19 Ac Ab Ap m_MOST_NUMBERS;have A3:=Uc (Y:=Y) t20 Al Ae Ab Bc Bd Ar Ag;have A1:=VE (Y:=Y) t21 Ab Ai As Am z_any;have Ay:=U1 (Y:=Y) t22 Ae Ab Ar Ag;have Bg:=UX (Y:=Y) t23 Aa Au Ac Ab;have Be:=Vf (Y:=Y) t24 Aa Ad
 have Bf:=Vr (Y:=Y) t25 Ab Ac Aa Be;have Bh:=Vh (Y:=Y) t26 Bf Bg Ah;have A2:=VH (Y:=Y) t27 Ak Bh Ah;have Bm:=U3 (Y:=Y) t28;have Bi:=UK (Y:=Y) t29;have Bj:=VA (Y:=Y) t30 Aa Ae Bi;have Aw:=Vz (Y:=Y) t31 Bj;have An:=UJ (Y:=Y) t32 As Ai Am;have Bl:=U4 (Y:=Y) t33 Aj Ab Ai An;have Bk:=Vx (Y:=Y) t34;have Av:=UI (Y:=Y) t35 Ac An Bk;have Bn:=Vs (Y:=Y) t36 Bl Av Ag Aw;have Bq:=NP (Y:=Y) t37 Ae Ab Bm Bn;have Bo:=NN (Y:=Y) t38 Aq Au;have A0:=Vi (Y:=Y) t39 Ag Bo;have Bp:=NO (Y:=Y) t40 Ac Aa Av;have c_way:=HK (Y:=Y) t41 Al Ae A0 Bp Aw;have Bx:=Ud (Y:=Y) t42 Bq c_way;have Bw:=UY (Y:=Y) t43 Aa;have Bu:=Vg (Y:=Y) t44 Ac Aa Aj;have Ax:=Vk (Y:=Y) t45 Ad Aa;have Bv:=Vl (Y:=Y) t46 m_MOST_RAISED An Ax
 exact HJ (Y:=Y) F Ac Ad Al Aa Am Ak Aj Br Bs Af Bt A1 A2 Ay A3 Ah Bu Bv Bw Bx
end K42
end
open PySem PySem.W PyProof.Rows
set_option maxRecDepth 100000 in
set_option maxHeartbeats 0 in
theorem PySem.Challenge.cw_raisedsums_k42_rows_to_counts_and_back_holds : PySem.Challenge.rw_raisedsums_k42_rows_to_counts_and_back.Holds := by
  w_on; o_law; k_head; (case hw => w_witness2)
  k_fill
  refine L2.KY (l := PySem.Challenge.rw_raisedsums_k42_rows_to_counts_and_back) (n := 63) (k := 10) (x := "_law_script") (CX := fun _ => L2.jM) (sp := fun w => Dd.jw _) rfl ')' rfl ⟨rfl, by decide, by decide⟩ (fun w h Y => PySem.W.kIn_of Y) ?F (fun _ _ a ns hl _ hS => ⟨a, ns, rfl, hS, hl, fun _ => rfl⟩) (fun _ _ _ _ _ z => z)
  case F =>
    intro w mg fa h KX G hmg
    refine' K42.all_mk KX G hmg ?t1 ?t2 ?t3 ?t4 ?t5 ?t6 ?t7 ?t8 ?t9 ?t10 ?t11 ?t12 ?t13 ?t14 ?t15 ?t16 ?t17 ?t18 ?t19 ?t20 ?t21 ?t22 ?t23 ?t24 ?t25 ?t26 ?t27 ?t28 ?t29 ?t30 ?t31 ?t32 ?t33 ?t34 ?t35 ?t36 ?t37 ?t38 ?t39 ?t40 ?t41 ?t42 ?t43 ?t44 ?t45 ?t46 ?t47 ?z0 ?z1 ?z2 ?z3 ?z4 ?z5 ?z6 ?z7 ?z8 ?z9 ?z10 ?z11 ?z12 ?z13 ?z14 ?z15 ?z16 ?y0 ?y1
    all_goals first|k_is|kernel_rfl|(refine' L2.Wg ?a ?l ?c ?k;(case a=>k_is);(case l=>k_is);(case c=>k_is);(case k=>k_is))|skip
#print axioms PySem.Challenge.cw_raisedsums_k42_rows_to_counts_and_back_holds
