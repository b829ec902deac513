import PyProof.Rows.All
import Wide.All
import OpenK.AllK
import Wide.FinOn
import PyProof.EqAt
import PyProof.EqKinds
import PyProof.TupleCall
import PySem.Challenge.RW_raisedsums_k49_whole_turned_twice
set_option Elab.async false
set_option linter.all false
set_option maxRecDepth 100000
noncomputable section
namespace PySem.W.Fast
theorem tw7614788706362083788:True:=⟨⟩
theorem tw5961341446936426596:True:=⟨⟩
theorem tw1971233985562415016:True:=⟨⟩
theorem tw9183063538509429633:True:=⟨⟩
theorem tw11350995695852160413:True:=⟨⟩
theorem tw15095309628121429990:True:=⟨⟩
theorem tw5177787212088997920:True:=⟨⟩
theorem tw11036675206835857570:True:=⟨⟩
theorem tw6786587986251052412:True:=⟨⟩
theorem tw5656644798420227449:True:=⟨⟩
theorem tw14475310471782460182:True:=⟨⟩
theorem tw3951868175824824290:True:=⟨⟩
theorem tw9858853186219493771:True:=⟨⟩
theorem tw1551656180486373036:True:=⟨⟩
theorem tw12294477988509441175:True:=⟨⟩
theorem tw813611306857784199:True:=⟨⟩
theorem tw12063514349629805762:True:=⟨⟩
theorem tw9185518329873665809:True:=⟨⟩
theorem tw15984136225032954664:True:=⟨⟩
theorem tw7490239040595013296:True:=⟨⟩
theorem tw12423808386398822238:True:=⟨⟩
theorem tw3211478463976625437:True:=⟨⟩
theorem tw6287981271878291937:True:=⟨⟩
theorem tw340082017308112930:True:=⟨⟩
theorem tw12054934257540845067:True:=⟨⟩
theorem tw9760744716323324454:True:=⟨⟩
theorem tw7504930502717274411:True:=⟨⟩
theorem tw10979514447465640419:True:=⟨⟩
theorem tw9076649166377227516:True:=⟨⟩
theorem tw14202491177318114193:True:=⟨⟩
theorem tw6691048764238461777:True:=⟨⟩
theorem tw4400021727395744322:True:=⟨⟩
theorem tw7821554799326492974:True:=⟨⟩
theorem tw5964365786694748402:True:=⟨⟩
theorem tw8958213021624947148:True:=⟨⟩
theorem tw2146624979759007759:True:=⟨⟩
theorem tw1441940571204907927:True:=⟨⟩
theorem tw1999668489283251704:True:=⟨⟩
theorem tw4592371862488196951:True:=⟨⟩
theorem tw8838824140200984575:True:=⟨⟩
theorem tw10721158218235966710:True:=⟨⟩
theorem tw8536364573460501223:True:=⟨⟩
theorem tw3551923629920198450:True:=⟨⟩
theorem tw6658864470131081375:True:=⟨⟩
theorem tw15885571217501895418:True:=⟨⟩
theorem tw7784730134784349007:True:=⟨⟩
theorem tw1116980198777329542:True:=⟨⟩
theorem tw15643765597446910711:True:=⟨⟩
theorem tw3373051496204313322:True:=⟨⟩
theorem tw9253805402735643110:True:=⟨⟩
theorem tw8816493365743681685:True:=⟨⟩
theorem tw9383862903524275430:True:=⟨⟩
theorem tw18069270196490798373:True:=⟨⟩
theorem tw229694538187866913:True:=⟨⟩
theorem tw5999923421889637099:True:=⟨⟩
theorem tw8008351372919010586:True:=⟨⟩
theorem tw10426252471647177710:True:=⟨⟩
theorem tw2444436513485746039:True:=⟨⟩
theorem tw17668826562736740686:True:=⟨⟩
theorem tw4837737863749209927:True:=⟨⟩
theorem tw5739195631575660793:True:=⟨⟩
theorem tw7823414201439681400:True:=⟨⟩
theorem tw11667421115086460457:True:=⟨⟩
theorem tw12924717572339713858:True:=⟨⟩
theorem tw7943414399584104589:True:=⟨⟩
theorem tw5305763608552530229:True:=⟨⟩
theorem tw12738575457282098923:True:=⟨⟩
theorem tw12248771019679647432:True:=⟨⟩
theorem tw16679570393952144084:True:=⟨⟩
theorem tw14261484313907031262:True:=⟨⟩
theorem tw4442679351457066763:True:=⟨⟩
theorem tw4687136241633351734:True:=⟨⟩
theorem tw7178575389806734250:True:=⟨⟩
theorem tw10398249166161254035:True:=⟨⟩
theorem tw5653912969486822932:True:=⟨⟩
theorem tw6414362213407812158:True:=⟨⟩
theorem tw918537245578227414:True:=⟨⟩
theorem tw6166738265606695142:True:=⟨⟩
theorem tw14618850636252399371:True:=⟨⟩
theorem tw13820616409303793316:True:=⟨⟩
theorem tw9236305423854142306:True:=⟨⟩
theorem tw301165077533815383:True:=⟨⟩
theorem tw10697213218793983669:True:=⟨⟩
theorem tw11610568936031721686:True:=⟨⟩
theorem tw13194555608324895490:True:=⟨⟩
theorem tw13973042805972328415:True:=⟨⟩
theorem tw113775681193476917:True:=⟨⟩
theorem tw8141924452777727822:True:=⟨⟩
theorem tw15351919140027187217:True:=⟨⟩
theorem tw5054940849641645896:True:=⟨⟩
theorem tw13622360169527889291:True:=⟨⟩
end PySem.W.Fast
open PySem
set_option genSizeOfSpec false
set_option genInjectivity false
abbrev Fg:=PySem.W.Frag
abbrev ab:=@PySem.wpAny_bind
abbrev az:=@List.length_map
abbrev cn:=@List.getElem?_eq_some_iff
abbrev ay:=@Nat.le_trans
abbrev cg:=@PySem.Heap.get?_push_of_some
abbrev aq:=@PySem.wpAny_pure
abbrev cr:=@List.mem_cons_of_mem
abbrev dr:=@List.getElem?_eq_getElem
abbrev dO:=@List.getD_eq_getElem?_getD
abbrev bj:=@Nat.le_refl
abbrev cx:=@List.length_append
abbrev db:=@List.mem_of_getElem?
abbrev bT:=@List.mem_range
abbrev bU:=@List.mem_cons
abbrev eR:=@List.getElem?_append_left
abbrev dq:=@Nat.lt_of_lt_of_le
abbrev cf:=@List.map_cons
abbrev dU:=@List.getElem?_set_ne
abbrev bh:=@PyProof.Rows.wpS_bind
abbrev di:=@List.all_eq_true
abbrev bu:=@PyProof.Rows.wpS_pure
abbrev ez:=@PySem.Heap.get?_push_size
abbrev dS:=@List.mem_cons_self
abbrev cu:=@PySem.Heap.lt_size
abbrev dR:=@List.size_toArray
abbrev dN:=@List.length_cons
abbrev eh:=@List.append_assoc
abbrev cP:=@List.mem_map
abbrev dM:=@decide_eq_false
abbrev eQ:=@List.take_length
abbrev fq:=@List.getElem?_map
abbrev eO:=@List.mem_append
abbrev fJ:=@List.mem_singleton
abbrev dF:=@Nat.ne_of_lt
abbrev fj:=@List.length_take
abbrev eK:=@decide_eq_true
abbrev dL:=@Nat.le_of_lt
abbrev gG:=@List.mem_append_right
abbrev gV:=@Nat.eq_of_beq_eq_true
abbrev fM:=@Nat.le_add_right
abbrev gF:=@Array.length_toList
abbrev fH:=@List.mem_filter
abbrev fU:=@Nat.le_of_not_lt
abbrev ik:=@Nat.le_of_ble_eq_true
abbrev iE:=@Option.map_eq_some_iff
abbrev fW:=@Option.some.inj
abbrev cJ:=@Ne.symm
abbrev iW:=@Array.getElem?_toList
abbrev ij:=@Nat.add_le_add_left
abbrev gU:=@of_decide_eq_true
abbrev gE:=@Bool.and_eq_true
abbrev iC:=@Nat.add_sub_cancel'
abbrev jY:=@List.drop_eq_getElem_cons
abbrev gC:=@List.map_append
abbrev gR:=@List.length_set
abbrev gQ:=@List.sum_append
abbrev gj:=@Nat.xor_assoc
abbrev me:=@List.getElem?_append_right
abbrev gi:=@List.map_map
abbrev iB:=@List.nodup_cons
abbrev kx:=@List.take_append_drop
abbrev jL:=@Nat.lt_of_le_of_lt
abbrev jK:=@PySem.W.mg_none_of
abbrev md:=@Nat.add_sub_cancel_left
abbrev l9:=@List.filter_cons_of_neg
abbrev l8:=@List.filter_cons_of_pos
abbrev lq:=@PySem.Heap.get?_update_self
abbrev jJ:=@Nat.le_of_lt_succ
abbrev jX:=@Nat.lt_of_le_of_ne
abbrev ln:=@Nat.le_sub_one_of_lt
abbrev jW:=@Nat.le_of_succ_le
abbrev ii:=@Nat.le_of_eq
abbrev ku:=@Bool.false_eq_true
abbrev l6:=@Nat.le_of_add_left_le
abbrev iV:=@PySem.wpAny_holding
abbrev l5:=@List.mem_of_mem_take
abbrev kr:=@List.foldl_append
abbrev kq:=@PySem.wpAny_newObj_type
abbrev mO:=@Nat.ble_eq_true_of_le
abbrev l4:=@Array.toList_append
abbrev iU:=@PyProof.Rows.wpS_forRange
abbrev pI:=@Nat.sub_lt_left_of_lt_add
abbrev ko:=@Nat.min_le_right
abbrev og:=@PySem.Heap.get?_update_other
abbrev kn:=@List.append_nil
abbrev km:=@Nat.le_antisymm
abbrev n0:=@Nat.add_lt_of_lt_sub'
abbrev iT:=@Nat.zero_le
abbrev ll:=@List.mem_flatMap
abbrev li:=@PySem.wpAny_call_entry
abbrev iA:=@PySem.wpAny_mono
abbrev pH:=@List.getElem?_set_self
abbrev mN:=@List.filter_append
abbrev lh:=@Nat.min_eq_left
abbrev l0:=@List.getElem_mem
abbrev jI:=@Nat.zero_add
abbrev jH:=@Nat.xor_zero
abbrev nZ:=@Nat.add_lt_add_left
abbrev nY:=@List.replicate_succ
abbrev sX:=@PyProof.Rows.callWith_type1
abbrev mM:=@PySem.wpAny_truthy_bool
abbrev jo:=@PySem.sizeLine_eq
abbrev qH:=@Int.eq_ofNat_of_zero_le
abbrev kl:=@List.sum_cons
abbrev nX:=@Bool.false_ne_true
abbrev lZ:=@List.find?_cons
abbrev pG:=@Nat.sub_lt_sub_right
abbrev pF:=@List.mem_of_mem_drop
abbrev mL:=@Nat.not_lt_of_le
abbrev jG:=@PySem.wpAny_field
abbrev pE:=@List.getElem_of_mem
abbrev pD:=@List.map_congr_left
abbrev pC:=@List.flatMap_append
abbrev nW:=@Int.toNat_natCast
abbrev qG:=@Nat.le_sub_of_add_le'
abbrev mK:=@PySem.W.kia_one
abbrev mJ:=@Bool.eq_iff_iff
abbrev pB:=@PySem.wpAny_Call_Name_kw
abbrev sW:=@Option.bind_eq_some_iff
abbrev qF:=@PySem.Around.under_plainId
abbrev nV:=@List.cons_append
abbrev mI:=@List.nodup_nil
abbrev h8:=@if_true
abbrev pz:=@Nat.lt_of_succ_lt
abbrev qE:=@PySem.Heap.SameBut.update
abbrev sV:=@PySem.builtinLookup_eq_fast
abbrev qD:=@PySem.Calls.spliced_cons
abbrev py:=@List.length_drop
abbrev px:=@List.lookup_cons
abbrev pu:=@Nat.succ_le_succ
abbrev qC:=@List.getElem?_drop
abbrev pq:=@List.not_mem_nil
abbrev lY:=@Nat.zero_xor
abbrev jh:=@PyProof.Rows.wpS_mono
abbrev mH:=@PySem.plainId_quiet
abbrev zL:=@PySem.F.slot_dict_keyiterator_next
abbrev sU:=@Nat.sub_le_sub_right
abbrev nU:=@PySem.Heap.size_push
abbrev qB:=@Nat.sub_pos_of_lt
abbrev qA:=@Nat.le_succ_of_le
abbrev qz:=@Array.toList_push
abbrev qy:=@List.length_range
abbrev qx:=@List.count_append
abbrev jm:=@if_false
abbrev qw:=@decide_eq_true_eq
abbrev pj:=@List.length_nil
abbrev pi:=@PySem.codeAny_builtin
abbrev ph:=@PySem.wpAny_ite_false
abbrev pf:=@PySem.wpAny_ite_split
abbrev mG:=@Nat.lt_or_ge
abbrev vw:=@List.take_of_length_le
abbrev vt:=@PySem.F.plain_max_loop
abbrev lX:=@PySem.wpAny_letGo
abbrev nT:=@Nat.lt_irrefl
abbrev zK:=@Array.perm_iff_toList_perm
abbrev qv:=@Nat.lt_of_not_le
abbrev vr:=@List.length_filter_le
abbrev sT:=@Nat.lt_of_lt_of_eq
abbrev vq:=@List.getElem?_toArray
abbrev sS:=@PySem.wpAny_pyIter_tuple
abbrev pd:=@PySem.wpAny_seqItems
abbrev zJ:=@Array.getElem?_eq_getElem
abbrev vp:=@List.mem_append_left
abbrev nS:=@Nat.ne_of_gt
abbrev vo:=@List.pairwise_append
abbrev vn:=@Bool.or_eq_false_iff
abbrev lW:=@PySem.wpAny_rule
abbrev qu:=@PySem.wpAny_updateSeq
abbrev sR:=@PySem.Calls.spliced_nil
abbrev sQ:=@List.flatten_cons
abbrev sP:=@List.nodup_append
abbrev sO:=@List.flatMap_cons
abbrev D7:=@PySem.wpAny_typeNameOfWhole_keyiter
abbrev zI:=@List.getElem?_cons_succ
abbrev vm:=@PySem.mem_of_lookup
abbrev vk:=@List.length_reverse
abbrev vj:=@beq_eq_false_iff_ne
abbrev mF:=@Nat.sub_le
abbrev zH:=@List.flatMap_singleton
abbrev mE:=@beq_iff_eq
abbrev nR:=@PySem.wpAny_of_eq
abbrev mD:=@PyProof.Rows.wpS_modify
abbrev vi:=@PySem.Obj.data_mapFields
abbrev vh:=@Nat.sub_add_cancel
abbrev vg:=@List.count_eq_zero
abbrev zG:=@List.length_replicate
abbrev zF:=@List.length_singleton
abbrev zE:=@List.Perm.append_left
abbrev zD:=@List.perm_append_comm
abbrev sN:=@List.foldl_cons
abbrev zC:=@List.getElem?_eq_none
abbrev sM:=@PySem.wpAny_passesOwn
abbrev sL:=@PySem.wpAny_specialOf
abbrev sK:=@PySem.typeLookup_type
abbrev qt:=@PySem.wpAny_attempt
abbrev vf:=@PySem.wpAny_dictEntries
abbrev zB:=@List.reverse_reverse
abbrev sJ:=@PySem.wpAny_setField
abbrev sI:=@PySem.wpAny_tryCatch
abbrev OT:=@List.take_succ_eq_append_getElem
abbrev ve:=@Nat.lt_succ_self
abbrev vd:=@PySem.F.plain_max_loop
abbrev qr:=@Int.zero_add
abbrev vc:=@List.map_flatMap
abbrev qq:=@Nat.xor_comm
abbrev qp:=@Nat.xor_self
abbrev D6:=@List.Pairwise.imp_of_mem
abbrev vb:=@beq_self_eq_true
abbrev zA:=@Nat.sub_le_sub_left
abbrev zi:=@Nat.testBit_two_pow
abbrev OS:=@PyProof.Rows.slot_tuple_getitem
abbrev D5:=@List.eraseIdx_cons_succ
abbrev D4:=@PySem.F.plainAttrs_dict
abbrev D3:=@List.countP_cons_of_pos
abbrev D2:=@Nat.lt_add_of_pos_right
abbrev sH:=@PySem.Paired.length
abbrev sG:=@List.any_cons
abbrev lf:=@PyProof.Rows.wpS_get
abbrev y9:=@List.zip_cons_cons
abbrev va:=@List.range_succ
abbrev pc:=@Nat.sub_lt
abbrev u9:=@Nat.min_le_left
abbrev u8:=@List.nil_append
abbrev y8:=@List.pairwise_cons
abbrev u6:=@PySem.PassesOwn.never
abbrev y6:=@List.count_pos_iff
abbrev u4:=@Int.natCast_add
abbrev uZ:=@Nat.testBit_xor
abbrev D0:=@PySem.wpAny_loadPart'
abbrev o9:=@PySem.call_meets
abbrev yZ:=@PySem.tupleKind_room_in1
abbrev yY:=@PySem.wpAny_setField_rec
abbrev DZ:=@PySem.Calls.callWith_builtin
abbrev DY:=@List.Perm.append_right
abbrev DX:=@List.drop_eq_nil_of_le
abbrev qo:=@decide_true
abbrev yX:=@Nat.lt_succ_of_lt
abbrev sF:=@Nat.lt_trans
abbrev DV:=@PySem.F.slot_dict_pop
abbrev DU:=@PySem.Obj.isFreed_of_fields
abbrev sE:=@Nat.sub_self
abbrev OR:=@Array.extract_eq_empty_of_le
abbrev sD:=@decide_false
abbrev yW:=@Nat.min_eq_right
abbrev DR:=@Array.toList_reverse
abbrev yV:=@PySem.F.slot_tuple_mul
abbrev yU:=@List.Nodup.count
abbrev DQ:=@Nat.pow_le_pow_right
abbrev DP:=@PySem.codeAny_call_builtin
abbrev OQ:=@Array.getElem?_eq_some_iff
abbrev OP:=@Nat.mod_two_eq_zero_or_one
abbrev DN:=@List.filter_sublist
abbrev OO:=@List.pairwise_iff_getElem
abbrev yT:=@Int.emod_nonneg
abbrev yS:=@List.count_cons
abbrev ON:=@Nat.shiftRight_eq_div_pow
abbrev OM:=@List.getElem?_take_of_lt
abbrev OL:=@PySem.F.args_tuple_add_2
abbrev uY:=@Nat.add_zero
abbrev OJ:=@PySem.AutoSeq1.wpAny_loadPart'
abbrev uX:=@PySem.codeAny_mono
abbrev DM:=@PyProof.Rows.slot_tuple_getitem
abbrev uW:=@PySem.call_meetsIn
abbrev o8:=@or_false
abbrev yR:=@PySem.isSubtype_type
abbrev OI:=@PySem.F.entry_tuple_add
abbrev OH:=@List.countP_cons_of_neg
abbrev OG:=@List.pairwise_singleton
abbrev OF:=@List.getElem?_cons_zero
abbrev OE:=@List.length_eq_zero_iff
abbrev OD:=@PySem.F.plainAttrs_list
abbrev DL:=@List.take_sublist
abbrev DK:=@Nat.zero_lt_of_lt
abbrev DJ:=@List.ext_getElem?
abbrev DH:=@List.reverse_cons
abbrev DF:=@List.Pairwise.map
abbrev DD:=@PySem.wpAny_pyIter_list
abbrev OC:=@PySem.F.slot_tuple_add
abbrev OB:=@Array.getElem?_eq_none
abbrev uV:=@Nat.le_succ
abbrev yQ:=@PySem.W.mg_of
abbrev DC:=@List.getElem_inj
abbrev DB:=@List.filter_cons
abbrev Dz:=@List.mem_reverse
abbrev Dy:=@Option.getD_some
abbrev Dx:=@List.nodup_range
abbrev Dw:=@PySem.wpAny_isInstance
abbrev qm:=@PyProof.Rows.wpS_lift
abbrev OA:=@PySem.F.slot_tuple_lt
abbrev Oz:=@PySem.F.slot_dict_get
abbrev Oy:=@PySem.F.slot_dict_len
abbrev Ox:=@PySem.Calls.evalArgs_plain
abbrev Ow:=@Nat.mul_le_mul_right
abbrev yP:=@Nat.pow_succ
abbrev Dv:=@List.foldr_cons
abbrev Du:=@List.filter_nil
abbrev Ov:=@PySem.F.called_tuple
abbrev Dt:=@Nat.two_pow_pos
abbrev Ds:=@PySem.wpAny_execs_nil
abbrev yO:=@PySem.wpAny_typeOf
abbrev Ou:=@List.filterMap_cons
abbrev Ot:=@List.mem_map_of_mem
abbrev Os:=@List.reverse_append
abbrev Oq:=@List.filter_eq_self
abbrev Sz:=@PySem.F.slot_dict_setdefault
abbrev yN:=@Int.add_mul
abbrev Op:=@Array.append_empty
abbrev Oo:=@Nat.pos_of_ne_zero
abbrev On:=@PySem.F.args_tuple_mul_2
abbrev Om:=@Nat.eq_zero_or_pos
abbrev Ol:=@PySem.wpAny_Constant_int
abbrev Sy:=@Int.fdiv_eq_ediv_of_nonneg
abbrev Sx:=@PyProof.Rows.boot_reversed
abbrev Dr:=@PySem.wpAny_standAt
abbrev Oj:=@PySem.Obj.cls_mapFields
abbrev Oi:=@List.mapM_toArray
abbrev Oh:=@PySem.F.entry_tuple_mul
abbrev Og:=@PySem.wpAny_pyIter_slot
abbrev Sw:=@List.mem_of_find?_eq_some
abbrev Sv:=@List.getElem?_eq_none_iff
abbrev yM:=@PySem.wpAny_call
abbrev Dq:=@List.map_nil
abbrev Of:=@Nat.max_eq_right
abbrev Dp:=@Int.le_trans
abbrev Do:=@Nat.succ_mul
abbrev Oe:=@List.drop_length
abbrev Od:=@List.map_reverse
abbrev Oc:=@map_eq_pure_bind
abbrev uU:=@and_self
abbrev Ob:=@List.of_mem_zip
abbrev Oa:=@List.forIn_cons
abbrev N9:=@Nat.le_add_left
abbrev N8:=@List.filter_map
abbrev Dm:=@Nat.two_pos
abbrev N7:=@List.drop_drop
abbrev N6:=@List.drop_zero
abbrev N5:=@Int.mul_nonneg
abbrev N4:=@Nat.mul_le_mul
set_option maxHeartbeats 0
namespace L2
open Spec PyProof.Rows
noncomputable abbrev cI:=Sum Int Str
def hG:cI->Value->Bool
 |.inl k,v=>Value.isInt k v
 |.inr x,v=>Value.isStrOf x v
def Po(w:World):cI->Int
 |.inl k=>hashInt k
 |.inr x=>hashStr w x
theorem nQ:∀{k:cI}{v:Value},hG k v=true->(∃i t,k=Sum.inl i/\v=Value.int i t)\/(∃x t,k=Sum.inr x/\v=Value.str x t)
 |.inl i,v,h=>by
  obtain⟨t,e⟩:=Value.isInt_shape (k:=i) (v:=v) h;exact .inl ⟨i,t,rfl,e⟩
 |.inr x,v,h=>by
  obtain⟨t,e⟩:=Value.isStrOf_shape (x:=x) (v:=v) h;exact .inr ⟨x,t,rfl,e⟩
theorem NL(i:Int)(t:Tok):hG (.inl i) (.int i t)=true:=by simp[hG,Value.isInt]
theorem NM(x:Str)(t:Tok):hG (.inr x) (.str x t)=true:=by simp[hG,Value.isStrOf]
theorem HF(a b:Int):decide ((Sum.inl a:cI)=Sum.inl b)=(a==b):=by
 by_cases e:a=b
 ·subst e;simp
 ·have h:¬ (Sum.inl a:cI)=Sum.inl b:=λq=>e (Sum.inl.inj q)
  rw[dM h];exact(vj.mpr e).symm
theorem HI(a b:Str):decide ((Sum.inr a:cI)=Sum.inr b)=decide (a=b):=by
 by_cases e:a=b
 ·subst e;simp
 ·have h:¬ (Sum.inr a:cI)=Sum.inr b:=λq=>e (Sum.inr.inj q)
  rw[dM h,dM e]
theorem HG(a:Int)(b:Str):decide ((Sum.inl a:cI)=Sum.inr b)=false:=dM (λq=>nomatch q)
theorem HH(a:Str)(b:Int):decide ((Sum.inr a:cI)=Sum.inl b)=false:=dM (λq=>nomatch q)
def ba(c:Program) (w:World):PySem.KeyKind c w cI where
 is:=hG
 hash:=Po w
 inj:=λv a b l g=>by
  rcases nQ l with⟨i,t,rfl,rfl⟩|⟨x,t,rfl,rfl⟩
  ·rcases nQ g with⟨j,u,rfl,e⟩|⟨y,u,rfl,e⟩
   ·injection e with d _;rw[d]
   ·exact nomatch e
  ·rcases nQ g with⟨j,u,rfl,e⟩|⟨y,u,rfl,e⟩
   ·exact nomatch e
   ·injection e with d _;rw[d]
 byValue:=λk v h=>by
  rcases nQ h with⟨i,t,rfl,rfl⟩|⟨x,t,rfl,rfl⟩<;>rfl
 pyHash:=λf h=>by
  rcases nQ f with⟨i,t,rfl,rfl⟩|⟨x,t,rfl,rfl⟩
  ·exact wpAny_pyHash_int h
  ·exact wpAny_pyHash_str h
 eqBool:=λm f h=>by
  rcases nQ m with⟨i,t,rfl,rfl⟩|⟨x,t,rfl,rfl⟩
  ·rcases nQ f with⟨j,u,rfl,rfl⟩|⟨y,u,rfl,rfl⟩
   ·rw[HF] at h;exact wpAny_eqBool_int h
   ·rw[HG] at h;exact SeqAt.EqAt.int_str i t y u _ _ _ _ h
  ·rcases nQ f with⟨j,u,rfl,rfl⟩|⟨y,u,rfl,rfl⟩
   ·rw[HH] at h;exact SeqAt.EqAt.str_int x t j u _ _ _ _ h
   ·rw[HI] at h;exact wpAny_eqBool_str h
 «strs»:=λk x t v h=>by
  rcases nQ h with⟨i,u,rfl,e⟩|⟨y,u,rfl,e⟩
  ·exact nomatch e
  ·injection e with d _
   subst d;cases v<;>rfl
theorem Ut(a:Program)(w:World)(i:Int)(t:Tok):(ba a w).is (.inl i) (.int i t)=true:=NL i t
theorem Uu(a:Program)(w:World)(x:Str)(t:Tok):(ba a w).is (.inr x) (.str x t)=true:=NM x t
set_option genInjectivity true in
inductive V where
 |non|bl (b:Bool)|int (i:Int)|str (x:Str)|byt (b:Array UInt8)|flt (b:UInt64)|ref (a:Addr)|ty (n:String)
 deriving DecidableEq
noncomputable def RelV:V->Value->Prop
 |.non,u=>u=Value.none
 |.bl b,u=>u=Value.bool b
 |.int i,u=>∃t,u=Value.int i t
 |.str x,u=>∃t,u=Value.str x t
 |.byt b,u=>∃t,u=Value.bytes b t
 |.flt b,u=>∃t,u=Value.float b t
 |.ref a,u=>u=Value.ref a
 |.ty n,u=>u=Value.type n
abbrev aj:List V->List Value->Prop:=Paired RelV
theorem aj.length(r:aj xs us):xs.length=us.length:=sH r
theorem aj.get:∀{a:List V}{b:List Value}{i:Nat}{x:V},aj a b->a[i]?=some x->∃u,b[i]?=some u/\RelV x u
 |_,_,_,_,.nil,e=>by simp at e
 |_,_,0,_,.cons r _,e=>by simp at e;subst e;exact⟨_,rfl,r⟩
 |_,_,i+1,x,.cons _ t,e=>by
  obtain⟨u,d,c⟩:=aj.get (i:=i) (x:=x) t (by simpa using e);exact⟨u,by simpa using d,c⟩
theorem aj.set(r:RelV x u):∀{a:List V}{b:List Value}(i:Nat),aj a b->aj (a.set i x) (b.set i u)
 |_,_,_,.nil=>.nil
 |_,_,0,.cons _ t=>.cons r t
 |_,_,i+1,.cons q t=>.cons q (aj.set r i t)
theorem aj.append:∀{a b:List V}{d c:List Value},aj a d->aj b c->aj (a++b) (d++c)
 |_,_,_,_,.nil,s=>s
 |_,_,_,_,.cons r t,s=>.cons r (aj.append t s)
theorem aj.take:∀{a:List V}{b:List Value}(n:Nat),aj a b->aj (a.take n) (b.take n)
 |_,_,0,_=>.nil
 |_,_,_+1,.nil=>.nil
 |_,_,n+1,.cons r t=>.cons r (aj.take n t)
theorem aj.drop:∀{a:List V}{b:List Value}(n:Nat),aj a b->aj (a.drop n) (b.drop n)
 |_,_,0,r=>r
 |_,_,_+1,.nil=>.nil
 |_,_,n+1,.cons _ t=>aj.drop n t
def fF:Option V->Option Value->Prop
 |some v,some u=>RelV v u
 |none,none=>True
 |_,_=>False
def KV{a:Type}:List (a×V)->List (a×Value)->Prop:=Paired λ(p:a×V) (q:a×Value)=>p.1=q.1/\RelV p.2 q.2
def kV:cI->V
 |.inl i=>.int i
 |.inr x=>.str x
set_option genInjectivity true in
inductive HO where
 |lst (xs:List V)
 |tup (xs:List V)
 |dK (kvs:List (cI×V))|dT (kvs:List (List cI×V))
 |set (S:Int->Bool) (n:Nat)
 |ins (C dx:Addr) (fs:List (Str×V))
 |own (x:Addr)
 |xd (fs:List (Str×V))
 |met (f x:Addr)
 |rng (lo hi:Int)
 |frz (o:Obj) (u:HO)
 |tbl (ps:Array Value)
 |ext (φ:Heap->Prop)
noncomputable abbrev Hp:=Addr->Option HO
def ar(H:Hp) (a:Addr) (o:HO):Hp:=λb=>if b=a then some o else H b
theorem zq:ar H a o a=some o:=by unfold ar;rw[if_pos rfl]
theorem zo(h:b≠a):ar H a o b=H b:=by unfold ar;rw[if_neg h]
theorem wK{H:Hp}{a b:Addr}{o u:HO}(h:H a=some o)(c:H b=some u)(d:o≠u):a≠b:=by
 intro e;subst e;rw[h] at c;exact d (fW c)
theorem zp{H:Hp}{a b:Addr}{o:HO}(h:H a=some o)(c:H b=none):a≠b:=by
 intro e;subst e;rw[h] at c;cases c
section
variable (P:Program)(w:World)
def ax(H:Hp) (h:Heap) (a:Addr):HO->Prop
 |.lst c=>c.length<=sizeLine/\∃(b:List Value) (n:Nat),aj c b/\h.get? a=some { cls:=.type "list",data:=.seq b.toArray n }
 |.tup c=>c.length<=sizeLine/\∃b:List Value,aj c b/\IsTup h a b.toArray
 |.dK kvs=>kvs.length<=sizeLine/\(a==sysModules)=false/\∃i,KV kvs i/\h.DictOf (ba P w) a i
 |.dT kvs=>kvs.length<=sizeLine/\(a==sysModules)=false/\∃c:List (List cI×Addr×Value),
  Paired (λ(p:List cI×V) (q:List cI×Addr×Value)=>p.1=q.1/\H q.2.1=some (.tup (p.1.map kV))/\RelV p.2 q.2.2) kvs c /\
  ∃o g k,h.get? a=some o/\o.ExactDict/\o.data=.dict g k/\g.toList=c.map (entryOfKey (tupleKind (ba P w)))/\(c.map (·.1)).Nodup
 |.set S n=>h.SetOf (intKind P w) a S n
 |.ins C dx fs=>H dx=some (.own a)/\fs.length<=1000/\dx≠a/\h.get? a=some (W.instObj C dx) /\
  ∃d,h.Ns1 dx d/\(∀f,fF (fs.lookup f) (d f))/\PySem.Within d (fs.map (·.1))
 |.own _=>∃o,h.get? a=some o
 |.xd fs=>∃d,h.Ns1 a d/\∀f,fF (fs.lookup f) (d f)
 |.rng lo hi=>∃ t u v,h.get? a=some { cls:=.type "range",data:=.fields #[.int lo t,.int hi u,.int 1 v] }
 |.frz o u=>h.get? a=some o/\ax H h a u
 |.tbl ps=>h.get? a=some {cls:=.none,data:=.fields ps}
 |.met f x=>h.get? a=some (W.methodObj (.ref f) (.ref x))
 |.ext φ=>φ h/\(∃o,h.get? a=some o)/\∀e j:Heap,φ e->(∀o,e.get? a=some o->j.get? a=some o)->φ j
def fL(H:Hp) (h:Heap):Prop:=∀a o,H a=some o->ax P w H h a o
end
theorem ax.lt(x:ax P w H h a o):a<h.objs.size:=by
 cases o with
 |lst xs=>obtain⟨_,_,_,_,e⟩:=x;exact cu e
 |tup xs=>obtain⟨_,_,_,p⟩:=x;exact p.lt
 |dK kvs=>obtain⟨_,_,_,_,o,_,_,e,_⟩:=x;exact cu e
 |dT kvs=>obtain⟨_,_,_,_,o,_,_,e,_⟩:=x;exact cu e
 |set S n=>obtain⟨o,_,_,_,e,_⟩:=x;exact cu e
 |ins C dx fs=>obtain⟨_,_,_,e,_⟩:=x;exact cu e
 |own y=>obtain⟨_,e⟩:=x;exact cu e
 |xd fs=>obtain⟨_,⟨_,_,_,e,_⟩,_⟩:=x;exact cu e
 |rng lo hi=>obtain⟨_,_,_,e⟩:=x;exact cu e
 |frz ob u=>obtain⟨e,_⟩:=x;exact cu e
 |tbl ps=>exact cu (show h.get? a=some _ from x)
 |met f y=>exact cu (show h.get? a=some _ from x)
 |ext φ=>obtain⟨_,⟨_,e⟩,_⟩:=x;exact cu e
section
variable {a:Addr}
theorem Paired.mapP{g e:Type}{F G:g->e->Prop}:∀{c:List g}{d:List e},Paired F c d->(∀a b,F a b->G a b)->Paired G c d
 |_,_,.nil,_=>.nil
 |_,_,.cons r t,f=>.cons (f _ _ r) (Paired.mapP t f)
end
theorem ax.stay{h:Heap}{s:Heap}(x:ax P w H h a o)(k:∀b u,(b=a\/H b=some (.own a))->h.get? b=some u->s.get? b=some u)
  (I:∀b,H b=some (.own a)->H' b=some (.own a))(R:∀b m,H b=some (.tup m)->H' b=some (.tup m)):ax P w H' s a o:=by
 induction o with
 |lst m=>obtain⟨z,l,n,r,e⟩:=x;exact⟨z,l,n,r,k _ _ (.inl rfl) e⟩
 |tup m=>obtain⟨z,l,r,g,e,c⟩:=x;exact⟨z,l,r,g,k _ _ (.inl rfl) e,c⟩
 |dK kvs=>obtain⟨z,y,T,r,g,j,i,e,c⟩:=x;exact⟨z,y,T,r,g,j,i,k _ _ (.inl rfl) e,c⟩
 |dT kvs=>
  obtain⟨z,y,m,r,g,j,i,e,c⟩:=x;exact⟨z,y,m,Paired.mapP r λp q z=>⟨z.1,R _ _ z.2.1,z.2.2⟩,g,j,i,k _ _ (.inl rfl) e,c⟩
 |set S n=>obtain⟨g,j,i,t,e,c⟩:=x;exact⟨g,j,i,t,k _ _ (.inl rfl) e,c⟩
 |ins C dx fs=>
  obtain⟨d,z,J,e,E,⟨A,j,i,Q,c⟩,r⟩:=x;exact⟨I _ d,z,J,k _ _ (.inl rfl) e,E,⟨A,j,i,k _ _ (.inr d) Q,c⟩,r⟩
 |own y=>obtain⟨g,e⟩:=x;exact⟨g,k _ _ (.inl rfl) e⟩
 |xd fs=>obtain⟨E,⟨A,j,i,e,c⟩,r⟩:=x;exact⟨E,⟨A,j,i,k _ _ (.inl rfl) e,c⟩,r⟩
 |rng lo hi=>obtain⟨t,u,v,e⟩:=x;exact⟨t,u,v,k _ _ (.inl rfl) e⟩
 |frz g u ih=>obtain⟨e,q⟩:=x;exact⟨k _ _ (.inl rfl) e,ih q⟩
 |tbl ps=>
  have e:h.get? a=some {cls:=.none,data:=.fields ps}:=x;show s.get? a=some {cls:=.none,data:=.fields ps};exact k a _ (.inl rfl) e
 |met f y=>
  have e:h.get? a=some (W.methodObj (.ref f) (.ref y)):=x;show s.get? a=some (W.methodObj (.ref f) (.ref y));exact k a _ (.inl rfl) e
 |ext φ=>obtain⟨p,⟨o,e⟩,G⟩:=x;exact⟨G _ _ p λo q=>k _ _ (.inl rfl) q,⟨o,k _ _ (.inl rfl) e⟩,G⟩
theorem fL.lt(x:fL P w H h)(e:H a=some o):a<h.objs.size:=(x a o e).lt
theorem fL.fresh(x:fL P w H h)(e:h.objs.size<=a):H a=none:=by
 cases q:H a with
 |none=>rfl
 |some u=>exact absurd (dq (x.lt q) e) (nT _)
theorem fL.kept{h':Heap}(x:fL P w H h)(k:∀b u,h.get? b=some u->h'.get? b=some u):fL P w H h':=λa o e=>
 (x a o e).stay (λb u _ q=>k b u q) (λ_ q=>q) λ_ _ q=>q
section
variable {P:Program}{w:World}{H:Hp}{h:Heap}{h':Heap}{a:Addr}{o:HO}
theorem fL.laid(x:fL P w H h)(k:∀b u,h.get? b=some u->h'.get? b=some u)(g:h.objs.size<=a)(d:ax P w (ar H a o) h' a o):fL P w (ar H a o) h':=λb u e=>by
 have f:=x.fresh g;by_cases hb:b=a
 ·subst hb;rw[zq] at e;cases e;exact d
 ·rw[zo hb] at e;exact(x b u e).stay (λc v _ q=>k c v q) (λc q=>by rw[zo (zp q f)];exact q) λc i q=>by rw[zo (zp q f)];exact q
end
def Rd(H:Hp) (a:Addr) (u:HO):Prop:=H a=some u\/∃o,H a=some (.frz o u)
theorem Rd.ok(r:Rd H a u)(x:fL P w H h):ax P w H h a u:=by
 rcases r with r|⟨o,r⟩
 ·exact x a u r
 ·obtain⟨_,q⟩:=x a _ r;exact q
noncomputable def BL:Option HO->Prop
 |some (.lst _)=>True
 |some (.dK _)=>True
 |some (.dT _)=>True
 |some (.set _ _)=>True
 |some (.ins _ _ _)=>True
 |some (.ext _)=>True
 |_=>False
theorem fL.write{h':Heap}(n:fL P w H h)(g:BL (H x))(m:e=x\/H e=some (.own x))(k:∀b u,b≠e->h.get? b=some u->h'.get? b=some u)(i:∃u,h'.get? e=some u)
  (j:ax P w (ar H x o') h' x o'):fL P w (ar H x o') h':=λb u q=>by
 have a:∀c y,H c=some (.own y)->c≠x:=λc y r z=>by subst z;rw[r] at g;exact g
 have d:∀c f,H c=some (.tup f)->c≠x:=λc f r z=>by subst z;rw[r] at g;exact g
 by_cases hb:b=x
 ·subst hb;rw[zq] at q;cases q;exact j
 ·rw[zo hb] at q;by_cases hbe:b=e
  ·have l:H b=some (.own x):=by
    rcases m with z|z
    ·exact absurd (hbe.trans z) hb
    ·rw[hbe];exact z
   rw[q] at l;cases l
   obtain⟨v,o⟩:=i;exact⟨v,by rw[hbe];exact o⟩
  ·refine(n b u q).stay (λc v hc r=>k c v ?_ r) (λc r=>by rw[zo (a c b r)];exact r) λc f r=>by rw[zo (d c f r)];exact r
   rcases hc with rfl|hc
   ·exact hbe
   ·rintro rfl;rcases m with z|z
    ·exact a c b hc z
    ·rw[hc] at z;cases z;exact hb rfl
structure Un (fs ex:List Addr) (H H':Hp) (h h':Heap):Prop where
 keep:∀b o,h.get? b=some o->H b=none->b∉fs->b∉ex->h'.get? b=some o
 slot:∀b o,h.get? b=some o->H b=none->b∈fs->b∉ex->∃sl,h'.get? b=some {o with slots:=sl}
 free:∀b o,h.get? b=some o->H b=none->b∉ex->H' b=none
 there:∀b o,h.get? b=some o->b∉ex->∃o',h'.get? b=some o'
 tups:∀b xs,H b=some (.tup xs)->H' b=some (.tup xs)
 frzs:∀b o u,H b=some (.frz o u)->H' b=some (.frz o u)
 tbls:∀b ps,H b=some (.tbl ps)->∃more,H' b=some (.tbl (ps++more))
theorem Un.any(u:Un fs ex H H1 h h1) (q:h.get? b=some ob)(n:H b=none)(a:b∉ex):∃c,h1.get? b=some {ob with slots:=c}:=by
 by_cases hb:b∈fs
 ·exact u.slot b ob q n hb a
 ·exact⟨ob.slots,u.keep b ob q n hb a⟩
theorem Un.kept{h:Heap}{h':Heap}(k:∀b u,h.get? b=some u->h'.get? b=some u):Un fs ex H H h h':=
 ⟨λb a q _ _ _=>k b a q,λb a q _ _ _=>⟨a.slots,k b a q⟩,λ_ _ _ n _=>n,λb a q _=>⟨a,k b a q⟩,λ_ _ q=>q,λ_ _ _ q=>q,λ_ c q=>⟨#[],by rw[q];simp⟩⟩
theorem Un.refl:Un fs ex H H h h:=Un.kept λ_ _ q=>q
section
variable {fs:List Addr}{ex:List Addr}{H:Hp}{h:Heap}{h':Heap}{a:Addr}{o:HO}
theorem Un.laid(k:∀b u,h.get? b=some u->h'.get? b=some u)(e:h.objs.size<=a)(c:H a=none):Un fs ex H (ar H a o) h h' where
 keep:=λb u q _ _ _=>k b u q
 slot:=λb u q _ _ _=>⟨u.slots,k b u q⟩
 free:=λb u q n _=>by rw[zo (dF (dq (cu q) e))];exact n
 there:=λb u q _=>⟨u,k b u q⟩
 tups:=λb d q=>by rw[zo (zp q c)];exact q
 frzs:=λb u d q=>by rw[zo (zp q c)];exact q
 tbls:=λb f q=>⟨#[],by rw[zo (zp q c),q];simp⟩
end
theorem Un.write{h:Heap}{h':Heap}(a:BL (H x))(l:e=x\/H e=some (.own x))(k:∀b u,b≠e->h.get? b=some u->h'.get? b=some u)(d:∃u,h'.get? e=some u):Un fs ex H (ar H x o) h h':=by
 have g:∀b,H b=none->b≠x:=λb n z=>by subst z;rw[n] at a;exact a
 have f:∀b,H b=none->b≠e:=λb n z=>by
  subst z;rcases l with r|r
  ·exact g b n r
  ·rw[n] at r;cases r
 have c:∀b u,H b=some u->¬ BL (some u)->b≠x:=λb u q j z=>by subst z;rw[q] at a;exact j a
 refine⟨λb u q n _ _=>k b u (f b n) q,λb u q n _ _=>⟨u.slots,k b u (f b n) q⟩,λb u q n _=>by rw[zo (g b n)];exact n,λb u q _=>?_,
  λb i q=>by rw[zo (c b _ q λz=>z)];exact q,λb u i q=>by rw[zo (c b _ q λz=>z)];exact q,λb m q=>⟨#[],by rw[zo (c b _ q λz=>z),q];simp⟩⟩
 by_cases hbe:b=e
 ·subst hbe;exact d
 ·exact⟨u,k b u hbe q⟩
def D8(h:Heap) (H:Hp):List Addr:=(List.range h.objs.size).filter λa=>(H a).isSome
def i5(h:Heap) (H:Hp):Heap:=W.hideAll h (D8 h H)
theorem NI(h:Heap)(H:Hp):(i5 h H).objs.size=h.objs.size:=W.hideAll_size _ _
theorem L9{h:Heap}(e:h.get? b=some o)(n:H b=none):(i5 h H).get? b=some o:=
 W.hideAll_get _ e λa=>by
  have q:(H b).isSome=true:=(fH.mp a).2;rw[n] at q;simp at q
theorem Kt(e:(i5 h H).get? b=some o):h.get? b=some o/\H b=none:=by
 have a:h.get? b=some o:=W.of_hideAll (D8 h H) e;refine⟨a,?_⟩;cases q:H b with
 |none=>rfl
 |some x=>
  have c:b∈D8 h H:=fH.mpr ⟨bT.mpr (cu a),by simp[q]⟩;have z:(i5 h H).get? b=none:=W.hideAll_none (D8 h H) c;rw[z] at e;cases e
structure Mod (K:Fg) (mg:Str->Option Value) (base:Heap):Prop where
 kin:K.In base
 glob:base.Ns mainGlobals mg
 blt:∃ mb,base.Ns builtinsNs mb/\∀ x:Str,x≠"__name__"->mb x=bootBuiltins x
 nolimit:base.NoLimit
structure Cx where
 prog:Program
 w:World
 K:Fg
 mg:Str->Option Value
 base:Heap
 A:Around
 N:List Str
 s₀:Shared
 H₀:Hp
 env:Env
 outer:List Env
 stack:List Env
 ex:List Addr
 fn:Str->Bool
 calm:Bool
 pn:List (Addr×Obj)
 xe:Value->Shared->Prop
noncomputable def kI(l:List Env):List Addr:=l.filterMap (·.frame)
abbrev Cx.fs(X:Cx):List Addr:=kI X.outer
noncomputable def vB(a:Scope) (x:Str):Prop:=a.names.lookup x=some .local\/a.names.lookup x=some .cell\/a.names.lookup x=some .free
noncomputable def Loc(a:Scope) (x:Str):Prop:=a.names.lookup x=some .local\/a.names.lookup x=some .cell
noncomputable def Look(a:Env) (h:Heap) (m:Str->Option Value) (x:Str) (u:Value):Prop:=
 (a.kindOf x=some .local/\m x=some u)\/((a.kindOf x=some .cell\/a.kindOf x=some .free)/\∃c,a.cells.lookup x=some c/\h.IsCell c (some u))
structure Cx.Ok (X:Cx):Prop where
 mod:Mod X.K X.mg X.base
 kind:X.env.scope.kind=.function
 glob:X.env.globals=mainGlobals
 blt:X.env.builtins=builtinsNs
 above:X.s₀.heap.objs.size<=X.env.locals
 inj:∀x y c,X.env.cells.lookup x=some c->X.env.cells.lookup y=some c->x=y
 has:∀x,(X.env.kindOf x=some .cell\/X.env.kindOf x=some .free)->∃c,X.env.cells.lookup x=some c
 cab:∀x c,X.fn x=true->X.env.cells.lookup x=some c->X.s₀.heap.objs.size<=c
 hd:X.calm=true->X.A.handled=none
 frames:X.A.frames=some X.stack
 stk:X.stack=X.outer\/(X.stack=X.env::X.outer/\X.env.frame=some X.env.locals)
 exf:∀b∈X.ex,b≠X.env.locals/\∀x c,X.env.cells.lookup x=some c->c≠b
 bs:∀b o,X.base.get? b=some o->X.s₀.heap.get? b=some o/\X.H₀ b=none
 bsz:X.base.objs.size<=X.s₀.heap.objs.size
 noex:∀b o,X.base.get? b=some o->b∉X.ex
 exfs:∀b∈X.ex,b∉X.fs
 funs:X.s₀.heap.FunFrames X.base X.outer
 frf:∀b∈X.fs,X.H₀ b=none
def ui(A:Around) (H:Hp):Prop:=∀v,A.handled=some v->∃a o,v=.ref a/\H a=some (.frz o (.ext λ_=>True))/\∃b,o.data=.fields b/\b[2]?=some .none
theorem ui.map(h:ui A H)(f:∀b o u,H b=some (.frz o u)->H' b=some (.frz o u)):ui A H':=λv e=>let ⟨a,o,h1,h2,h3⟩:=h v e;⟨a,o,h1,f _ _ _ h2,h3⟩
theorem ui.none{A:Around}(h:A.handled=.none):ui A H:=λv e=>by rw[h] at e;cases e
structure Inv (X:Cx) (aW:List (Addr×Obj)) (σ:List (Option V)) (H:Hp) (s:Shared):Prop where
 ok:X.Ok
 os:s.os=X.s₀.os
 bare:AllBare s.gens
 base:Un X.fs X.ex X.H₀ H X.s₀.heap s.heap
 loc:∃m,s.heap.Ns X.env.locals m/\∀(i:Nat) (x:Str) (v:V),X.N[i]?=some x->σ[i]?=some (some v)->vB X.env.scope x->∃u,RelV v u/\Look X.env s.heap m x u
 cell:∀x c,X.env.cells.lookup x=some c->∃v,s.heap.IsCell c v
 free:H X.env.locals=none
 freeC:∀x c,X.env.cells.lookup x=some c->H c=none
 pin:∀p∈X.pn++aW,s.heap.get? p.1=some p.2/\H p.1=none/\p.1≠X.env.locals/\p.1∉X.fs/\∀v,p.2.data≠.cell v
 hok:fL X.prog X.w H s.heap
 len:σ.length=X.N.length
 hnd:ui X.A H
theorem Cx.Ok.nofr{X:Cx}(c:X.Ok) (e:X.base.get? b=some o):b∉X.fs:=λa=>by
 have:=(c.funs.mem a).1;rw[e] at this;cases this
theorem Inv.bs(I:Inv X aW σ H s):∀b o,X.base.get? b=some o->s.heap.get? b=some o/\H b=none:=λb o e=>
 ⟨I.base.keep b o (I.ok.bs b o e).1 (I.ok.bs b o e).2 (I.ok.nofr e) (I.ok.noex b o e),I.base.free b o (I.ok.bs b o e).1 (I.ok.bs b o e).2 (I.ok.noex b o e)⟩
theorem Inv.bk(I:Inv X aW σ H s):∀b o,X.base.get? b=some o->s.heap.get? b=some o:=λb o e=>(I.bs b o e).1
theorem Inv.mod(I:Inv X aW σ H s):Mod X.K X.mg X.base:=I.ok.mod
theorem Inv.kIn(I:Inv X aW σ H s):X.K.In s.heap:=I.ok.mod.kin.keeps I.bk
theorem Inv.lt(I:Inv X aW σ H s):X.env.locals<s.heap.objs.size:=let ⟨_,hn,_⟩:=I.loc;hn.lt
theorem Inv.sz(I:Inv X aW σ H s):X.s₀.heap.objs.size<=s.heap.objs.size:=ay I.ok.above (dL I.lt)
theorem Inv.nofs(I:Inv X aW σ H s) (h:s.heap.objs.size<=a):a∉X.fs:=λc=>by
 obtain⟨_,o,b,_⟩:=I.ok.funs.mem c;exact absurd (dq (cu b) (ay I.sz h)) (nT _)
theorem Inv.cne(I:Inv X aW σ H s):∀x c,X.env.cells.lookup x=some c->c≠X.env.locals:=λx c e z=>by
 obtain⟨v,o,d,f⟩:=I.cell x c e;obtain⟨m,⟨h,i,g,b,a,_⟩,_⟩:=I.loc;rw[z,b] at d;cases d;rw[a] at f;cases f
theorem Inv.funs(I:Inv X aW σ H s):s.heap.FunFrames X.base X.outer:=by
 have all:∀(l:List Env),(∀b∈kI l,b∈X.fs)->X.s₀.heap.FunFrames X.base l->s.heap.FunFrames X.base l:=by
  intro l
  induction l with
  |nil=>intro _ _;trivial
  |cons env r ih=>
   intro f m;obtain⟨g,⟨L,o,d,j,i,k⟩,h⟩:=m;have a:L∈X.fs:=f L (by unfold kI;rw[Ou,d];exact dS);obtain⟨n,e⟩:=I.base.slot L o i (I.ok.frf L a) a λz=>I.ok.exfs L z a
   exact⟨g,⟨L,_,d,j,e,k⟩,ih (λb c=>f b (by unfold kI;rw[Ou,d];exact cr _ c)) h⟩
 exact all X.outer (λ_ c=>c) I.ok.funs
theorem Inv.stack(I:Inv X aW σ H s):s.heap.FunFrames X.base X.stack:=by
 rcases I.ok.stk with e|⟨e,b⟩
 ·rw[e];exact I.funs
 ·rw[e];obtain⟨m,a,_⟩:=I.loc;refine .cons (by rw[I.ok.kind];decide) b a ?_ I.funs;exact Heap.get?_none_of_le (ay I.ok.bsz I.ok.above)
theorem Inv.stkSub(I:Inv X aW σ H s):∀b∈kI X.stack,b∈X.env.locals::X.fs:=λb a=>by
 rcases I.ok.stk with e|⟨e,c⟩
 ·rw[e] at a;exact cr _ a
 ·rw[e] at a;unfold kI at a;rw[Ou,c] at a;exact a
theorem Inv.stkFree(I:Inv X aW σ H s):∀b∈kI X.stack,H b=none:=λb hb=>by
 rcases bU.mp (I.stkSub b hb) with e|hb
 ·rw[e];exact I.free
 ·obtain⟨_,o,a,_⟩:=I.ok.funs.mem hb;exact I.base.free b o a (I.ok.frf b hb) λz=>I.ok.exfs b z hb
section
variable {X:Cx}{aW:List (Addr×Obj)}{σ:List (Option V)}{H:Hp}{H':Hp}{s:Shared}{h':Heap}
theorem Inv.step{g':Array GenState}{t':Nat}{d':Drawn}{ch:List Addr}(I:Inv X aW σ H s)
  (h:∀b∈ch,(b∈X.ex\/X.s₀.heap.objs.size<=b)/\b≠X.env.locals/\(∀x c,X.env.cells.lookup x=some c->c≠b)/\∀p∈X.pn++aW,p.1≠b)
  (f:∀b o,b≠X.env.locals->b∉X.fs->b∉ch->s.heap.get? b=some o->H b=none->h'.get? b=some o)
  (C:∀b o,b≠X.env.locals->b∈X.fs->b∉ch->s.heap.get? b=some o->H b=none->∃sl,h'.get? b=some {o with slots:=sl})(free:∀b o,b∉ch->s.heap.get? b=some o->H b=none->H' b=none)
  (G:∀b o,b∉ch->s.heap.get? b=some o->∃Q,h'.get? b=some Q)
  (P:∀b A,H b=some (.tup A)->H' b=some (.tup A))(y:∀b o u,H b=some (.frz o u)->H' b=some (.frz o u))(U:∀b Y,H b=some (.tbl Y)->∃T,H' b=some (.tbl (Y++T)))
  (ns:∀m,s.heap.Ns X.env.locals m->h'.Ns X.env.locals m)(a2:fL X.prog X.w H' h')(hg:AllBare g'):
  Inv X aW σ H' {s with heap:=h',gens:=g',drawn:=d',toks:=t'}:=by
 have R:∀b o,X.s₀.heap.get? b=some o->b≠X.env.locals:=λb o e=>dF (dq (cu e) I.ok.above)
 have w:∀b o,X.s₀.heap.get? b=some o->b∉X.ex->b∉ch:=λb o e a E=>by
  rcases(h b E).1 with z|z
  ·exact a z
  ·exact absurd (dq (cu e) z) (nT _)
 have g:∀x c,X.env.cells.lookup x=some c->∀v,s.heap.IsCell c v->h'.IsCell c v:=λx c e v a0=>by
  obtain⟨o,J,hd⟩:=a0;have j:c∉ch:=λz=>(h c z).2.2.1 x c e rfl
  by_cases hc:c∈X.fs
  ·obtain⟨sl,q⟩:=C c o (I.cne x c e) hc j J (I.freeC x c e);exact⟨_,q,hd⟩
  ·exact⟨o,f c o (I.cne x c e) hc j J (I.freeC x c e),hd⟩
 refine⟨I.ok,I.os,hg,⟨λb o e n E a=>?_,λb o e n E a=>?_,λb o e n a=>?_,λb o e a=>?_,λb A e=>P b A (I.base.tups b A e),λb o A e=>y b o A (I.base.frzs b o A e),λb Y e=>?_⟩,?_,λx c e=>?_,?_,λx c e=>?_,λp hp=>?_,a2,I.len,I.hnd.map y⟩
 ·exact f b o (R b o e) E (w b o e a) (I.base.keep b o e n E a) (I.base.free b o e n a)
 ·obtain⟨sl,t⟩:=I.base.slot b o e n E a;obtain⟨a1,S⟩:=C b _ (R b o e) E (w b o e a) t (I.base.free b o e n a);exact⟨a1,S⟩
 ·obtain⟨Q,t⟩:=I.base.there b o e a;exact free b Q (w b o e a) t (I.base.free b o e n a)
 ·obtain⟨Q,t⟩:=I.base.there b o e a;exact G b Q (w b o e a) t
 ·obtain⟨m1,t⟩:=I.base.tbls b Y e;obtain⟨m2,S⟩:=U b _ t;exact⟨m1++m2,by rw[S,Array.append_assoc]⟩
 ·obtain⟨m,hn,hl⟩:=I.loc;refine⟨m,ns m hn,λi x v t S e3=>?_⟩;obtain⟨u,r,l⟩:=hl i x v t S e3;refine⟨u,r,?_⟩;rcases l with l|⟨k,c,e,z⟩
  ·exact .inl l
  ·exact .inr ⟨k,c,e,g x c e _ z⟩
 ·obtain⟨v,z⟩:=I.cell x c e;exact⟨v,g x c e v z⟩
 ·obtain⟨m,⟨o,_,_,J,_⟩,_⟩:=I.loc;exact free _ o (λz=>(h _ z).2.1 rfl) J I.free
 ·obtain⟨v,o,J,hd⟩:=I.cell x c e;exact free c o (λz=>(h c z).2.2.1 x c e rfl) J (I.freeC x c e)
 ·obtain⟨e,n,ne,nf,d⟩:=I.pin p hp;have j:p.1∉ch:=λz=>(h p.1 z).2.2.2 p hp rfl
  exact⟨f p.1 p.2 ne nf j e n,free p.1 p.2 j e n,ne,nf,d⟩
theorem Inv.un{t':Nat}(I:Inv X aW σ H s)(u:Un X.fs [] H H' s.heap h')(f:fL X.prog X.w H' h'):Inv X aW σ H' {s with heap:=h',toks:=t'}:=by
 obtain⟨m,⟨o,v,q,h,r⟩,_⟩:=id I.loc;obtain⟨p,j⟩:=u.any h I.free (by simp)
 exact I.step (g':=s.gens) (d':=s.drawn) (ch:=[]) (λ_ z=>nomatch z) (λb o _ d _ e n=>u.keep b o e n d (by simp)) (λb o _ d _ e n=>u.slot b o e n d (by simp)) (λb o _ e n=>u.free b o e n (by simp)) (λb o _ e=>u.there b o e (by simp)) u.tups u.frzs u.tbls (λl k=>by
  obtain⟨t,c,g,a,i⟩:=k;rw[h] at a;cases a
  exact⟨_,c,g,j,i⟩) f I.bare
theorem Inv.call{g':Array GenState}{t':Nat}{d':Drawn}{ch:List Addr}(I:Inv X aW σ H s)(u:Un (kI X.stack) ch H H' s.heap h')(i:fL X.prog X.w H' h')(v:AllBare g')
  (f:∀b∈ch,(b∈X.ex\/X.s₀.heap.objs.size<=b)/\b≠X.env.locals/\(∀x c,X.env.cells.lookup x=some c->c≠b)/\∀p∈X.pn++aW,p.1≠b):
  Inv X aW σ H' {s with heap:=h',gens:=g',drawn:=d',toks:=t'}:=by
 obtain⟨m,⟨o,E,A,k,r⟩,_⟩:=id I.loc;obtain⟨y,g⟩:=u.any k I.free λz=>(f _ z).2.1 rfl
 exact I.step (ch:=ch) f (λb o g t a e n=>u.keep b o e n (λz=>(bU.mp (I.stkSub b z)).elim g t) a) (λb o _ _ a e n=>u.any e n a) (λb o a e n=>u.free b o e n a) (λb o a e=>u.there b o e a) u.tups u.frzs u.tbls (λw q=>by
  obtain⟨C,h,j,d,l⟩:=q;rw[k] at d;cases d
  exact⟨_,h,j,g,l⟩) i v
end
section
variable {X:Cx}{aW:List (Addr×Obj)}{σ:List (Option V)}{H:Hp}{s:Shared}{h':Heap}
theorem Inv.turned{t':Nat}{it:Addr}(I:Inv X aW σ H s)(k:∀b o,b≠it->s.heap.get? b=some o->h'.get? b=some o)(i:H it=none)(f:it≠X.env.locals)
  (h:it∈X.ex\/X.s₀.heap.objs.size<=it)(A:∀x c,X.env.cells.lookup x=some c->c≠it)(w:∀p∈X.pn++aW,p.1≠it):Inv X aW σ H {s with heap:=h',toks:=t'}:=by
 have d:∀b u,H b=some u->b≠it:=λb u e z=>by rw[z,i] at e;cases e
 refine I.step (g':=s.gens) (d':=s.drawn) (ch:=[it]) (λb t=>?_) (λb o _ _ a e _=>k b o (λz=>a (by simp[z])) e) (λb o _ _ a e _=>⟨o.slots,k b o (λz=>a (by simp[z])) e⟩) (λ_ _ _ _ n=>n)
  (λb o a e=>⟨o,k b o (λz=>a (by simp[z])) e⟩) (λ_ _ e=>e) (λ_ _ _ e=>e) (λb C e=>⟨#[],by rw[e];simp⟩) (λm j=>?_) (λb u e=>?_) I.bare
 ·have e:b=it:=by simpa using t
  subst e;exact⟨h,f,A,w⟩
 ·obtain⟨o,y,l,g,r⟩:=j;exact⟨o,y,l,k _ o (cJ f) g,r⟩
 ·refine(I.hok b u e).stay (λc v a q=>k c v ?_ q) (λ_ q=>q) λ_ _ q=>q
  rcases a with z|z
  ·rw[z];exact d b u e
  ·exact d c _ z
end
theorem Inv.tok(I:Inv X aW σ H s)(t:Nat):Inv X aW σ H {s with toks:=t}:=I.un (h':=s.heap) (t':=t) Un.refl I.hok
theorem Inv.kept{h':Heap}(I:Inv X aW σ H s)(k:∀b u,s.heap.get? b=some u->h'.get? b=some u):Inv X aW σ H {s with heap:=h',toks:=t'}:=I.un (Un.kept k) (I.hok.kept k)
theorem Inv.laid{e:Heap}(I:Inv X aW σ H s)(k:∀b u,s.heap.get? b=some u->e.get? b=some u)(d:s.heap.objs.size<=a)(c:ax X.prog X.w (ar H a o) e a o):
 Inv X aW σ (ar H a o) {s with heap:=e,toks:=t'}:=I.un (Un.laid k d (I.hok.fresh d)) (I.hok.laid k d c)
theorem Inv.write{c:Heap}(I:Inv X aW σ H s)(f:BL (H x))(g:e=x\/H e=some (.own x))(k:∀b u,b≠e->s.heap.get? b=some u->c.get? b=some u)(a:∃u,c.get? e=some u)
 (d:ax X.prog X.w (ar H x o) c x o):Inv X aW σ (ar H x o) {s with heap:=c,toks:=t'}:=I.un (Un.write f g k a) (I.hok.write f g k a d)
theorem Inv.pins_of(I:Inv X aW σ H s)(h:∀p∈a,s.heap.get? p.1=some p.2/\H p.1=none/\p.1≠X.env.locals/\p.1∉X.fs/\∀v,p.2.data≠.cell v):Inv X a σ H s:=
 ⟨I.ok,I.os,I.bare,I.base,I.loc,I.cell,I.free,I.freeC,λp b=>(eO.mp b).elim (λz=>I.pin p (vp _ z)) (h p),I.hok,I.len,I.hnd⟩
theorem Qq{N:List Str}(d:N.Nodup){i j:Nat}{x:Str}(a:N[i]?=some x)(b:N[j]?=some x):i=j:=by
 obtain⟨g,e⟩:=cn.mp a;obtain⟨f,c⟩:=cn.mp b;exact(DC d).mp (e.trans c.symm)
theorem Rk{s:Shared}{M:Model}{i:Nat}{x:Str}(I:Inv X aW σ H s)(hN:X.N.Nodup)(hi:X.N[i]?=some x)(t:Loc X.env.scope x)(r:RelV v u)
  (h:∀s',Inv X aW (σ.set i (some v)) H s'->(∃a,Heap.SameBut a s.heap s'.heap/\(a=X.env.locals\/X.env.cells.lookup x=some a))->Q () s')(hf:X.fn x=true\/X.env.scope.names.lookup x=some .local:=by first|exact .inl rfl|exact .inr rfl|assumption):wpAny M A (storeName X.env x u) Q E s:=by
 obtain⟨m,hn,hl⟩:=id I.loc;have U:(X.env.scope.kind==.class||(X.env.scope.kind==.module&&X.env.locals != X.env.globals))=false:=by rw[I.ok.kind];rfl
 have G:i < σ.length:=by rw[I.len];exact(cn.mp hi).1
 have R:=I.cne;have l:∀{a:Addr}{h':Heap},(∃o,s.heap.get? a=some o/\H a=none)->Heap.SameBut a s.heap h'->fL X.prog X.w H h':=λ{a h'} ha f b ob e=>by
  obtain⟨_,_,w⟩:=ha;refine(I.hok b ob e).stay (λc w' hc q=>(f.2 c ?_).trans q) (λ_ q=>q) λ_ _ q=>q
  rintro rfl;rcases hc with rfl|hc
  ·rw[w] at e;cases e
  ·rw[w] at hc;cases hc
 rcases t with hk|hk
 ·refine wpAny_storeName_local hk hn (λh' a0 f=>?_) U;obtain⟨oL,_,_,a1,_⟩:=id hn;refine h _ ⟨I.ok,I.os,I.bare,⟨λb o e n J t=>?_,λb o e n J t=>?_,I.base.free,λb o e t=>?_,I.base.tups,I.base.frzs,I.base.tbls⟩,⟨_,a0,λj y v' g C e3=>?_⟩,λy c e=>?_,I.free,I.freeC,λp hp=>?_,l ⟨oL,a1,I.free⟩ f,by simpa using I.len,I.hnd⟩ ⟨_,f,.inl rfl⟩
  ·exact(f.2 b (dF (dq (cu e) I.ok.above))).trans (I.base.keep b o e n J t)
  ·obtain⟨sl,g⟩:=I.base.slot b o e n J t;exact⟨sl,(f.2 b (dF (dq (cu e) I.ok.above))).trans g⟩
  ·obtain⟨o',g⟩:=I.base.there b o e t;exact⟨o',(f.2 b (dF (dq (cu e) I.ok.above))).trans g⟩
  ·by_cases hj:j=i
   ·subst hj;rw[hi] at g;cases g
    rw[pH G] at C;cases C;exact⟨u,r,.inl ⟨hk,by simp⟩⟩
   ·rw[dU (cJ hj)] at C;obtain⟨u',r',q⟩:=hl j y v' g C e3;refine⟨u',r',?_⟩;rcases q with⟨k,e⟩|⟨k,c,e,z⟩
    ·refine .inl ⟨k,?_⟩;have:y≠x:=λe=>hj (Qq hN g (e ▸ hi))
     simp[this,e]
    ·exact .inr ⟨k,c,e,z.sameBut f (R y c e)⟩
  ·obtain⟨w',z⟩:=I.cell y c e;exact⟨w',z.sameBut f (R y c e)⟩
  ·obtain⟨e,n,ne,nf,d⟩:=I.pin p hp;exact⟨(f.2 p.1 ne).trans e,n,ne,nf,d⟩
 ·have P:X.fn x=true:=by
   rcases hf with z|z
   ·exact z
   ·rw[z] at hk;cases hk
  obtain⟨c,hc⟩:=I.ok.has x (.inl hk);obtain⟨w',z⟩:=I.cell x c hc;refine wpAny_storeName_cell I.ok.kind hk hc z (λh' S f=>?_);obtain⟨oc,Y,T⟩:=id z;refine h {s with heap:=h'} ⟨I.ok,I.os,I.bare,⟨λb o e n J t=>?_,λb o e n J t=>?_,I.base.free,λb o e t=>?_,I.base.tups,I.base.frzs,I.base.tbls⟩,⟨m,hn.sameBut f (cJ (R x c hc)),λj y v' g C e3=>?_⟩,λy c' e=>?_,I.free,I.freeC,λp hp=>?_,l ⟨oc,Y,I.freeC x c hc⟩ f,by simpa using I.len,I.hnd⟩ ⟨c,f,.inr hc⟩
  ·exact(f.2 b (dF (dq (cu e) (I.ok.cab x c P hc)))).trans (I.base.keep b o e n J t)
  ·obtain⟨sl,g⟩:=I.base.slot b o e n J t;exact⟨sl,(f.2 b (dF (dq (cu e) (I.ok.cab x c P hc)))).trans g⟩
  ·obtain⟨o',g⟩:=I.base.there b o e t;exact⟨o',(f.2 b (dF (dq (cu e) (I.ok.cab x c P hc)))).trans g⟩
  ·by_cases hj:j=i
   ·subst hj;rw[hi] at g;cases g
    rw[pH G] at C;cases C;exact⟨u,r,.inr ⟨.inl hk,c,hc,S⟩⟩
   ·rw[dU (cJ hj)] at C;obtain⟨u',r',q⟩:=hl j y v' g C e3;refine⟨u',r',?_⟩;rcases q with q|⟨k,c',e,z'⟩
    ·exact .inl q
    ·refine .inr ⟨k,c',e,z'.sameBut f ?_⟩;rintro rfl;exact hj (Qq hN g (I.ok.inj _ _ _ e hc ▸ hi))
  ·by_cases hcc:c'=c
   ·subst hcc;exact⟨_,S⟩
   ·obtain⟨w2,z2⟩:=I.cell y c' e;exact⟨w2,z2.sameBut f hcc⟩
  ·obtain⟨e,n,ne,nf,d⟩:=I.pin p hp;refine⟨(f.2 p.1 ?_).trans e,n,ne,nf,d⟩;intro q;rw[q,Y] at e;have q':oc=p.2:=fW e;exact d w' (by rw[←q'];exact T)
theorem Fc{M:Model}(I:Inv X aW σ H s)(d:X.N.Nodup)(c:X.N[i]?=some x)(e:Loc X.env.scope x)(r:RelV v u)
  (h:∀a,Inv X aW (σ.set i (some v)) H a->Q () a)(f:X.fn x=true\/X.env.scope.names.lookup x=some .local:=by first|exact .inl rfl|exact .inr rfl|assumption):wpAny M A (storeName X.env x u) Q E s:=
 Rk I d c e r (λa b _=>h a b) f
theorem Inv.call'{s':Shared}{g:List Addr}(I:Inv X f σ H s)(k:s'.os=s.os)(u:Un (kI X.stack) g H H' s.heap s'.heap)(a:fL X.prog X.w H' s'.heap)(l:AllBare s'.gens)
  (d:∀b∈g,(b∈X.ex\/X.s₀.heap.objs.size<=b)/\b≠X.env.locals/\(∀x c,X.env.cells.lookup x=some c->c≠b)/\∀p∈X.pn++f,p.1≠b):Inv X f σ H' s':=by
 obtain⟨n,h,j,i,m⟩:=s';have e:m=s.os:=k;subst e;exact I.call (g':=h) (t':=i) (d':=j) u a l d
abbrev XK:=Value->Option Addr->Hp->Prop
noncomputable abbrev St:=List (Option V)
abbrev VK:=V->Hp->Prop
abbrev TE:=St->Hp->VK->Prop
abbrev TT:=St->Hp->(Bool->Hp->Prop)->Prop
abbrev TA:=St->Hp->(List V->Hp->Prop)->Prop
structure lN where
 nx:St->Hp->Prop
 rt:VK
 bk:St->Hp->Prop:=λ_ _=>False
 ct:St->Hp->Prop:=λ_ _=>False
abbrev TS:=lN->St->Hp->Prop
def EP(X:Cx) (b:List (Addr×Obj)) (d:St) (Q:VK) (u:Value) (c:Shared):Prop:=∃v a,Inv X b d a c/\RelV v u/\Q v a
def TP(X:Cx) (c:List (Addr×Obj)) (e:St) (Q:Bool->Hp->Prop) (b:Bool) (d:Shared):Prop:=∃a,Inv X c e a d/\Q b a
def AP(X:Cx) (c:List (Addr×Obj)) (f:St) (Q:List V->Hp->Prop) (e:List Value) (d:Shared):Prop:=∃b a,Inv X c f a d/\aj b e/\Q b a
def SP(X:Cx) (c:List (Addr×Obj)) (D:lN) (f:Flow) (d:Shared):Prop:=
 match f with
 |.next=>∃a b,Inv X c a b d/\D.nx a b
 |.brk=>∃a b,Inv X c a b d/\D.bk a b
 |.cont=>∃a b,Inv X c a b d/\D.ct a b
 |.ret u=>∃v a b,Inv X c a b d/\RelV v u/\D.rt v b
def PE(X:Cx) (e:Expr) (t:TE):Prop:=
 ∀(b:List (Addr×Obj)) (s:Shared) (a:St) (H:Hp) (Q:VK),Inv X b a H s->t a H Q->wpAny (model X.prog X.w) X.A (eval e X.env) (EP X b a Q) X.xe s
def PT(X:Cx) (e:Expr) (t:TT):Prop:=
 ∀(b:List (Addr×Obj)) (s:Shared) (a:St) (H:Hp) (Q:Bool->Hp->Prop),Inv X b a H s->t a H Q->wpAny (model X.prog X.w) X.A (isTrue e X.env (eval e X.env)) (TP X b a Q) X.xe s
def PW(X:Cx) (e:Expr) (t:TT):Prop:=
 ∀(a:Sem Value) (c:List (Addr×Obj)) (s:Shared) (b:St) (H:Hp) (Q:Bool->Hp->Prop),Inv X c b H s->t b H Q->wpAny (model X.prog X.w) X.A (isTrue e X.env a) (TP X c b Q) X.xe s
theorem PW.pt(h:PW X e t):PT X e t:=h _
def PA(X:Cx) (d:List Expr) (t:TA):Prop:=
 ∀(a:Pos) (c:List (Addr×Obj)) (s:Shared) (b:St) (H:Hp) (Q:List V->Hp->Prop),Inv X c b H s->t b H Q->wpAny (model X.prog X.w) X.A (spliced (backTo a (starEach d X.env))) (AP X c b Q) X.xe s
def PS(X:Cx) (c:Stmt) (t:TS):Prop:=
 ∀(a:List (Addr×Obj)) (s:Shared) (b:St) (H:Hp) (D:lN),Inv X a b H s->t D b H->wpAny (model X.prog X.w) X.A (exec c X.env) (SP X a D) X.xe s
def jC(X:Cx) (c:List Stmt) (t:TS):Prop:=
 ∀(a:List (Addr×Obj)) (s:Shared) (b:St) (H:Hp) (D:lN),Inv X a b H s->t D b H->wpAny (model X.prog X.w) X.A (execs c X.env) (SP X a D) X.xe s
theorem bi{c:Type}{t:Sem c}{Q b:c->Shared->Prop}{M:Model}(h:wpAny M A t Q E s)(d:∀a s,Q a s->b a s):wpAny M A t b E s:=iA h d λ_ _ x=>x
def pL(i:Nat):TE:=λa H Q=>∃v,a[i]?=some (some v)/\Q v H
def tC(v:V):TE:=λ_ H Q=>Q v H
theorem Ix{X:Cx}(p:X.N[i]?=some x)(q:vB X.env.scope x)(d:(x==("__debug__" : Str))=false:=by decide)(f:(x==("__classdict__" : Str))=false:=by decide):PE X (.Name x pos) (pL i):=by
 intro j s t H Q I h;obtain⟨v,e,h⟩:=h;obtain⟨m,k,o⟩:=I.loc;obtain⟨u,r,l⟩:=o i x v p e q;have b:EP X j t Q u s:=⟨v,H,I,r,h⟩
 rcases l with⟨hk,n⟩|⟨hk,c,g,a⟩
 ·exact wpAny_Name (wpAny_loadName_local I.ok.kind hk k n b) d
 ·rcases hk with hk|hk
  ·exact wpAny_Name (wpAny_loadName_cell I.ok.kind hk g a b) d
  ·exact wpAny_Name (wpAny_loadName_free I.ok.kind hk g a b f) d
theorem Ir{i j pos}:PE X (.Constant (.int i) j pos) (tC (.int i)):=λ_ _ _ H _ I h=>Ol ⟨.int i,H,I.tok _,⟨_,rfl⟩,h⟩
theorem Gv{b j pos}:PE X (.Constant (.bool b) j pos) (tC (.bl b)):=λ_ _ _ H _ I h=>Constant_bool ⟨.bl b,H,I,rfl,h⟩
noncomputable def Gl(X:Cx) (x:Str):Prop:=X.env.kindOf x=some .globalImplicit
theorem Ev(I:Inv X aW σ H s)(c:Gl X x)(b:X.mg x=some u)(h:Q u s)
  (a:(x==("__debug__" : Str))=false:=by decide):wpAny (model X.prog X.w) X.A (eval (.Name x pos) X.env) Q E s:=
 Calls.Name_function_global I.ok.kind c (Calls.loadGlobal_global (by rw[I.ok.glob];exact I.mod.glob.keeps I.bk) b h) a
theorem lQ(I:Inv X aW σ H s)(e:Gl X x)(c:X.mg x=none)(f:bootBuiltins x=some u)(h:Q u s)
  (b:x≠"__name__":=by decide)(d:(x==("__debug__" : Str))=false:=by decide):wpAny (model X.prog X.w) X.A (eval (.Name x pos) X.env) Q E s:=by
 obtain⟨i,a,g⟩:=I.mod.blt;exact Calls.Name_function_global I.ok.kind e (Calls.loadGlobal_builtin (by rw[I.ok.glob];exact I.mod.glob.keeps I.bk) c (by rw[I.ok.blt];exact a.keeps I.bk) ((g x b).trans f) h) d
theorem B9(c:Gl X x)(b:X.mg x=some u)(r:RelV v u)(a:(x==("__debug__" : Str))=false:=by decide):PE X (.Name x pos) (tC v):=
 λ_ _ _ H _ I h=>Ev I c b ⟨v,H,I,r,h⟩ a
theorem EH(d:Gl X x)(b:X.mg x=none)(e:bootBuiltins x=some u)(r:RelV v u)(a:x≠"__name__":=by decide)(c:(x==("__debug__" : Str))=false:=by decide):PE X (.Name x pos) (tC v):=
 λ_ _ _ H _ I h=>lQ I d b e ⟨v,H,I,r,h⟩ a c
def PC(X:Cx) (g:CmpOp) (a b:Expr) (t:TE):Prop:=
 ∀(f:List (Addr×Obj)) (s:Shared) (e:St) (H:Hp) (Q:VK),Inv X f e H s->t e H Q ->
  wpAny (model X.prog X.w) X.A (eval a X.env) (λv d=>wpAny (model X.prog X.w) X.A (eval b X.env) (λu c=>wpAny (model X.prog X.w) X.A (compareOp g v u) (EP X f e Q) X.xe c) X.xe d) X.xe s
def tB(t:TE):TT:=λa H Q=>t a H λx H1=>∃c,x=.bl c/\Q c H1
theorem Iq(h:PC X op a b t)(e:behindInMarks op b=false:=by first|exact nobehind _ (by decide) (by decide)|rfl):PE X (.Compare a [op] [b] pos) t:=λc s f H Q I d=>wpAny_Compare1 (h c s f H Q I d) e
section
variable {X:Cx}{a:Expr}{b:Expr}{pos:Pos}
theorem IJ{g:CmpOp}{t:TE}(h:PC X g a b t)(e:behindInMarks g b=false:=by first|exact nobehind _ (by decide) (by decide)|rfl):PT X (.Compare a [g] [b] pos) (tB t):=by
 intro i s o H Q I m;refine wpAny_isTrue_Compare1 (bi (h i s o H _ I m) λv r e=>bi e λu p n=>bi n λc w f=>?_) e;obtain⟨x,H1,j,k,l⟩:=f;obtain⟨d,rfl,q⟩:=l;cases k;exact mM ⟨H1,j,q⟩
end
def O9(t u:TT):TT:=λa H Q=>t a H λc H1=>if c=true then u a H1 Q else Q false H1
def V0(t u:TT):TT:=λa H Q=>t a H λc H1=>if c=true then Q true H1 else u a H1 Q
def O0(t:TT):TT:=λa H Q=>t a H λc H1=>Q (!c) H1
section
variable {X:Cx}{a:Expr}{pos:Pos}{tA:TT}
theorem pR(d:PT X a tA):PW X (.BoolOp .And [a] pos) tA:=by
 intro i b s f H Q I h;refine isTrue_and (bi (d b s f H Q I h) λc g e=>?_);cases c with
 |true=>exact isTrue_and_nil e
 |false=>exact e
theorem tF(d:PT X a tA):PW X (.BoolOp .Or [a] pos) tA:=by
 intro i b s f H Q I h;refine isTrue_or (bi (d b s f H Q I h) λc g e=>?_);cases c with
 |false=>exact isTrue_or_nil e
 |true=>exact e
end
section
variable {X:Cx}{a:Expr}{b:Expr}{pos:Pos}{tA:TT}{tB':TT}{rest:List Expr}
theorem tG(j:PT X a tA)(l:PW X (.BoolOp .And (b::rest) pos) tB'):PW X (.BoolOp .And (a::b::rest) pos) (O9 tA tB'):=by
 intro m e s i H Q I h;refine isTrue_and (bi (j e s i H _ I h) λc k d=>?_);obtain⟨H1,f,g⟩:=d;cases c with
 |true=>exact l m e k i H1 Q f g
 |false=>exact⟨H1,f,g⟩
theorem AK(j:PT X a tA)(l:PW X (.BoolOp .Or (b::rest) pos) tB'):PW X (.BoolOp .Or (a::b::rest) pos) (V0 tA tB'):=by
 intro m e s i H Q I h;refine isTrue_or (bi (j e s i H _ I h) λc k d=>?_);obtain⟨H1,f,g⟩:=d;cases c with
 |true=>exact⟨H1,f,g⟩
 |false=>exact l m e k i H1 Q f g
end
theorem IL(d:PT X a tA):PT X (.UnaryOp .Not a pos) (O0 tA):=by
 intro b s e H Q I h;exact isTrue_not (d b s e H (λc H1=>Q (!c) H1) I h)
def zT(b d:TE):TE:=λa H Q=>b a H λx H1=>∃c,x=.bl c/\if c=true then d a H1 Q else Q (.bl false) H1
def zO(a:TE):TE:=λb H Q=>a b H λx H1=>∃c,x=.bl c/\Q (.bl (!c)) H1
theorem Iu{op} (h:PE X a t):PE X (.BoolOp op [a] pos) t:=λb s d H Q I c=>BoolOp_one (h b s d H Q I c)
section
variable {X:Cx}{a:Expr}{b:Expr}{ta:TE}{tb:TE}{pos:Pos}{rest:List Expr}
theorem Io(j:PE X a ta)(m:PE X (.BoolOp .And (b::rest) pos) tb):PE X (.BoolOp .And (a::b::rest) pos) (zT ta tb):=by
 intro f s i H Q I h;refine BoolOp_and (bi (j f s i H _ I h) λv k e=>?_);obtain⟨x,H1,g,l,d⟩:=e;obtain⟨c,rfl,d⟩:=d;cases l;refine mM ?_;cases c with
 |true=>exact m f k i H1 Q g d
 |false=>exact⟨.bl false,H1,g,rfl,d⟩
end
section
variable {X:Cx}{a:Expr}{ta:TE}{pos:Pos}
theorem Is(f:PE X a ta):PE X (.UnaryOp .Not a pos) (zO ta):=by
 intro e s j H Q I h;refine UnaryOp_ (bi (f e s j H _ I h) λv k b=>?_);obtain⟨x,H1,g,i,d⟩:=b;obtain⟨c,rfl,d⟩:=d;cases i;exact not_of (mM ⟨.bl (!c),H1,g,rfl,d⟩)
end
def V1(t:TT) (b d:TE):TE:=λa H Q=>t a H λc H1=>if c=true then b a H1 Q else d a H1 Q
section
variable {X:Cx}{a:Expr}{b:Expr}{ta:TE}{tb:TE}{pos:Pos}{tA:TT}
theorem MM{c:Expr}(n:PT X c tA)(l:PE X a ta)(m:PE X b tb):PE X (.IfExp c a b pos) (V1 tA ta tb):=by
 intro e s g H Q I h;refine wpAny_IfExp (bi (n e s g H _ I h) λd j f=>?_);obtain⟨H1,i,k⟩:=f;cases d with
 |true=>exact l e j g H1 Q i k
 |false=>exact m e j g H1 Q i k
end
def du(K:Fg) (H:Hp) (a:Addr) (c:List V):Prop:=
 Rd H a (.lst c) \/
  ∃(o:Obj) (b:Array Value) (n:Nat),K.lookup a=some o/\o.cls=.type "list"/\o.dict=none/\o.data=.seq b n/\b.size<=sizeLine/\aj c b.toList
def bH(K:Fg) (H:Hp) (a:Addr) (c:List V):Prop:=
 Rd H a (.tup c) \/
  ∃(o:Obj) (b:Array Value) (n:Nat),K.lookup a=some o/\o.cls=.type "tuple"/\o.data=.seq b n/\b.size<=sizeLine/\aj c b.toList
noncomputable def PV:Value->Option V
 |.none=>some .non
 |.bool b=>some (.bl b)
 |.int i _=>some (.int i)
 |.str x _=>some (.str x)
 |.bytes b _=>some (.byt b)
 |.float b _=>some (.flt b)
 |.ref a=>some (.ref a)
 |.type n=>some (.ty n)
 |_=>none
theorem RelV.abs(r:RelV x u):PV u=some x:=by
 cases x with
 |non=>cases r;rfl
 |bl _=>cases r;rfl
 |int _=>obtain⟨t,rfl⟩:=r;rfl
 |str _=>obtain⟨t,rfl⟩:=r;rfl
 |byt _=>obtain⟨t,rfl⟩:=r;rfl
 |flt _=>obtain⟨t,rfl⟩:=r;rfl
 |ref _=>cases r;rfl
 |ty _=>cases r;rfl
theorem RelV.inj(r:RelV x u)(q:RelV y u):x=y:=fW (r.abs.symm.trans q.abs)
theorem aj.inj:∀{a b:List V}{c:List Value},aj a c->aj b c->a=b
 |_,_,_,.nil,.nil=>rfl
 |_,_,_,.cons r t,.cons r' t'=>by rw[r.inj r',aj.inj t t']
section
variable {H:Hp}{a:Addr}{xs:List V}
theorem du.of{K:Fg}(h:H a=some (.lst xs)):du K H a xs:=.inl (.inl h)
theorem bH.of{K:Fg}(h:H a=some (.tup xs)):bH K H a xs:=.inl (.inl h)
end
theorem Inv.list(I:Inv X aW σ H s)(h:du X.K H a xs):∃b:List Value,aj xs b/\PlainL s.heap a b.toArray/\xs.length<=sizeLine:=by
 rcases h with h|⟨o,b,n,c,g,d,f,i,r⟩
 ·obtain⟨z,b,n,r,e⟩:=h.ok I.hok;exact⟨b,r,⟨_,n,e,rfl,rfl,rfl⟩,z⟩
 ·refine⟨b.toList,r,⟨o,n,I.kIn a o c,g,d,by simpa using f⟩,?_⟩;have e:=r.length;simp only[gF] at e;lia
theorem Inv.tuple(I:Inv X aW σ H s)(h:bH X.K H a xs):∃b:List Value,aj xs b/\IsTup s.heap a b.toArray/\xs.length<=sizeLine:=by
 rcases h with h|⟨o,b,n,c,f,d,g,r⟩
 ·obtain⟨z,b,r,p⟩:=h.ok I.hok;exact⟨b,r,p,z⟩
 ·refine⟨b.toList,r,⟨o,I.kIn a o c,f,n,by simpa using d⟩,?_⟩;have e:=r.length;simp only[gF] at e;lia
theorem Inv.list_inj(I:Inv X aW σ H s)(h:du X.K H a xs)(i:du X.K H a ys):xs=ys:=by
 obtain⟨b,r,⟨o,n,e,_,_,d⟩,_⟩:=I.list h;obtain⟨its',g,⟨k,l,c,_,_,f⟩,_⟩:=I.list i;rw[e] at c;cases c
 rw[d] at f;injection f with j _
 have:b=its':=by simpa using congrArg Array.toList j
 subst this;exact r.inj g
theorem Inv.tuple_inj(I:Inv X aW σ H s)(h:bH X.K H a xs)(i:bH X.K H a ys):xs=ys:=by
 obtain⟨b,r,⟨o,e,_,n,d⟩,_⟩:=I.tuple h;obtain⟨its',g,⟨k,c,_,l,f⟩,_⟩:=I.tuple i;rw[e] at c;cases c
 rw[d] at f;injection f with j _
 have:b=its':=by simpa using congrArg Array.toList j
 subst this;exact r.inj g
noncomputable abbrev Cx.wish(X:Cx) (E:Value->Shared->Prop):Cx:={X with xe:=E}
abbrev Cx.nox(X:Cx):Cx:=X.wish λ_ _=>False
theorem Cx.Ok.wish{X:Cx}(a:X.Ok)(E:Value->Shared->Prop):(X.wish E).Ok:=
 ⟨a.mod,a.kind,a.glob,a.blt,a.above,a.inj,a.has,a.cab,a.hd,a.frames,a.stk,a.exf,a.bs,a.bsz,a.noex,a.exfs,a.funs,a.frf⟩
theorem Cx.Ok.unwish{X:Cx}(a:(X.wish E).Ok):X.Ok:=
 ⟨a.mod,a.kind,a.glob,a.blt,a.above,a.inj,a.has,a.cab,a.hd,a.frames,a.stk,a.exf,a.bs,a.bsz,a.noex,a.exfs,a.funs,a.frf⟩
theorem Inv.wish(I:Inv X aW σ H s)(E:Value->Shared->Prop):Inv (X.wish E) aW σ H s:=⟨I.ok.wish E,I.os,I.bare,I.base,I.loc,I.cell,I.free,I.freeC,I.pin,I.hok,I.len,I.hnd⟩
theorem Inv.unwish{X:Cx}(I:Inv (X.wish E) aW σ H s):Inv X aW σ H s:=⟨I.ok.unwish,I.os,I.bare,I.base,I.loc,I.cell,I.free,I.freeC,I.pin,I.hok,I.len,I.hnd⟩
theorem SP.unwish{X:Cx}{D:lN}(h:SP (X.wish E) aW D f s'):SP X aW D f s':=by
 cases f with
 |next=>obtain⟨a,b,I,q⟩:=h;exact⟨a,b,I.unwish,q⟩
 |brk=>obtain⟨a,b,I,q⟩:=h;exact⟨a,b,I.unwish,q⟩
 |cont=>obtain⟨a,b,I,q⟩:=h;exact⟨a,b,I.unwish,q⟩
 |ret u=>obtain⟨v,a,b,I,r,q⟩:=h;exact⟨v,a,b,I.unwish,r,q⟩
section
variable {X:Cx}{aW:List (Addr×Obj)}{σ:St}{H:Hp}{s:Shared}
theorem jC.nox{a:List Stmt}{t:TS}(h:jC X.nox a t):jC X a t:=λaW s σ H D I b=>
 iA (h aW s σ H D (I.wish _) b) (λ_ _ q=>q.unwish) λ_ _ z=>False.elim z
end
def zP:TS:=λD a H=>D.nx a H
def OX(t u:TS):TS:=λD a H=>t {D with nx:=u D} a H
theorem KS:jC X [] zP:=λ_ _ a H _ I h=>Ds ⟨a,H,I,h⟩
section
variable {X:Cx}{au:Stmt}{rest:List Stmt}{t:TS}{u:TS}
theorem MU(i:PS X au t)(e:jC X rest u):jC X (au::rest) (OX t u):=by
 intro b s j H D I h;refine wpAny_execs_cons (bi (i b s j H {D with nx:=u D} I h) λf d q=>?_);cases f with
 |next=>
  obtain⟨a,g,c,q⟩:=q;exact e b d a g D c q
 |ret v=>exact q
 |brk=>exact q
 |cont=>exact q
end
section
variable {X:Cx}{au:Stmt}{t:TS}
theorem KU(b:PS X au t):jC X [au] t:=by
 intro a s c H D I h;refine wpAny_execs_cons (bi (b a s c H D I h) λf d q=>?_);cases f with
 |next=>exact Ds q
 |ret v=>exact q
 |brk=>exact q
 |cont=>exact q
end
theorem Inv.quiet(I:Inv X aW σ H s):interactive X.env=false:=by simp[interactive,I.ok.kind]
def zQ(b:TE):TS:=λD a H=>b a H λ_ H1=>D.nx a H1
section
variable {X:Cx}{e:Expr}{te:TE}{pos:Pos}
theorem KQ(g:PE X e te)(d:swapsWith e none pos.line X.env=pure false:=by rfl):PS X (.Expr e pos) (zQ te):=by
 intro b s a H D I h;exact wpAny_Expr_any (bi (g b s a H _ I h) λv j ⟨x,H1,c,i,f⟩=>⟨a,H1,c,f⟩) I.quiet d
end
def OY(a:TE):TS:=λD b H=>a b H D.rt
section
variable {X:Cx}{e:Expr}{te:TE}{pos:Pos}
theorem IG(g:PE X e te):PS X (.Return (some e) pos) (OY te):=by
 intro b s a H D I h;exact wpAny_Return_some (bi (g b s a H _ I h) λv i ⟨x,H1,c,d,f⟩=>⟨x,a,H1,c,d,f⟩)
end
def O3(c:TT) (t u:TS):TS:=λD a H=>c a H λb H1=>if b=true then t D a H1 else u D a H1
section
variable {X:Cx}{t:TS}{u:TS}{pos:Pos}
theorem GB{c:Expr}{a b:List Stmt}{l:TT}(o:PT X c l)(m:jC X a t)(n:jC X b u):PS X (.If c a b pos) (O3 l t u):=by
 intro e s g H D I h;refine wpAny_If (bi (o e s g H _ I h) λd j f=>?_);obtain⟨H1,i,k⟩:=f;cases d with
 |true=>exact m e j g H1 D i k
 |false=>exact n e j g H1 D i k
end
abbrev TG:=V->St->Hp->(St->Hp->Prop)->Prop
abbrev uc:=List V->St->Hp->(St->Hp->Prop)->Prop
def PG(X:Cx) (a:Expr) (t:TG):Prop:=
 ∀(c:List (Addr×Obj)) (s:Shared) (e:St) (H:Hp) (v:V) (u:Value) (Q:St->Hp->Prop),Inv X c e H s->RelV v u->t v e H Q ->
  wpAny (model X.prog X.w) X.A (assign a X.env u) (λ_ f=>∃b d,Inv X c b d f/\Q b d) X.xe s
def ud(X:Cx) (g:List Expr) (t:uc):Prop:=
 ∀(b:List (Addr×Obj)) (s:Shared) (f:St) (H:Hp) (d:List V) (e:List Value) (Q:St->Hp->Prop),Inv X b f H s->aj d e->t d f H Q ->
  wpAny (model X.prog X.w) X.A (assignInOrder ((assignEach g X.env).map (·.2)) e) (λ_ h=>∃a c,Inv X b a c h/\Q a c) X.xe s
abbrev ub:=V->V->V->Hp->(Hp->Prop)->Prop
def BJ(X:Cx) (t:ub):Prop:=
 ∀(a:List (Addr×Obj)) (s:Shared) (e:St) (H:Hp) (o i v:V) (c b u:Value) (Q:Hp->Prop),Inv X a e H s->RelV o c->RelV i b->RelV v u->t o i v H Q ->
  wpAny (model X.prog X.w) X.A (setItem c b u) (λ_ f=>∃d,Inv X a e d f/\Q d) X.xe s
abbrev BI:=V->V->Hp->VK->Prop
def Eg(X:Cx) (c:Operator) (t:BI):Prop:=
 ∀(a:List (Addr×Obj)) (s:Shared) (b:St) (H:Hp) (x y:V) (v u:Value) (Q:VK),Inv X a b H s->RelV x v->RelV y u->t x y H Q ->
  wpAny (model X.prog X.w) X.A (inplaceOp c v u) (EP X a b Q) X.xe s
def jx(i:Nat):TG:=λv a H Q=>Q (a.set i (some v)) H
theorem KF{X:Cx}(c:X.N.Nodup)(b:X.N[i]?=some x)(d:Loc X.env.scope x)(e:X.fn x=true\/X.env.scope.names.lookup x=some .local:=by first|exact .inl rfl|exact .inr rfl|assumption):PG X (.Name x pos) (jx i):=by
 intro f s j H v u Q I r h;exact wpAny_assign_Name (Fc I c b d r (λg a=>⟨_,H,a,h⟩) e)
def Py:uc:=λa b H Q=>a=[]/\Q b H
def BB(t:TG) (u:uc):uc:=λc d H Q=>∃v r,c=v::r/\t v d H λa b=>u r a b Q
theorem KG:ud X [] Py:=by
 intro b s a H c d Q I r h;obtain⟨e,h⟩:=h;subst e;cases r;exact assignInOrder_nil ⟨a,H,I,h⟩
section
variable {X:Cx}
theorem MO{e:Expr}{a:List Expr}{t:TG}{u:uc}(m:PG X e t)(k:ud X a u)
  (i:(assignEach (e::a) X.env).map (·.2)=assign e X.env::(assignEach a X.env).map (·.2):=by rfl):ud X (e::a) (BB t u):=by
 intro d s n H q p Q I r h;obtain⟨v,o,l,h⟩:=h;subst l;cases r with
 |cons r rr=>
  rw[i];refine assignInOrder_cons (bi (m d s n H _ _ _ I r h) λ_ g c=>?_);obtain⟨b,H1,f,j⟩:=c;exact k d g b H1 _ _ Q f rr j
end
def Pw(K:Fg) (n:Nat) (t:uc):TG:=λv c H Q=>∃a b,v=.ref a/\bH K H a b/\b.length=n/\t b c H Q
theorem Iz{X:Cx}(x:X.calm=true)(h:ud X es t)
  (p:(assignEach es X.env).length=n:=by rfl)(c:(assignEach es X.env).findIdx? (·.1)=none:=by rfl):PG X (.Tuple es k pos) (Pw X.K n t):=by
 intro f s i H v u Q I r d;obtain⟨a,l,A,C,y,d⟩:=d;subst A;cases r;obtain⟨j,g,w,E⟩:=I.tuple C;refine assign_Tuple_tuple (I.ok.hd x) w (by simp[p,←y,g.length]) c λq z=>?_
 have m:Inv X f i H {s with heap:=q}:=I.kept (t':=s.toks) λb o e=>z b o (dF (cu e)) e
 exact h f _ i H l _ Q m (by simpa using g) d
def Px(to b:TE) (t:ub):TG:=λv a H Q=>to a H λo H1=>b a H1 λi H2=>t o i v H2 λH3=>Q a H3
section
variable {X:Cx}{pos:Pos}
theorem Iy{o i:Expr}{to f:TE}{t:ub}(l:PE X o to)(A:PE X i f)(n:BJ X t)
  (w:∀v,assign (.Subscript o i pos) X.env v=(do
   let b ←holding [v] (eval o X.env)
   let c ←holding [v,b] (eval i X.env)
   standAt pos
   holding [v,b,c] (setItem b c v)
   release [v,b,c] []):=by intro _;rfl):PG X (.Subscript o i pos) (Px to f t):=by
 intro e s d H v u Q I r h;rw[w];refine ab (iV (bi (l e s d H _ I h) λb j a=>?_));obtain⟨x,H1,C,z,q⟩:=a;refine ab (iV (bi (A e j d H1 _ C q) λc m a=>?_));obtain⟨y,H2,p,G,k⟩:=a;refine ab (Dr (ab (iV (bi (n e m d H2 x y v b c u _ p z G r k) λ_ J a=>?_))));obtain⟨H3,g,E⟩:=a;exact wpAny_release ⟨d,H3,g,E⟩
end
def pO(b:TE) (g:TG):TS:=λD a H=>b a H λx H1=>g x a H1 D.nx
section
variable {X:Cx}{pos:Pos}
theorem ID{a e:Expr}{d:TE}{g:TG}(o:PE X e d)(m:PG X a g)(k:swapsWithSole [a] e pos.line X.env=pure false:=by rfl)(p:swappedStores [a] e X.env=pure none:=by rfl)
  (r:(assignEach [a] X.env).map (·.2)=[assign a X.env]:=by rfl):PS X (.Assign [a] e pos) (pO d g):=by
 intro c s f H D I h;refine wpAny_Assign_stores (bi (o c s f H _ I h) λv j b=>?_) k p;obtain⟨x,H1,i,l,n⟩:=b;rw[r];exact bi (m c j f H1 x v _ i l n) λ_ t q=>q
theorem IH{i:Nat}{x:Str}{e:Expr}{c:TE}{a:Pos}(m:X.N.Nodup)(o:X.N[i]?=some x)(n:Loc X.env.scope x)(p:PE X e c)(g:swapsWith e (some (.Name x a)) pos.line X.env=pure false:=by rfl)(q:X.fn x=true\/X.env.scope.names.lookup x=some .local:=by first|exact .inl rfl|exact .inr rfl|assumption):
  PS X (.Assign [.Name x a] e pos) (pO c (jx i)):=by
 intro d s r H D I h;refine wpAny_Assign_Name (bi (p d s r H _ I h) λv u b=>?_) g;obtain⟨y,H1,f,k,l⟩:=b;exact Fc f m o n k (λt j=>⟨_,H1,j,l⟩) q
end
def O8(i:Nat) (b:TE) (c:BI):TS:=λD a H=>∃x,a[i]?=some (some x)/\b a H λy H1=>c x y H1 λz H2=>D.nx (a.set i (some z)) H2
section
variable {X:Cx}{pos:Pos}
theorem IE{i:Nat}{x:Str}{e:Expr}{t:TE}{j:Operator}{q:BI}{g:Pos}(S:X.N.Nodup)(E:X.N[i]?=some x)(o:Loc X.env.scope x)(he:PE X e t)(Y:Eg X j q)(hf:X.fn x=true\/X.env.scope.names.lookup x=some .local:=by first|exact .inl rfl|exact .inr rfl|assumption):
  PS X (.AugAssign (.Name x g) j e pos) (O8 i t q):=by
 intro n s A H D I h;obtain⟨v,T,h⟩:=h;obtain⟨m,J,hl⟩:=I.loc;have p:vB X.env.scope x:=by rcases o with k|k;exact .inl k;exact .inr (.inl k)
 obtain⟨u,r,l⟩:=hl i x v E T p;refine wpAny_AugAssign_Name ?_;have C:wpAny (model X.prog X.w) X.A (eval e X.env) (λw f=>wpAny (model X.prog X.w) X.A (inplaceOp j u w) (λr d=>wpAny (model X.prog X.w) X.A (storeName X.env x r) (λ_=>SP X n D .next) X.xe d) X.xe f) X.xe s:=by
  refine bi (he n s A H _ I h) λw Q a=>?_
  obtain⟨y,H1,I1,r1,q1⟩:=a;refine bi (Y n Q A H1 v y u w _ I1 r r1 q1) λz s2 a=>?_
  obtain⟨zv,H2,I2,r2,U⟩:=a;exact Fc I2 S E o r2 (λs3 G=>⟨_,H2,G,U⟩) hf
 rcases l with⟨hk,P⟩|⟨hk,c,R,b⟩
 ·exact wpAny_loadName_local I.ok.kind hk J P C
 ·rcases hk with hk|hk
  ·exact wpAny_loadName_cell I.ok.kind hk R b C
  ·rcases o with k|k
   ·have:X.env.scope.names.lookup x=some .free:=hk;rw[k] at this;cases this
   ·have:X.env.scope.names.lookup x=some .free:=hk;rw[k] at this;cases this
end
def SD(f:Int->Int->Int):BI:=λx y H Q=>∃i j,x=.int i/\y=.int j/\Q (.int (f i j)) H
theorem HB:Eg X .Add (SD λi j=>i+j):=by
 intro e s g H x y v u Q I b d h;obtain⟨i,j,c,a,q⟩:=h;subst c;subst a
 obtain⟨t,rfl⟩:=b;obtain⟨f,rfl⟩:=d;exact iadd_int ⟨.int _,H,I.tok _,⟨_,rfl⟩,q⟩
def tf(c:TT) (g:TS):TS:=λD a H=>∃W:Nat->St->Hp->Prop,(∃m,W m a H)/\∀m a H,W m a H ->
 c a H λb H1=>if b=true then ∃N:St->Hp->Prop,(∀d f,N d f->∃e,e<m/\W e d f)/\g {D with nx:=N,ct:=N,bk:=D.nx} a H1 else D.nx a H1
section
variable {X:Cx}{pos:Pos}
theorem MT{c:Expr}{e:List Stmt}{A:TT}{y:TS}(z:PassesOwn (model X.prog X.w) X.A X.env X.xe)(G:PT X c A)(E:jC X e y):PS X (.While c e [] pos) (tf A y):=by
 intro r s Q H D I h;obtain⟨W,⟨T,S⟩,g⟩:=h;refine wpAny_While (codeAny_whileLoop (λn U=>∃i w,Inv X r i w U/\W n i w) ?_ T ⟨Q,H,I,S⟩);rintro n C ⟨d,H1,R,P⟩;refine sM z (bi (G r C d H1 _ R (g n d H1 P)) λb J q=>?_);obtain⟨H2,x,j⟩:=q;cases b with
 |true=>
  obtain⟨N,u,j⟩:=j;rw[if_pos rfl];refine sM z (bi (E r J d H2 _ x j) λf Y k=>?_);cases f with
  |next=>
   obtain⟨a,H3,l,o⟩:=k;obtain⟨p,m,t⟩:=u a H3 o;exact⟨p,m,a,H3,l,t⟩
  |cont=>
   obtain⟨a,H3,l,o⟩:=k;obtain⟨p,m,t⟩:=u a H3 o;exact⟨p,m,a,H3,l,t⟩
  |brk=>exact k
  |ret v=>exact k
 |false=>
  rw[if_neg nX];exact Ds ⟨d,H2,x,j⟩
end
structure It where
 go:Nat->Hp->Prop
 yld:Nat->Hp->V->Hp->Prop
 stop:Nat->Hp->Prop
def ed(X:Cx) (a:List (Addr×Obj)) (H:Hp) (b:Addr):Prop:=
 H b=none/\b≠X.env.locals/\b∉X.fs/\(b∈X.ex\/X.s₀.heap.objs.size<=b)/\(∀x c,X.env.cells.lookup x=some c->c≠b)/\∀p∈X.pn++a,p.1≠b
theorem Inv.fpOk(I:Inv X aW σ H s)(a:s.heap.objs.size<=b)(f:H' b=none):ed X aW H' b:=by
 refine⟨f,nS (dq I.lt a),I.nofs a,.inr (ay I.sz a),λx c e z=>?_,λp d z=>?_⟩
 ·obtain⟨v,q⟩:=I.cell x c e;exact absurd (dq q.lt (by rw[z];exact a)) (nT _)
 ·exact absurd (dq (cu (I.pin p d).1) (by rw[z];exact a)) (nT _)
structure jc (P:Program) (w:World) (K:Fg) (tg:Expr) (J:It) (fp:List Addr) (it:Addr) (tn:Nat->Heap->Prop):Prop where
 mem:it∈fp
 obj:∀i h,tn i h->∀b∈fp,∃o,h.get? b=some o/\∀v,o.data≠.cell v
 keep:∀i h h',tn i h->(∀b∈fp,∀o,h.get? b=some o->h'.get? b=some o)->tn i h'
 item:∀(X:Cx),X.prog=P->X.w=w->X.K=K->X.calm=true->∀(i:Nat) (aW:List (Addr×Obj)) (s:Shared) (σ:St) (H:Hp) (E:Value->Shared->Prop),Inv X aW σ H s->(∀b∈fp,ed X aW H b)->tn i s.heap->J.go i H ->
  wpAny (model P w) X.A (pyNext (.ref it)) (λr s1=>∃u,r=some u /\
   wpAny (model P w) X.A (letOwnedTupleGo tg (.ref it) u) (λ_ s2=>∃x H',Inv X aW σ H' s2/\RelV x u/\J.yld i H x H'/\tn (i+1) s2.heap/\∀b∈fp,H' b=none) E s1) E s
 done:∀(X:Cx),X.prog=P->X.w=w->X.K=K->X.calm=true->∀(i:Nat) (aW:List (Addr×Obj)) (s:Shared) (σ:St) (H:Hp) (E:Value->Shared->Prop),Inv X aW σ H s->(∀b∈fp,ed X aW H b)->tn i s.heap->J.stop i H ->
  wpAny (model P w) X.A (pyNext (.ref it)) (λr s1=>r=none/\Inv X aW σ H s1) E s
 self:∀(A:Around) (i:Nat) (s:Shared) (Q:Value->Shared->Prop) (E:Value->Shared->Prop),tn i s.heap->Q (.ref it) s->wpAny (model P w) A (pyIter (.ref it)) Q E s
abbrev TI:=St->Hp->(It->Hp->Prop)->Prop
def SK(X:Cx) (d:List (Addr×Obj)) (i:St) (h:Expr) (R:It->Hp->Prop) (a:Value) (e:Shared):Prop:=
 ∃(g:Addr) (f:List Addr) (tn:Nat->Heap->Prop) (J:It) (c:Hp),a=.ref g/\Inv X d i c e/\jc X.prog X.w X.K h J f g tn/\tn 0 e.heap/\(∀b∈f,ed X d c b)/\R J c
def PI(X:Cx) (d iter:Expr) (e:TI):Prop:=
 ∀(b:List (Addr×Obj)) (s:Shared) (a:St) (H:Hp) (R:It->Hp->Prop),Inv X b a H s->e a H R ->
  wpAny (model X.prog X.w) X.A (eval iter X.env) (λv c=>wpAny (model X.prog X.w) X.A (pyIter v) (SK X b a d R) X.xe c) X.xe s
theorem mx{M:Model}{s:Shared}(b:s.heap.get? it=some o)(e:o.cls=.type n)(d:o.data=.fields vs)
    (c:["enumerate","zip","dict_itemiterator","dict_reverseitemiterator","odict_iterator","itertools.zip_longest","itertools.pairwise"].contains n=false)(a:Q () s):wpAny M A (letOwnedTupleGo tg (.ref it) u) Q E s:=by
  unfold letOwnedTupleGo;cases tg <;> first
    |exact aq a
    | (cases u <;> first
        |exact aq a
        | (refine ab (wpAny_load b ?_)
           rw[e,d];show wpAny M A (if(["enumerate","zip","dict_itemiterator","dict_reverseitemiterator","odict_iterator","itertools.zip_longest","itertools.pairwise"].contains n&&vs[0]?==some (rawInt _))=true then _ else _) Q E s
           rw[if_neg (by intro h; rw[c,Bool.false_and] at h; cases h)]
           exact aq a))
def P3(K:Fg) (a:Addr):It:=
 ⟨λi H=>∃b x,du K H a b/\b[i]?=some x,λi H x c=>c=H/\∀b,du K H a b->b[i]?=some x,λi H=>∃b,du K H a b/\b.length<=i⟩
def P2(K:Fg) (a:Addr):It:=
 ⟨λi H=>∃b x,bH K H a b/\b[i]?=some x,λi H x c=>c=H/\∀b,bH K H a b->b[i]?=some x,λi H=>∃b,bH K H a b/\b.length<=i⟩
noncomputable def BN(lo:Int) (n:Nat):It:=⟨λi _=>i<n,λi H x a=>a=H/\x=.int (lo+i),λi _=>n<=i⟩
theorem To{P:Program}{w:World}{K:Fg}{tg:Expr}(a it:Addr):jc P w K tg (P3 K a) [it] it (λi h=>h.IsListIter it a i) where
 mem:=by simp
 obj:=λi h f b g=>by
  have e:b=it:=by simpa using g
  subst e;obtain⟨o,e,c,d⟩:=f;exact⟨o,e,λv z=>by rw[d] at z;cases z⟩
 keep:=λi h m f k=>f.at λo e=>k it (by simp) o e
 item:=by
  intro X Q C y U i aW s Y H E I l f r;subst Q C y;obtain⟨xs,x,n,S⟩:=r;obtain⟨G,T,p,hz⟩:=I.list n;obtain⟨u,hu,ru⟩:=T.get S;obtain⟨J,q,f2,t,R,A⟩:=l it (by simp);refine wpAny_pyNext_list_item f p.isList (x:=u) (by simpa using hu) λm j sb=>?_
  have I1:Inv X aW Y H {s with heap:=m}:=I.turned (t':=s.toks) (λb o g e=>(sb.2 b g).trans e) J q t R A;obtain⟨o,e,c,d⟩:=id j;exact⟨u,rfl,mx (s:={s with heap:=m}) e c d (by decide) ⟨x,H,I1,ru,⟨rfl,λys hy=>by rw[I.list_inj hy n];exact S⟩,j,λb g=>(l b g).1⟩⟩
 done:=by
  intro X Q C y U i aW s Y H E I l f r;subst Q C y;obtain⟨xs,n,S⟩:=r;obtain⟨G,T,p,hz⟩:=I.list n;obtain⟨J,q,f2,t,R,A⟩:=l it (by simp);have hl:=T.length;exact wpAny_pyNext_list_end (I.ok.hd U) f p.isList (by simp;lia) λm eb=>⟨rfl,I.turned (t':=s.toks) (λb o g e=>eb b o g e) J q t R A⟩
 self:=λ_ _ _ _ _ f h=>wpAny_pyIter_listiter f h
theorem Uh{P:Program}{w:World}{K:Fg}{tg:Expr}(a it:Addr):jc P w K tg (P2 K a) [it] it (λi h=>h.IsTupleIter it a i) where
 mem:=by simp
 obj:=λi h f b g=>by
  have e:b=it:=by simpa using g
  subst e;obtain⟨o,e,c,d⟩:=f;exact⟨o,e,λv z=>by rw[d] at z;cases z⟩
 keep:=λi h n f k=>f.at λo e=>k it (by simp) o e
 item:=by
  intro X Q G A U i aW s Y H E I m f t;subst Q G A;obtain⟨xs,x,q,S⟩:=t;obtain⟨j,T,p,hz⟩:=I.tuple q;obtain⟨u,hu,ru⟩:=T.get S;obtain⟨J,r,f2,y,R,C⟩:=m it (by simp);refine wpAny_pyNext_tuple_item f (show s.heap.IsTuple a j.toArray from p) (x:=u) (by simpa using hu) λn l sb=>?_
  have I1:Inv X aW Y H {s with heap:=n}:=I.turned (t':=s.toks) (λb o g e=>(sb.2 b g).trans e) J r y R C;obtain⟨o,e,c,d⟩:=id l;exact⟨u,rfl,mx (s:={s with heap:=n}) e c d (by decide) ⟨x,H,I1,ru,⟨rfl,λys hy=>by rw[I.tuple_inj hy q];exact S⟩,l,λb g=>(m b g).1⟩⟩
 done:=by
  intro X Q G A U i aW s Y H E I m f t;subst Q G A;obtain⟨xs,q,S⟩:=t;obtain⟨j,T,p,hz⟩:=I.tuple q;obtain⟨J,r,f2,y,R,C⟩:=m it (by simp);have hl:=T.length;exact wpAny_pyNext_tuple_end (I.ok.hd U) f (show s.heap.IsTuple a j.toArray from p) (by simp;lia) λn eb=>⟨rfl,I.turned (t':=s.toks) (λb o g e=>eb b o g e) J r y R C⟩
 self:=λ_ _ _ _ _ f h=>wpAny_pyIter_tupleiter f h
theorem Ug{P:Program}{w:World}{K:Fg}{R:Expr}(it:Addr)(lo:Int)(n:Nat):jc P w K R (BN lo n) [it] it (λi h=>IsRangeIter h it (lo+(i:Nat)*1) ((n:Int)-(i:Nat)) 1) where
 mem:=by simp
 obj:=λi h a b c=>by
  have e:b=it:=by simpa using c
  subst e
  exact⟨_,a,λv z=>by
   have U:Data.fields _=Data.cell v:=z
   cases U⟩
 keep:=λi h g a k=>k it (by simp) _ a
 item:=by
  intro X y u q m i J s G H E I f a l;subst y u q;obtain⟨x,j,f2,p,A,r⟩:=f it (by simp);have W:=Walks.range (prog:=X.prog) (w:=X.w) (I.ok.hd m) it lo 1 n;refine W.item i s _ _ l a λv g C T d Q=>?_
  obtain⟨t,rfl⟩:=T;have Y:Inv X J G H {s with heap:=g,toks:=C}:=I.turned (λb o c e=>Q b o (by simpa using c) e) x j p A r;refine⟨_,rfl,mx (s:={ s with heap:=g,toks:=C }) (n:="range_iterator") d rfl rfl (by decide) ⟨.int (lo + i),H,Y,⟨t,?_⟩,⟨rfl,rfl⟩,d,λb c=>(f b c).1⟩⟩
  rw[Int.mul_one]
 done:=by
  intro X y u q m i J s G H E I f a l;subst y u q;obtain⟨x,j,f2,p,A,r⟩:=f it (by simp);exact wpAny_pyNext_range_end (I.ok.hd m) a (by have:n<=i:=l;lia) λg S=>⟨rfl,I.turned (t':=s.toks) (λb o c e=>S b o c e) x j p A r⟩
 self:=λ_ _ _ _ _ a h=>wpAny_pyIter_rangeiter a h
def By(K:Fg) (c:TE):TI:=λd H R=>c d H λx H1=>∃a,x=.ref a/\(∃b,du K H1 a b)/\R (P3 K a) H1
def Ps(K:Fg) (c:TE):TI:=λd H R=>c d H λx H1=>∃a,x=.ref a/\(∃b,bH K H1 a b)/\R (P2 K a) H1
section
variable {X:Cx}{tg:Expr}
theorem KI{l:Expr}{g:TE}(n:PE X l g):PI X tg l (By X.K g):=by
 intro j s u H R I h;refine bi (n j s u H _ I h) λv d f=>?_
 obtain⟨x,H1,c,k,r⟩:=f;obtain⟨a,e,⟨w,t⟩,q⟩:=r;subst e;cases k;obtain⟨i,z,p,y⟩:=c.list t;refine DD p.isList ?_;refine⟨d.heap.objs.size,[d.heap.objs.size],_,_,H1,rfl,c.kept (t':=d.toks) λb o e=>cg _ e,To a _,⟨_,ez _ rfl,rfl,rfl⟩,λb m=>?_,q⟩;have e:b=d.heap.objs.size:=by simpa using m
 subst e;exact c.fpOk (bj _) (c.hok.fresh (bj _))
theorem IB{l:Expr}{i:TE}(n:PE X l i):PI X tg l (Ps X.K i):=by
 intro j s u H R I h;refine bi (n j s u H _ I h) λv c g=>?_
 obtain⟨x,H1,d,k,r⟩:=g;obtain⟨a,e,⟨w,t⟩,q⟩:=r;subst e;cases k;obtain⟨f,z,p,y⟩:=d.tuple t;refine sS (show c.heap.IsTuple a f.toArray from p) ?_;refine⟨c.heap.objs.size,[c.heap.objs.size],_,_,H1,rfl,d.kept (t':=c.toks) λb o e=>cg _ e,Uh a _,⟨_,ez _ rfl,rfl,rfl⟩,λb m=>?_,q⟩;have e:b=c.heap.objs.size:=by simpa using m
 subst e;exact d.fpOk (bj _) (d.hok.fresh (bj _))
end
theorem Qw{s:Shared}{R:It->Hp->Prop}{lo a:Int}{c:Nat}(I:Inv X aW σ H s)(g:-(2^62)<=lo)(l:lo<2^62)(j:-(2^62)<=a)(i:a<2^62)
  (q:R (BN lo (a-lo).toNat) H):wpAny (model X.prog X.w) X.A (pyIter (.ref s.heap.objs.size)) (SK X aW σ tg R) E { s with heap:=s.heap.push { cls:=.type "range",data:=.fields #[.int lo t,.int a u,.int 1 v] },toks:=c }:=by
 refine wpAny_pyIter_range (IsRange.new ..) (small_one g l j i) ?_;have d:Inv X aW σ H { s with heap:=s.heap.push { cls:=.type "range",data:=.fields #[.int lo t,.int a u,.int 1 v] },toks:=c }:=I.kept λb o e=>cg _ e
 refine⟨(s.heap.push { cls:=.type "range",data:=.fields #[.int lo t,.int a u,.int 1 v] }).objs.size,[(s.heap.push { cls:=.type "range",data:=.fields #[.int lo t,.int a u,.int 1 v] }).objs.size],_,_,H,rfl,
  d.kept (t':=c) λb o e=>cg _ e,Ug _ lo (a-lo).toNat,?_,λb h=>?_,q⟩
 ·have k:lo+((0:Nat):Int)*1=lo:=by simp
  have f:(((a-lo).toNat:Nat):Int)-((0:Nat):Int)=Builtin.Range.rangeSize lo a 1:=by rw[rangeSize_one];split<;>lia
  show IsRangeIter _ _ (lo+((0:Nat):Int)*1) ((((a-lo).toNat:Nat):Int)-((0:Nat):Int)) 1;rw[k,f];exact ez _ rfl
 ·have e:b=(s.heap.push { cls:=.type "range",data:=.fields #[.int lo t,.int a u,.int 1 v] }).objs.size:=by simpa using h
  subst e;exact d.fpOk (bj _) (d.hok.fresh (bj _))
def Bw(a:TA):TI:=λc H R=>a c H λb H1=>∃j:Int,b=[.int j]/\-(2^62)<=j/\j<2^62/\R (BN 0 j.toNat) H1
def Bv(a:TA):TI:=λc H R=>a c H λb H1=>∃i j:Int,b=[.int i,.int j]/\(-(2^62)<=i/\i<2^62/\-(2^62)<=j/\j<2^62)/\R (BN i (j-i).toNat) H1
section
variable {X:Cx}{tg:Expr}
theorem S7{a:Expr}{f:TA}{p b:Pos}(o:Gl X "range")(l:X.mg "range"=none)(i:PA X [a] f)(m:starEach [a] X.env=[(false,eval a X.env)]:=by rfl):PI X tg (.Call (.Name "range" p) [a] [] b) (Bw f):=by
 intro g s v H R I h;refine Call_ (lQ I o l boot_range (sX (bi (i b g s v H _ I h) λy w c=>?_) m rfl));obtain⟨x,H1,k,n,d⟩:=c;obtain⟨j,e,d,u,q⟩:=d;subst e;cases n with
 |cons r rr=>
  cases rr;obtain⟨t,rfl⟩:=r;exact call_range_1 (Qw k (by lia) (by lia) d u (by simpa using q))
theorem S8{a b:Expr}{g:TA}{p c:Pos}(l:Gl X "range")(k:X.mg "range"=none)(v:PA X [a,b] g)(o:starEach [a,b] X.env=[(false,eval a X.env),(false,eval b X.env)]:=by rfl)(d:starEach [b] X.env=[(false,eval b X.env)]:=by rfl):
  PI X tg (.Call (.Name "range" p) [a,b] [] c) (Bv g):=by
 intro x s u H R I h;refine Call_ (lQ I l k boot_range (sX (bi (v c x s u H _ I h) λG A ⟨E,H1,y,w,f⟩=>?_) (by rw[o,d]) (by rw[d];rfl)));obtain⟨i,j,e,⟨f,n,z,m⟩,q⟩:=f;subst e;cases w with
 |cons r rr=>
  cases rr with
  |cons r' rr=>
   cases rr;obtain⟨t,rfl⟩:=r;obtain⟨C,rfl⟩:=r';exact call_range_2 (Qw y f n z m q)
end
def O4(f:TI) (g:TG) (h:TS):TS:=λD a H=>f a H λJ H1=>∃W:Nat->Nat->St->Hp->Prop,(∃m,W 0 m a H1)/\∀i m a H,W i m a H ->
 (J.stop i H/\D.nx a H)\/(J.go i H/\∃N:St->Hp->Prop,(∀c b,N c b->∃e,e<m/\W (i+1) e c b)/\∀x b,J.yld i H x b->g x a b λd H2=>h {D with nx:=N,ct:=N,bk:=D.nx} d H2)
noncomputable def gY(a:List Addr) (h:Heap):List (Addr×Obj):=a.filterMap λb=>(h.get? b).map λo=>(b,o)
theorem CV{h:Heap}(a:b∈fp)(e:h.get? b=some o):(b,o)∈gY fp h:=List.mem_filterMap.mpr ⟨b,a,by rw[e];rfl⟩
theorem N3(c:p∈gY fp h):p.1∈fp/\h.get? p.1=some p.2:=by
 obtain⟨b,d,e⟩:=List.mem_filterMap.mp c;cases q:h.get? b with
 |none=>rw[q] at e;cases e
 |some o=>
  rw[q] at e;have a:(b,o)=p:=fW e;subst a;exact⟨d,q⟩
theorem Inv.pinned(I:Inv X aW σ H s)(l:∀b∈c,ed X aW H b)(g:∀b∈c,∃o,s.heap.get? b=some o/\∀v,o.data≠.cell v):Inv X (aW++gY c s.heap) σ H s:=
 I.pins_of λp k=>(eO.mp k).elim (λz=>I.pin p (gG _ z)) λz=>by
  obtain⟨a,e⟩:=N3 z;obtain⟨h,i,j,_⟩:=l p.1 a;obtain⟨o,f,d⟩:=g p.1 a;rw[e] at f;cases f
  exact⟨e,h,i,j,d⟩
theorem Inv.unpinned(I:Inv X (aW++pl) σ H s):Inv X aW σ H s:=I.pins_of λp a=>I.pin p (gG _ (vp _ a))
section
variable {X:Cx}{tg:Expr}
theorem IF{iter:Expr}{w:List Stmt}{wi:TI}{g:TG}{tb:TS}{a1:Pos}(P:PassesOwn (model X.prog X.w) X.A X.env X.xe)(hc:X.calm=true)(hi:PI X tg iter wi)(hg:PG X tg g)(k:jC X w tb)
  (hs:∀x,foldedSetIterable iter X.env x=pure x:=by intro _;rfl):PS X (.For tg iter w [] a1) (O4 wi g tb):=by
 intro A s σ H D I h;refine wpAny_For (bi (hi A s σ H _ I h) λv s1 h1=>bi h1 λa4 s2 h2=>?_) hs;obtain⟨it,G,tn,J,H2,e,I2,T,a0,f2,W,⟨m0,w0⟩,R⟩:=h2;subst e;have q:∀{H':Hp},(∀b∈G,H' b=none)->∀b∈G,ed X A H' b:=λhn b k=>⟨hn b k,(f2 b k).2⟩
 refine codeAny_forLoop_any (λn s'=>∃i t H',Inv X A t H' s'/\tn i s'.heap/\(∀b∈G,H' b=none)/\W i n t H') ?_ m0 ⟨0,σ,H2,I2,a0,λb k=>(f2 b k).1,w0⟩;rintro n s3 ⟨i,l,H3,I3,Q,S,w3⟩;rcases R i n l H3 w3 with⟨C,qn⟩|⟨go,N,hN,step⟩
 ·refine sM P (bi (T.done X rfl rfl rfl hc i A s3 l H3 X.xe I3 (q S) Q C) λr s4 c=>?_);obtain⟨Y,I4⟩:=c;subst Y;exact Ds ⟨l,H3,I4,qn⟩
 ·refine sM P (bi (T.item X rfl rfl rfl hc i A s3 l H3 X.xe I3 (q S) Q go) λr s4 c=>?_);obtain⟨u,Y,h4⟩:=c;subst Y;refine sM P (bi h4 λ_ s5 c=>?_);obtain⟨x,H5,I5,r5,y5,z,a2⟩:=c;have a3:=I5.pinned (q a2) (T.obj _ _ z);refine sM P (bi (hg _ s5 l H5 x u _ a3 r5 (step x H5 y5)) λ_ s6 c=>?_);obtain⟨U,H6,I6,q6⟩:=c;refine sM P (bi (k _ s6 U H6 _ I6 q6) λf s7 y=>?_);have again:∀{a:St}{p:Hp},Inv X (A++gY G s5.heap) a p s7->N a p->∃m,m<n/\∃i t H',Inv X A t H' s7/\tn i s7.heap/\(∀b∈G,H' b=none)/\W i m t H':=λ{a p} j E=>by
   obtain⟨m',hm,w7⟩:=hN a p E;refine⟨m',hm,i+1,a,p,j.unpinned,T.keep _ _ _ z λb k o e=>(j.pin (b,o) (gG _ (gG _ (CV k e)))).1,λb k=>?_,w7⟩;obtain⟨o,e,d⟩:=T.obj _ _ z b k;exact(j.pin (b,o) (gG _ (gG _ (CV k e)))).2.1
  cases f with
  |next=>obtain⟨a,p,j,E⟩:=y;exact again j E
  |cont=>obtain⟨a,p,j,E⟩:=y;exact again j E
  |brk=>obtain⟨a,p,j,y⟩:=y;exact⟨a,p,j.unpinned,y⟩
  |ret v=>obtain⟨x7,a,p,j,r7,y⟩:=y;exact⟨x7,a,p,j.unpinned,r7,y⟩
end
abbrev R2:=V->V->Hp->VK->Prop
def dH(X:Cx) (f:Value->Value->Sem Value) (r:R2):Prop:=
 ∀(a:List (Addr×Obj)) (s:Shared) (b:St) (H:Hp) (x y:V) (v u:Value) (Q:VK),Inv X a b H s->RelV x v->RelV y u->r x y H Q ->
  wpAny (model X.prog X.w) X.A (f v u) (EP X a b Q) X.xe s
def PX(X:Cx) (f:Value->Sem Value) (r:V->Hp->VK->Prop):Prop:=
 ∀(a:List (Addr×Obj)) (s:Shared) (b:St) (H:Hp) (x:V) (v:Value) (Q:VK),Inv X a b H s->RelV x v->r x H Q ->
  wpAny (model X.prog X.w) X.A (f v) (EP X a b Q) X.xe s
def bV(X:Cx) (f:Value) (r:List V->Hp->VK->Prop):Prop:=
 ∀(a:List (Addr×Obj)) (s:Shared) (d:St) (H:Hp) (b:List V) (c:List Value) (Q:VK),Inv X a d H s->aj b c->r b H Q ->
  wpAny (model X.prog X.w) X.A (call f c) (EP X a d Q) X.xe s
def BH(X:Cx) (r:V->Hp->(Bool->Hp->Prop)->Prop):Prop:=
 ∀(a:List (Addr×Obj)) (s:Shared) (b:St) (H:Hp) (x:V) (v:Value) (Q:Bool->Hp->Prop),Inv X a b H s->RelV x v->r x H Q ->
  wpAny (model X.prog X.w) X.A (truthy v) (TP X a b Q) X.xe s
def zN(r:R2) (b c:TE):TE:=λa H Q=>b a H λx H1=>c a H1 λy H2=>r x y H2 Q
def VY(r:V->Hp->VK->Prop) (a:TE):TE:=λb H Q=>a b H λx H1=>r x H1 Q
def rI(C:Int->Int->Prop) (g:Int->Int->V):R2:=λx y H Q=>∃i j,x=.int i/\y=.int j/\C i j/\Q (g i j) H
def mX(g:Int->Int->V):R2:=λx y H Q=>∃i j,x=.int i/\y=.int j/\Q (g i j) H
def rU(g:Int->V):V->Hp->VK->Prop:=λx H Q=>∃i,x=.int i/\Q (g i) H
section
variable {X:Cx}{a:Expr}{b:Expr}{ta:TE}{tb:TE}
theorem tW(k:PE X a ta)(o:PE X b tb){i:List (Addr×Obj)}{s:Shared}{d:St}{H:Hp}{R:V->V->Hp->Prop}(I:Inv X i d H s)
  (h:ta d H λx H1=>tb d H1 λy H2=>R x y H2){Q:Value->Shared->Prop}{f:Value->Value->Sem Value}
  (w:∀v u j x y H2,Inv X i d H2 j->RelV x v->RelV y u->R x y H2->wpAny (model X.prog X.w) X.A (f v u) Q X.xe j):
  wpAny (model X.prog X.w) X.A (eval a X.env) (λv g=>wpAny (model X.prog X.w) X.A (eval b X.env) (λu e=>wpAny (model X.prog X.w) X.A (f v u) Q X.xe e) X.xe g) X.xe s:=by
 refine bi (k i s d H _ I h) λv m c=>?_
 obtain⟨x,H1,l,p,q⟩:=c;refine bi (o i m d H1 _ l q) λu j c=>?_
 obtain⟨y,H2,n,t,r⟩:=c;exact w v u j x y H2 n p t r
end
section
variable {X:Cx}{a:Expr}{b:Expr}{ta:TE}{tb:TE}{pos:Pos}
theorem Gx{c:Operator}{r:R2}(e:dH X (binaryOp c) r)(f:PE X a ta)(j:PE X b tb):PE X (.BinOp a c b pos) (zN r ta tb):=by
 intro d s m H Q I h;exact wpAny_BinOp (tW f j I h λv u g x y H2 i l k q=>e d g m H2 x y v u Q i l k q)
end
section
variable {X:Cx}{a:Expr}{ta:TE}{pos:Pos}
theorem Gy{c:UnaryOp}{r:V->Hp->VK->Prop}(f:PX X (unaryOp c) r)(e:PE X a ta):PE X (.UnaryOp c a pos) (VY r ta):=by
 intro b s d H Q I h;exact UnaryOp_ (bi (e b s d H _ I h) λv j ⟨x,H1,g,i,k⟩=>f b j d H1 x v Q g i k)
end
section
variable {X:Cx}
theorem vy{f:Value->Value->Sem Value}{C:Int->Int->Prop}{g:Int->Int->Int}
  (rule:∀(i j:Int) (t u:Tok) (s:Shared) (Q:Value->Shared->Prop) (E:Value->Shared->Prop),C i j->Q (.int (g i j) s.toks) {s with toks:=s.toks+1}->wpAny (model X.prog X.w) X.A (f (.int i t) (.int j u)) Q E s):
  dH X f (rI C λi j=>.int (g i j)):=by
 intro e s k H x y v u Q I c b h;obtain⟨i,j,rfl,rfl,a,q⟩:=h;obtain⟨t,rfl⟩:=c;obtain⟨d,rfl⟩:=b;exact rule i j t d s _ _ a ⟨.int (g i j),H,I.tok _,⟨_,rfl⟩,q⟩
theorem tH{f:Value->Value->Sem Value}{g:Int->Int->Int}
  (rule:∀(i j:Int) (t u:Tok) (s:Shared) (Q:Value->Shared->Prop) (E:Value->Shared->Prop),Q (.int (g i j) s.toks) {s with toks:=s.toks+1}->wpAny (model X.prog X.w) X.A (f (.int i t) (.int j u)) Q E s):
  dH X f (mX λi j=>.int (g i j)):=by
 intro d s e H x y v u Q I b a h;obtain⟨i,j,rfl,rfl,q⟩:=h;obtain⟨t,rfl⟩:=b;obtain⟨c,rfl⟩:=a;exact rule i j t c s _ _ ⟨.int (g i j),H,I.tok _,⟨_,rfl⟩,q⟩
theorem tI{f:Value->Value->Sem Value}{g:Int->Int->Bool}
  (rule:∀(i j:Int) (t u:Tok) (s:Shared) (Q:Value->Shared->Prop) (E:Value->Shared->Prop),Q (.bool (g i j)) s->wpAny (model X.prog X.w) X.A (f (.int i t) (.int j u)) Q E s):
  dH X f (mX λi j=>.bl (g i j)):=by
 intro d s e H x y v u Q I b a h;obtain⟨i,j,rfl,rfl,q⟩:=h;obtain⟨t,rfl⟩:=b;obtain⟨c,rfl⟩:=a;exact rule i j t c s _ _ ⟨.bl (g i j),H,I,rfl,q⟩
end
noncomputable def kf(i j:Int):Prop:=0<=j/\j<=1000000/\i.natAbs<2^64
noncomputable def eN(i j:Int):Prop:=(-(2^64)<i/\i<2^64)\/(-(2^64)<j/\j<2^64)
theorem eN.ok(h:eN i j):IntMulOk i j:=by
 rcases h with⟨b,a⟩|⟨b,a⟩
 ·exact .of_left (intBits_le_64 b a)
 ·exact .of_right (intBits_le_64 b a)
theorem Uj(k:Nat):(0:Int)<=2^k:=by
 rw[two_pow_cast];exact Int.natCast_nonneg _
theorem Ie:dH X (binaryOp .Add) (mX λi j=>.int (i+j)):=tH λ_ _ _ _ _ _ _ q=>add_int q
theorem Il:dH X (binaryOp .Sub) (mX λi j=>.int (i-j)):=tH λ_ _ _ _ _ _ _ q=>sub_int q
section
variable {X:Cx}
theorem jQ:dH X (binaryOp .Mult) (rI eN λi j=>.int (i*j)):=vy λ_ _ _ _ _ _ _ a q=>mul_int q a.ok
end
theorem uv:dH X (binaryOp .Mod) (rI (λ_ j=>0<j) λi j=>.int (i%j)):=vy λi j _ _ _ _ _ a q=>by
 have b:(0:Int)<j:=a;exact mod_int' (by lia) (by rw[Int.fmod_eq_emod_of_nonneg i (by lia)];exact q)
section
variable {X:Cx}
theorem Ii:dH X (binaryOp .Pow) (rI kf λi j=>.int (i^j.toNat)):=vy λ_ _ _ _ _ _ _ a q=>pow_int_small a.1 a.2.1 a.2.2 q
theorem Ij:dH X (binaryOp .LShift) (rI kf λi j=>.int (i*2^j.toNat)):=vy λ_ _ _ _ _ _ _ a q=>lshift_int_small a.1 a.2.1 a.2.2 q
end
theorem Ik:dH X (binaryOp .RShift) (rI (λ_ j=>0<=j) λi j=>.int (i/2^j.toNat)):=vy λi j _ _ _ _ _ a q=>
 rshift_int a (by rw[Sy i (Uj _)];exact q)
theorem vG:dH X (binaryOp .BitAnd) (mX λi j=>.int (Builtin.bitAnd i j)):=tH λ_ _ _ _ _ _ _ q=>and_int q
section
variable {X:Cx}
theorem VX{f:Value->Sem Value}{g:Int->Int}
  (rule:∀(i:Int) (t:Tok) (s:Shared) (Q:Value->Shared->Prop) (E:Value->Shared->Prop),Q (.int (g i) s.toks) {s with toks:=s.toks+1}->wpAny (model X.prog X.w) X.A (f (.int i t)) Q E s):
  PX X f (rU λi=>.int (g i)):=by
 intro b s c H x v Q I a h;obtain⟨i,rfl,q⟩:=h;obtain⟨t,rfl⟩:=a;exact rule i t s _ _ ⟨.int (g i),H,I.tok _,⟨_,rfl⟩,q⟩
end
theorem Jc:PX X (unaryOp .USub) (rU λi=>.int (-i)):=VX λ_ _ _ _ _ q=>neg_int q
theorem Gs:dH X (compareOp .Lt) (mX λi j=>.bl (decide (i<j))):=tI λ_ _ _ _ _ _ _ q=>lt_int q
theorem rQ:dH X (compareOp .LtE) (mX λi j=>.bl (decide (i<=j))):=tI λ_ _ _ _ _ _ _ q=>le_int q
theorem my:dH X (compareOp .Gt) (mX λi j=>.bl (decide (j<i))):=tI λ_ _ _ _ _ _ _ q=>gt_int q
theorem dH.or(h:dH X f r)(e:dH X f r'):dH X f (λx y H Q=>r x y H Q\/r' x y H Q):=by
 intro a s d H x y v u Q I c b q;rcases q with q|q
 ·exact h a s d H x y v u Q I c b q
 ·exact e a s d H x y v u Q I c b q
theorem bm(b:Expr) (h:op≠.In:=by decide)(d:op≠.NotIn:=by decide):behindInMarks op b=false:=by
 have a:(op==CmpOp.In)=false:=by cases op<;>first|rfl|exact absurd rfl h
 have c:(op==CmpOp.NotIn)=false:=by cases op<;>first|rfl|exact absurd rfl d
 cases b<;>simp[behindInMarks,a,c]
theorem KB(d:dH X (compareOp op) r)(e:PE X a ta)(j:PE X b tb)(f:behindInMarks op b=false):PE X (.Compare a [op] [b] pos) (zN r ta tb):=by
 intro c s m H Q I h;exact wpAny_Compare1 (tW e j I h λv u g x y H2 i l k q=>d c g m H2 x y v u Q i l k q) f
def qI(t:TE):TT:=λb H Q=>t b H λx a=>∃k,x=.bl k/\Q k a
section
variable {X:Cx}{a:Expr}{b:Expr}{c:Expr}{ta:TE}{tb:TE}{pos:Pos}
theorem KW{d:CmpOp}{r:R2}(p:dH X (compareOp d) r)(A:PE X a ta)(m:PE X b tb)(j:behindInMarks d b=false):PT X (.Compare a [d] [b] pos) (qI (zN r ta tb)):=by
 intro g s f H Q I h
 refine wpAny_isTrue_Compare1 (bi (A g s f H _ I h) λv l ⟨x,H1,E,C,w⟩=>bi (m g l f H1 _ E w) λu q ⟨y,H2,t,J,n⟩=>
  bi (p g q f H2 x y v u _ t C J n) λc P ⟨z,H3,i,o,k,e,G⟩=>?_) j
 subst e;cases o;exact mM ⟨H3,i,G⟩
end
def mS(r c:R2) (b g f:TE):TE:=λa H Q=>b a H λx H1=>g a H1 λy H2=>r x y H2 λz H3=>∃k,z=.bl k /\
 (if k=true then f a H3 λd e=>c y d e Q else Q (.bl false) H3)
section
variable {X:Cx}{a:Expr}{b:Expr}{c:Expr}{ta:TE}{tb:TE}{tc:TE}{pos:Pos}
theorem MV{m f:CmpOp}{r o:R2}(U:dH X (compareOp m) r)(j:dH X (compareOp f) o)(ha:PE X a ta)(C:PE X b tb)(E:PE X c tc)
  (w:lastMarks [m,f] [b,c]=false:=by with_unfolding_all rfl):PT X (.Compare a [m,f] [b,c] pos) (qI (mS r o ta tb tc)):=by
 intro i s g H Q I h
 refine isTrue_chain (bi (ha i s g H _ I h) λv A ⟨x,H1,I1,r1,q1⟩=>test_link (bi (C i A g H1 _ I1 q1) λu s2 ⟨y,H2,I2,q,P⟩=>
  bi (U i s2 g H2 x y v u _ I2 r1 q P) λd s3 ⟨z,H3,n,R,k,e,p⟩=>?_)) w
 subst e;cases R;refine mM ?_;cases k with
 |false=>
  obtain⟨k',G,q'⟩:=p;cases G;exact ite_ff ⟨H3,n,q'⟩
 |true=>
  refine ite_tt (test_last (bi (E i s3 g H3 _ n p) λw' s4 ⟨z',H4,T,r4,J⟩=>bi (j i s4 g H4 y z' u w' _ T q r4 J) λd' s5 l=>?_));obtain⟨z2,H5,S,r5,k2,Y,t⟩:=l;subst Y;cases r5;exact mM ⟨H5,S,t⟩
end
def ua(K:Fg) (x:V) (H:Hp) (k:Bool):Prop:=
 match x with
 |.non=>k=false
 |.bl b=>k=b
 |.int i=>k=(i != 0)
 |.str y=>y.length<=sizeLine/\k=((y.length:Int) != 0)
 |.byt y=>y.size<=sizeLine/\k=((y.size:Int) != 0)
 |.ref p=>(∃a,du K H p a/\k=!a.isEmpty)\/(∃a,bH K H p a/\k=!a.isEmpty)\/∃c,H p=some (.dK c)/\k=!c.isEmpty
 |_=>False
theorem TQ{c:Type}{a:List (c×V)}{b:List (c×Value)}(r:KV a b):(!b.isEmpty)=!a.isEmpty:=by
 cases r<;>rfl
theorem RA(r:aj xs its):(!its.toArray.isEmpty)=!xs.isEmpty:=by
 cases r<;>simp
theorem eF:(sizeLine:Nat)<2^63:=by rw[jo];decide
section
variable {X:Cx}{b:Expr}
theorem Jb:BH X (λx H Q=>∃k,ua X.K x H k/\Q k H):=by
 intro z s E H x v Q I g h;obtain⟨k,e,q⟩:=h;have C:=eF;have A:sizeLine=16777216:=jo;cases x with
 |non=>
  cases g;have a:k=false:=e;subst a;exact truthy_none ⟨H,I,q⟩
 |bl b=>
  cases g;have a:k=b:=e;subst a;exact mM ⟨H,I,q⟩
 |int i=>
  obtain⟨t,rfl⟩:=g;have a:k=(i != 0):=e;subst a;exact PySem.P.truthy_int ⟨H,I,q⟩
 |str y=>
  obtain⟨t,rfl⟩:=g;obtain⟨w,a⟩:y.length<=sizeLine/\k=((y.length:Int) != 0):=e;subst a;exact PySem.P.truthy_str (by lia) ⟨H,I.tok _,q⟩
 |byt y=>
  obtain⟨t,rfl⟩:=g;obtain⟨w,a⟩:y.size<=sizeLine/\k=((y.size:Int) != 0):=e;subst a;exact W.truthy_bytes (by lia) ⟨H,I.tok _,q⟩
 |ref p=>
  cases g;have a:(∃f,du X.K H p f/\k=!f.isEmpty)\/(∃f,bH X.K H p f/\k=!f.isEmpty)\/∃c,H p=some (.dK c)/\k=!c.isEmpty:=e
  rcases a with⟨f,j,a⟩|⟨f,j,a⟩|⟨c,j,a⟩
  ·subst a;obtain⟨l,r,n,o⟩:=I.list j;have d:=r.length;exact wpAny_truthy_list n.isList (by simp only[dR];lia) ⟨H,I.tok _,by rw[RA r];exact q⟩
  ·subst a;obtain⟨l,r,n,o⟩:=I.tuple j;have d:=r.length;exact truthy_tuple n (by simp only[dR];lia) ⟨H,I.tok _,by rw[RA r];exact q⟩
  ·subst a;obtain⟨o,u,vs,r,m⟩:c.length<=sizeLine/\(p==sysModules)=false/\∃vs,KV c vs/\s.heap.DictOf (ba X.prog X.w) p vs:=I.hok p _ j
   have d:c.length=vs.length:=sH r;exact wpAny_truthy_dict u m (by lia) ⟨H,I.tok _,by rw[TQ r];exact q⟩
 |_=>exact(show False from e).elim
end
section
variable {X:Cx}{a:Expr}{ta:TE}
theorem Qv(f:PE X a ta)(m:∀b,isTrue a X.env b=(do let v ←b;standAt a.pos;holding [v] (truthy v))):
  PT X a (λc H Q=>ta c H λx e=>∃k,ua X.K x e k/\Q k e):=by
 intro d s c H Q I h;exact isTrue_plain (bi (f d s c H _ I h) λv j ⟨x,H1,g,i,l⟩=>Jb d j c H1 x v Q g i l) (m _)
end
theorem T6:dH X (binaryOp .Add) (λx y H Q=>∃i j,x=.str i/\y=.str j/\i.length+j.length<=sizeLine/\Q (.str (i++j)) H):=by
 intro e s g H x y v u Q I c b h;obtain⟨i,j,rfl,rfl,a,q⟩:=h;obtain⟨t,rfl⟩:=c;obtain⟨d,rfl⟩:=b;exact add_str (λd f=>⟨.str (i++j),H,I.tok _,⟨_,rfl⟩,q⟩) a
theorem vals1(r:aj [x] us):∃u,us=[u]/\RelV x u:=by
 cases r with
 |cons r1 r2=>cases r2;exact⟨_,rfl,r1⟩
theorem vals2(r:aj [x,y] us):∃u w',us=[u,w']/\RelV x u/\RelV y w':=by
 cases r with
 |cons r1 r2=>
  cases r2 with
  |cons r3 r4=>cases r4;exact⟨_,_,rfl,r1,r3⟩
theorem Ly:bV X (.builtin "abs") (λa H Q=>∃ i,a=[.int i]/\Q (.int (if i<0 then -i else i)) H):=by
 intro b s e H a d Q I r h;obtain⟨i,rfl,q⟩:=h;obtain⟨u,rfl,t,rfl⟩:=vals1 r;exact call_abs_int λu c=>⟨.int (if i<0 then -i else i),H,I.tok _,⟨_,rfl⟩,q⟩
theorem uO{X:Cx}(b:X.calm=true):bV X (.builtin "min") (λa H Q=>∃ i j,a=[.int i,.int j]/\Q (.int (if j<i then j else i)) H):=by
 intro c s m H a l Q I r h;obtain⟨i,j,rfl,q⟩:=h;obtain⟨u,f,rfl,⟨t,rfl⟩,⟨g,rfl⟩⟩:=vals2 r;refine min_two_ints (I.ok.hd b) λe d k=>⟨_,H,I.kept k,?_,q⟩
 by_cases hj:j<i
 ·rw[if_pos hj,if_pos hj];exact⟨_,rfl⟩
 ·rw[if_neg hj,if_neg hj];exact⟨_,rfl⟩
structure ug (h:Heap) (x dx C:Addr) (mA:Str->Option Value):Prop where
 obj:h.get? x=some (W.instObj C dx)
 ns:h.Ns1 dx mA
 ne:dx≠x
theorem NP{h:Heap}(n:h.Ns1 dx mA):∃c,h.get? dx=some c/\∀name,W.lookIn name c=some (mA name):=by
 obtain⟨o,d,m,f,j,g,_,i⟩:=n;refine⟨o,f,λname=>?_⟩;have e:=i name;unfold nsFind findBy at e;rw[←Array.find?_toList] at e;unfold W.lookIn;rw[j];dsimp only;split
 ·rename_i y q;rw[q] at e;exact congrArg some e
 ·rename_i q;rw[q] at e;have a:d.toList.any (·.refKey)=false:=by
   rw[List.any_eq_false];intro y l;obtain⟨z,t,b⟩:=g y (Array.mem_toList_iff.mp l);simp[DictEntry.refKey,b]
  have k:¬ d.toList.any (·.refKey)=true:=by rw[a];exact nX
  rw[if_neg k];exact congrArg some e
theorem ug.look(I:ug h x dx C mA):∃a,W.InstAt h x (W.instObj C dx) C (some a)/\∀name,W.lookIn name a=some (mA name):=
 let ⟨a,ho,hl⟩:=NP I.ns
 ⟨a,⟨I.obj,rfl,rfl,ho⟩,hl⟩
theorem fF.some_of(r:fF (some v) o):∃u,o=some u/\RelV v u:=by
 cases o with
 |none=>exact(show False from r).elim
 |some u=>exact⟨u,rfl,r⟩
theorem J7(c:fL P w H h)(e:H a=some (.ins C dx fs)):∃b,ug h a dx C b/\(∀f,fF (fs.lookup f) (b f))/\PySem.Within b (fs.map (·.1))/\fs.length<=1000/\H dx=some (.own a):=by
 obtain⟨d,z,g,i,b,n,r,q⟩:=(show ax P w H h a (.ins C dx fs) from c a _ e)
 exact⟨b,⟨i,n,g⟩,r,q,z,d⟩
structure P5 (K:Fg) (C:Addr):Prop where
 pg:W.plainGet K C Str.empty=true
 hd:W.hasDictIn K C=true
 po:W.plainOver K C=true
 sa:W.findIn K (.ref C) "__setattr__"=some (some (.builtin "object.__setattr__"))
theorem P5.get{K:Fg}{C:Addr}(c:P5 K C)(f:Str):W.plainGet K C f=true:=c.pg
inductive fE (K:Fg) (H:Hp):V->Value->Prop where
 |non:fE K H .non (.type "NoneType")
 |bl (x:Bool):fE K H (.bl x) (.type "bool")
 |int (i:Int):fE K H (.int i) (.type "int")
 |str (x:Str):fE K H (.str x) (.type "str")
 |flt (x:UInt64):fE K H (.flt x) (.type "float")
 |lst {a:Addr}{xs:List V}(e:H a=some (.lst xs)):fE K H (.ref a) (.type "list")
 |frz {a:Addr}{o:Obj}{xs:List V}(e:H a=some (.frz o (.lst xs))):fE K H (.ref a) (.type "list")
 |tup {a:Addr}{xs:List V}(e:H a=some (.tup xs)):fE K H (.ref a) (.type "tuple")
 |dK {a:Addr}{kvs:List (cI×V)}(e:H a=some (.dK kvs)):fE K H (.ref a) (.type "dict")
 |dT {a:Addr}{kvs:List (List cI×V)}(e:H a=some (.dT kvs)):fE K H (.ref a) (.type "dict")
 |ins {a C dx:Addr}{fs:List (Str×V)}(e:H a=some (.ins C dx fs)) (cl:P5 K C) (ha:W.findIn K (.ref C) "__class__"=some (some (.builtin "object.__class__")))
  (hn:W.specialIn K (.builtin "object.__class__") "__get__"=some (some (.builtin "getset_descriptor.__get__")))(htk:W.takesIn K (.builtin "object.__class__")=some true)
  (hm:W.mroIn K C (.type "object")=some true):fE K H (.ref a) (.ref C)
theorem NK(I:Inv X aW σ H s)(d:RelV x u)(m:fE X.K H x t)(e:W.kitOne X.K t c=some b)(h:∀k,Q (.bool b) {s with toks:=k}):
  wpAny (model X.prog X.w) A (call (.builtin "isinstance") [u,c]) Q E s:=by
 cases m with
 |non=>cases(show u=Value.none from d);exact mK W.kitx_none I.kIn True.intro e (λz=>nomatch z) h
 |bl y=>cases(show u=Value.bool y from d);exact mK W.kitx_bool I.kIn True.intro e (λz=>nomatch z) h
 |int i=>obtain⟨t,q⟩:=(show ∃t,u=Value.int i t from d);cases q;exact mK W.kitx_int I.kIn True.intro e (λz=>nomatch z) h
 |str y=>obtain⟨t,q⟩:=(show ∃t,u=Value.str y t from d);cases q;exact mK W.kitx_str I.kIn True.intro e (λz=>nomatch z) h
 |flt y=>obtain⟨t,q⟩:=(show ∃t,u=Value.float y t from d);cases q;exact mK W.kitx_float I.kIn True.intro e (λz=>nomatch z) h
 |@lst a g ea=>
  cases(show u=Value.ref a from d);obtain⟨_,_,n,_,f⟩:=(show ax X.prog X.w H s.heap a (.lst g) from I.hok a _ ea)
  exact mK W.kitx_list I.kIn ⟨_,f,rfl⟩ e (λz=>nomatch z) h
 |@frz a ob g ea=>
  cases(show u=Value.ref a from d);obtain⟨_,_,_,n,_,f⟩:=(show ax X.prog X.w H s.heap a (.frz ob (.lst g)) from I.hok a _ ea)
  exact mK W.kitx_list I.kIn ⟨_,f,rfl⟩ e (λz=>nomatch z) h
 |@tup a g ea=>
  cases(show u=Value.ref a from d);obtain⟨_,_,_,p⟩:=(show ax X.prog X.w H s.heap a (.tup g) from I.hok a _ ea)
  obtain⟨o,f,j,_⟩:=p;exact mK W.kitx_tuple I.kIn ⟨o,f,j⟩ e (λz=>nomatch z) h
 |@dK a kvs ea=>
  cases(show u=Value.ref a from d);obtain⟨_,_,G,_,p⟩:=(show ax X.prog X.w H s.heap a (.dK kvs) from I.hok a _ ea)
  obtain⟨o,r,l,f,j,_⟩:=p;exact mK W.kitx_dict I.kIn ⟨o,f,j.1⟩ e (λz=>nomatch z) h
 |@dT a kvs ea=>
  cases(show u=Value.ref a from d);obtain⟨_,_,g,_,o,r,l,f,j,_⟩:=(show ax X.prog X.w H s.heap a (.dT kvs) from I.hok a _ ea)
  exact mK W.kitx_dict I.kIn ⟨o,f,j.1⟩ e (λz=>nomatch z) h
 |@ins a C dx fs ea cl ha hn htk hm=>
  cases(show u=Value.ref a from d);obtain⟨w,O,_⟩:=J7 I.hok ea;obtain⟨v,J,_⟩:=O.look;exact mK (W.kitx_own (cl.get _) cl.hd ha hn htk hm) I.kIn J e (λz=>nomatch z) h
structure bR (k:Nat) (A:Around):Prop where
 hd:A.handled=none
 dp:A.depth+3*k+5<recursionLimit
 un:A.units+16*k+200<cLine
theorem bR.mono(r:bR k A)(h:j<=k):bR j A:=⟨r.hd,by have:=r.dp;lia,by have:=r.un;lia⟩
theorem bR.deeper(r:bR (k+1) A)(a:Env):bR k (A.deeper a):=
 ⟨r.hd,by have:=r.dp;show A.depth+1+3*k+5<_;lia,by have:=r.un;show A.units+3+16*k+200<_;lia⟩
theorem bR.in1(r:bR (k+1) A):bR k A.in1:=
 ⟨r.hd,by have:=r.dp;show A.depth+3*k+5<_;lia,by have:=r.un;show A.units+1+16*k+200<_;lia⟩
theorem bR.depth(r:bR k A):A.depth<recursionLimit:=by have:=r.dp;lia
theorem bR.units(r:bR k A):A.units+64<cLine:=by have:=r.un;lia
theorem bR.units0(r:bR k A):A.units<cLine:=by have:=r.un;lia
def O1:TA:=λ_ H Q=>Q [] H
def zS(c:TE) (d:TA):TA:=λa H Q=>c a H λx H1=>d a H1 λb H2=>Q (x::b) H2
theorem xE:PA X [] O1:=λ_ _ _ _ H Q I h=>sR ⟨[],H,I,.nil,h⟩
theorem yx(g:PE X e te)(f:PA X es t)(l:starEach (e::es) X.env=(false,eval e X.env)::starEach es X.env:=by rfl):PA X (e::es) (zS te t):=by
 intro a c s d H Q I h;rw[l];show wpAny _ _ (spliced ((false,eval e X.env)::backTo a (starEach es X.env))) _ _ s;refine qD (bi (g c s d H _ I h) λu k b=>?_);obtain⟨x,H1,j,n,o⟩:=b;exact bi (f a c k d H1 _ j o) λv r ⟨i,H2,m,q,p⟩=>⟨x::i,H2,m,.cons n q,p⟩
def OW(t:TA):TE:=λb H Q=>t b H λa H1=>a.length<=sizeLine/\∀p,H1 p=none->Q (.ref p) (ar H1 p (.tup a))
def O2(t:TA):TE:=λb H Q=>t b H λa H1=>a.length<=sizeLine/\∀p,H1 p=none->Q (.ref p) (ar H1 p (.lst a))
theorem Iw{x1}(h:PA X es t):PE X (.Tuple es x1 pos) (OW t):=by
 intro d s k H Q I i;refine wpAny_Tuple_spliced (bi (h pos d s k H _ I i) λg a ⟨f,H1,c,r,z,q⟩=>⟨by rw[←r.length];exact z,?_⟩);have j:H1 a.heap.objs.size=none:=c.hok.fresh (bj _);refine⟨.ref a.heap.objs.size,ar H1 a.heap.objs.size (.tup f),c.laid (t':=a.toks) (λb u e=>cg _ e) (bj _) ?_,rfl,q _ j⟩;exact⟨z,g,r,⟨_,ez _ rfl,rfl,_,rfl⟩⟩
theorem xG(h:PA X es t):PE X (.List es pos) (O2 t):=by
 intro d s k H Q I i;refine wpAny_List_spliced (bi (h pos d s k H _ I i) λg a ⟨f,H1,c,r,z,q⟩=>⟨by rw[←r.length];exact z,?_⟩);have j:H1 a.heap.objs.size=none:=c.hok.fresh (bj _);refine⟨.ref a.heap.objs.size,ar H1 a.heap.objs.size (.lst f),c.laid (t':=a.toks) (λb u e=>cg _ e) (bj _) ?_,rfl,q _ j⟩;exact⟨z,g,0,r,ez _ rfl⟩
abbrev Sp:=List V->Hp->VK->XK->Prop
abbrev vD:=List Env->Hp->Shared->XK->Value->Shared->Prop
structure kb (P:Program) (w:World) (K:Fg) (mg:Str->Option Value) (base:Heap) (A:Around) (outer:List Env) (s:Shared) (H:Hp):Prop where
 frames:A.frames=some outer
 mod:Mod K mg base
 bs:∀b o,base.get? b=some o->s.heap.get? b=some o/\H b=none
 bsz:base.objs.size<=s.heap.objs.size
 funs:s.heap.FunFrames base outer
 frf:∀b∈kI outer,H b=none
 hok:fL P w H s.heap
 bare:AllBare s.gens
def CE(a:List Env) (P:Program) (w:World) (H:Hp) (s:Shared) (Q:VK) (u:Value) (b:Shared):Prop:=
 ∃v c,b.os=s.os/\AllBare b.gens/\Un (kI a) [] H c s.heap b.heap/\fL P w c b.heap/\RelV v u/\Q v c
def CR(c:vD) (a:List Env) (P:Program) (w:World) (H:Hp) (s:Shared) (Q:VK) (E:XK) (r:Result) (b:Shared):Prop:=
 match r with
 |.ok (.ret u)=>CE a P w H s Q u b
 |.ok _=>False
 |.error e=>c a H s E e b
structure gf (P:Program) (w:World) (K:Fg) (mg:Str->Option Value) (base:Heap) (CX:vD) (k:Nat) (f:Addr) (fd:FuncData) (ps:List Str) (sp:Sp):Prop where
 len:∀vs H Q E,sp vs H Q E->vs.length=ps.length
 run:∀(A:Around) (outer:List Env) (s:Shared) (H:Hp) (args:Args) (us:List Value) (vs:List V) (Q:VK) (E:XK),bR k A->kb P w K mg base A outer s H->BindsTo s fd args (ps.zip us)->aj vs us->sp vs H Q E ->
  codeAny (model P w) A (.call (.ref f) args) (CR CX outer P w H s Q E) s
theorem kb.in1{K:Fg}(e:kb P w K mg base A outer s H):
 kb P w K mg base A.in1 outer s H:=⟨e.frames,e.mod,e.bs,e.bsz,e.funs,e.frf,e.hok,e.bare⟩
theorem Inv.env0(I:Inv X aW σ H s):kb X.prog X.w X.K X.mg X.base X.A X.stack s H:=
 ⟨I.ok.frames,I.ok.mod,I.bs,ay I.ok.bsz I.sz,I.stack,I.stkFree,I.hok,I.bare⟩
theorem Inv.after(I:Inv X aW σ H s)(h:CE X.stack X.prog X.w H s Q u s'):EP X aW σ Q u s':=by
 obtain⟨v,j,os,a,i,e,r,q⟩:=h;obtain⟨f,g,d,t,c⟩:=s';obtain rfl:c=s.os:=os;exact⟨v,j,I.call (h':=f) (g':=g) (d':=d) (t':=t) (ch:=[]) i e a (λb z=>absurd z (by simp)),r,q⟩
def mT(b:Sp) (a:List V) (E:XK) (t:TA):TE:=λd H Q=>t d H λc H1=>b (c++a) H1 Q E
noncomputable def Binds(K:Fg) (d:FuncData) (c:List Str) (b:List Value):Prop:=
 ∀(s:Shared) (a:List Value),K.In s.heap->(a++b).length=c.length->BindsTo s d ⟨a,[]⟩ (c.zip (a++b))
theorem Binds.all{K:Fg}{b:List Str}(h:∀a:List Value,a.length=b.length->bindArgs fd ⟨a,[]⟩=pure (b.zip a)):Binds K fd b []:=λs a _ c=>by
 rw[kn] at c ⊢;exact .of_eq (h a c)
def ka(c:vD) (X:Cx) (E:XK):Prop:=∀(b:List (Addr×Obj)) (d:St) (H:Hp) (s:Shared) (e:Value) (a:Shared),Inv X b d H s->c X.stack H s E e a->X.xe e a
theorem IP{X:Cx}(F:gf X.prog X.w X.K X.mg X.base CX k f fd ps sp)(c:bR k X.A)(g:Binds X.K fd ps ds)(d:aj dvs ds)(j:ka CX X E)
  (I:Inv X aW σ H s)(r:aj vs us)(h:sp (vs++dvs) H Q E):wpAny (model X.prog X.w) X.A (call (.ref f) us) (EP X aW σ Q) X.xe s:=by
 have b:aj (vs++dvs) (us++ds):=r.append d;have i:(us++ds).length=ps.length:=by rw[←b.length];exact F.len _ _ _ _ h
 refine yM (uX (F.run X.A X.stack s H ⟨us,[]⟩ (us++ds) (vs++dvs) Q E c I.env0 (g s us I.kIn i) b h) λr l a=>?_);cases r with
 |error e=>exact j aW σ H s e l I a
 |ok fl=>
  cases fl with
  |ret u=>exact I.after a
  |next=>exact False.elim a
  |brk=>exact False.elim a
  |cont=>exact False.elim a
theorem KA{X:Cx}(F:gf X.prog X.w X.K X.mg X.base CX k f fd ps sp)(g:bR k X.A)(o:Gl X x)(l:X.mg x=some (.ref f))(i:W.keepIn X.K (.ref f)=true)(n:Binds X.K fd ps ds)(m:aj dvs ds)(u:ka CX X E)
  (j:PA X (e::es) t)(b:(x==("__debug__" : Str))=false:=by decide)(v:starEach (e::es) X.env=(false,eval e X.env)::starEach es X.env:=by rfl)(a:(backTo pos (starEach es X.env)).any (·.1)=false:=by rfl):
  PE X (.Call (.Name x p) (e::es) [] pos) (mT sp dvs E t):=by
 intro d s w H Q I h;refine pB (Ev I o l ?_ b);refine W.callWith_K (h₀:=X.base) I.ok.mod.kin i (bi (j pos d s w H _ I h) λA y ⟨z,H1,c,r,q⟩=>⟨c.kIn,?_⟩) v a;exact IP F g n m u c r q
structure cV (N P:List Str) (sc:Scope):Prop where
 kind:sc.kind=.function
 co:sc.isCoroutine=false
 gen:sc.isGenerator=false
 nd:N.Nodup
 pre:N.take P.length=P
 par:∀x∈P,sc.names.lookup x=some .local\/sc.names.lookup x=some .cell
 nofree:∀y∈sc.names,y.2≠.free
theorem QT{kindOf:Str->Option NameKind}:∀{a:List (Str×Value)}{m:Str->Option Value},(∀v,(x,v)∉a)->bindL kindOf a m x=m x
 |[],_,_=>rfl
 | (n,v)::r,m,h=>by
  unfold bindL;rw[QT λw b=>h w (cr _ b)];split
  ·have:x≠n:=by rintro rfl;exact h v dS
   simp[this]
  ·rfl
theorem QR{kindOf:Str->Option NameKind}:∀{a:List (Str×Value)}{m:Str->Option Value},(∀v,(x,v)∉a)->bindC kindOf a m x=m x
 |[],_,_=>rfl
 | (n,v)::r,m,h=>by
  unfold bindC;rw[QR λw b=>h w (cr _ b)];split
  ·rfl
  ·have:x≠n:=by rintro rfl;exact h v dS
   simp[this]
theorem QS{kindOf:Str->Option NameKind}:∀{P:List Str}{a:List Value}{i:Nat}{m:Str->Option Value},P.Nodup->P[i]?=some x->a[i]?=some v->kindOf x=some .local ->
  bindL kindOf (P.zip a) m x=some v
 |[],_,_,_,_,h,_,_=>by simp at h
 |_::_,[],_,_,_,_,h,_=>by simp at h
 |p::P,w::a,0,m,nd,h1,h2,hk=>by
  simp at h1 h2;subst h1;subst h2
  show bindL kindOf ((p,w)::P.zip a) m p=_;unfold bindL;rw[QT λv b=>(iB.mp nd).1 (Ob b).1,if_pos hk];simp
 |p::P,w::a,i+1,m,nd,h1,h2,hk=>by
  show bindL kindOf ((p,w)::P.zip a) m x=_;unfold bindL;exact QS (i:=i) (iB.mp nd).2 (by simpa using h1) (by simpa using h2) hk
theorem QP{kindOf:Str->Option NameKind}:∀{P:List Str}{a:List Value}{i:Nat}{m:Str->Option Value},P.Nodup->P[i]?=some x->a[i]?=some v->kindOf x≠some .local ->
  bindC kindOf (P.zip a) m x=some v
 |[],_,_,_,_,h,_,_=>by simp at h
 |_::_,[],_,_,_,_,h,_=>by simp at h
 |p::P,w::a,0,m,nd,h1,h2,hk=>by
  simp at h1 h2;subst h1;subst h2
  show bindC kindOf ((p,w)::P.zip a) m p=_;unfold bindC;rw[QR λv b=>(iB.mp nd).1 (Ob b).1,if_neg hk];simp
 |p::P,w::a,i+1,m,nd,h1,h2,hk=>by
  show bindC kindOf ((p,w)::P.zip a) m x=_;unfold bindC;exact QP (i:=i) (iB.mp nd).2 (by simpa using h1) (by simpa using h2) hk
def start(N:List Str) (a:List V):St:=a.map some++List.replicate (N.length-a.length) none
def gs(g:vD) (P:Program) (w:World) (K:Fg) (mg:Str->Option Value) (base:Heap) (N:List Str) (b:Str) (a:Scope) (f:Addr) (d:Value) (A:Around) (outer:List Env) (s:Shared) (H:Hp) (E:XK):Cx where
 prog:=P
 w:=w
 K:=K
 mg:=mg
 base:=base
 A:=A.deeper (envOfC b a s.heap.objs.size f d)
 N:=N
 s₀:=s
 H₀:=H
 env:=envOfC b a s.heap.objs.size f d
 outer:=outer
 stack:=envOfC b a s.heap.objs.size f d::outer
 ex:=[]
 calm:=true
 fn:=λ_=>true
 pn:=[]
 xe:=λe h=>wpAny (model P w) (A.deeper (envOfC b a s.heap.objs.size f d)) (leaving (envOfC b a s.heap.objs.size f d) e) (λ_ c=>g outer H s E e c) (λi c=>g outer H s E i c) h
theorem Qc{a:Scope}(h:a.names.lookup x=some .cell):∃c,(cellsFrom n a.names []).lookup x=some c:=by
 have q:=W.cellsFrom_some a.names n [] (.inl h);exact Option.isSome_iff_exists.mp q
theorem NJ{K:Fg}{N:List Str}{A:Around}{l:List V}
  (S:cV N ps scope)(J:A.handled=none)(g:kb P w K mg base A outer s H)(X:l.length=ps.length)(r:aj l us)
  (x:InCallC s s.heap.objs.size (bindL (envOfC qual scope s.heap.objs.size f cd).kindOf (ps.zip us) λ_=>none) (cellsFrom (s.heap.objs.size+1) scope.names []) (bindC (envOfC qual scope s.heap.objs.size f cd).kindOf (ps.zip us) λ_=>none) s1):
  Inv (gs CX P w K mg base N qual scope f cd A outer s H E) [] (start N l) H s1:=by
 have Q:ps.length<=N.length:=by have:=congrArg List.length S.pre;rw[fj] at this;lia
 obtain⟨t,U,rfl,G⟩:=x.done;have j:∀b:Addr,b∉(gs CX P w K mg base N qual scope f cd A outer s H E).ex:=λb z=>absurd (show b∈([]:List Addr) from z) (by simp)
 refine⟨⟨g.mod,S.kind,rfl,rfl,bj _,λy z c t d=>?_,λy hy=>?_,λy c _ h=>?_,λ_=>J,Around.frames_deeper g.frames,.inr ⟨rfl,rfl⟩,λb z=>absurd z (j b),g.bs,g.bsz,λb _ _=>j b,λb z=>absurd z (j b),g.funs,g.frf⟩,
  rfl,g.bare,Un.kept G,⟨_,x.toInCall.ns,λi y v t d Y=>?_⟩,λy c h=>⟨_,x.cell y c h⟩,g.hok.fresh (bj _),λy c h=>?_,λp o=>absurd (show p∈([]:List (Addr×Obj)) from o) (by simp),g.hok.kept G,?_,ui.none J⟩
 ·exact name_of_addr x.apart (vm t) (vm d)
 ·have hy:scope.names.lookup y=some .cell\/scope.names.lookup y=some .free:=hy;rcases hy with hy|hy
  ·exact Qc hy
  ·exact absurd rfl (S.nofree _ (vm hy))
 ·exact dL (x.above y c (vm h))
 ·have C:i<l.length:=by
   unfold start at d;by_cases C:i<l.length
   ·exact C
   ·rw[me (by simpa using C)] at d;rw[List.getElem?_replicate] at d;split at d<;>cases d
  have R:l[i]?=some v:=by
   unfold start at d;rw[eR (by simpa using C),fq] at d;cases e:l[i]? with
   |none=>rw[e] at d;cases d
   |some a=>rw[e] at d;cases d;rfl
  obtain⟨u,I,T⟩:=r.get R;have o:ps[i]?=some y:=by
   rw[←S.pre,OM (by lia)];exact t
  have m:ps.Nodup:=by rw[←S.pre];exact S.nd.sublist (DL _ _)
  refine⟨u,T,?_⟩;rcases S.par y (db o) with k|k
  ·exact .inl ⟨k,QS m o I k⟩
  ·obtain⟨c,e⟩:=Qc (n:=s.heap.objs.size+1) k;refine .inr ⟨.inl k,c,e,?_⟩;have q:=x.cell y c e;rw[QP m o I (by show scope.names.lookup y≠_;rw[k];decide)] at q;exact q
 ·exact g.hok.fresh (dL (x.above y c (vm h)))
 ·unfold start;show _=N.length;rw[cx,az,zG];lia
theorem Gh{K:Fg}{kV:Value}
     {N:List Str}(lk:K.lookup f=some ⟨oc,od,.func (W.fnOf name qual params body scope dV kV doc pm an cdv ct),osl⟩)(C:W.codeIn K cdv qual=true)(S:cV N ps scope)
    (len:∀ d H Q E,sp d H Q E->d.length=ps.length)
    (h:∀(A:Around) (a:List Env) (s:Shared) (H:Hp) (d:List V) (Q:VK) (E:XK),bR k (A.deeper (envOfC qual scope s.heap.objs.size f cdv))->sp d H Q E ->
      ∃ t,jC (gs CX P w K mg base N qual scope f cdv A a s H E) body t/\t { nx:=λ_ g=>Q .non g,rt:=Q } (start N d) H):
    gf P w K mg base CX (k + 1) f (W.fnOf name qual params body scope dV kV doc pm an cdv ct) ps sp:=by
  refine⟨len,λA a s H X us d Q E G p Y r l=>?_⟩;have hl:=len _ _ _ _ l;have U:K.In s.heap:=p.mod.kin.keeps λb o e=>(p.bs b o e).1
  have z:s.heap.NoLimit:=p.mod.nolimit.keeps λb o e=>(p.bs b o e).1
  have i:∀ y∈ps.zip us,scope.names.lookup y.1=some .local\/(scope.names.lookup y.1=some .cell/\((cellsFrom (s.heap.objs.size + 1) scope.names []).lookup y.1).isSome=true):=λR hy=>by
    obtain⟨n,v⟩:=R;rcases S.par n (Ob hy).1 with q|q
    · exact .inl q
    · exact .inr ⟨q,W.cellsFrom_some _ _ _ (.inl q)⟩
  refine codeAny_call_function G.depth (U _ _ lk) rfl S.co S.gen rfl (W.codeRec_of U C) (Y _ _ _ _ ?_);refine wpAny_newFunctionEnv_cells S.kind i λa0 he s1 x=>?_
  subst he;refine⟨z.keeps x.toInCall.keep,codeAny_func ?_⟩;obtain⟨t,ht,hq⟩:=h A a s H d Q E (G.deeper _) l;have I:Inv (gs CX P w K mg base N qual scope f cdv A a s H E) [] (start N d) H s1:=NJ S G.hd p hl r x;refine iA (ht [] s1 (start N d) H _ I hq) (λfl s' j=>?_) λe s' j=>j
  have m:∀{c:St}{g:Hp}{v:V}{u:Value},Inv (gs CX P w K mg base N qual scope f cdv A a s H E) [] c g s'->RelV v u->Q v g->CE a P w H s Q u s':=
    λ{c g v u} J T q=>⟨v,g,J.os,J.bare,J.base,J.hok,T,q⟩
  cases fl with
  |ret u=>
    obtain⟨v,c,g,J,T,q⟩:=j;exact m J T q
  |next=>
    obtain⟨c,g,J,q⟩:=j;exact m (v:=V.non) (u:=Value.none) J rfl q
  |brk=>
    obtain⟨_,_,_,q⟩:=j;exact False.elim q
  |cont=>
    obtain⟨_,_,_,q⟩:=j;exact False.elim q
def Eb(r:List V->Hp->VK->Prop) (t:TA):TE:=λb H Q=>t b H λa H1=>r a H1 Q
theorem ME{id:String}(n:bV X (.builtin id) r)(m:Gl X x)(i:X.mg x=none)(q:bootBuiltins x=some (.builtin id))(f:PA X (e::es) t)(g:x≠"__name__":=by decide)(b:(x==("__debug__" : Str))=false:=by decide)
  (u:starEach (e::es) X.env=(false,eval e X.env)::starEach es X.env:=by rfl)(a:(backTo pos (starEach es X.env)).any (·.1)=false:=by rfl):PE X (.Call (.Name x p) (e::es) [] pos) (Eb r t):=by
 intro c s d H Q I h;refine pB (lQ I m i q ?_ g b);exact PyProof.Rows.callWith_builtin1 (bi (f pos c s d H _ I h) λw l ⟨v,H1,j,k,o⟩=>n c l d H1 v w Q j k o) u a
theorem SZ{T:String}(n:bV X (.type T) r)(m:Gl X x)(i:X.mg x=none)(q:bootBuiltins x=some (.type T))(f:PA X (e::es) t)(g:x≠"__name__":=by decide)(b:(x==("__debug__" : Str))=false:=by decide)
  (u:starEach (e::es) X.env=(false,eval e X.env)::starEach es X.env:=by rfl)(a:(backTo pos (starEach es X.env)).any (·.1)=false:=by rfl):PE X (.Call (.Name x p) (e::es) [] pos) (Eb r t):=by
 intro c s d H Q I h;refine pB (lQ I m i q ?_ g b);exact sX (bi (f pos c s d H _ I h) λw l ⟨v,H1,j,k,o⟩=>n c l d H1 v w Q j k o) u a
end L2
namespace HT
open PyProof.Rows
noncomputable def lexLt:List Int->List Int->Bool
 |[],[]=>false
 |[],_::_=>true
 |_::_,[]=>false
 |x::xs,y::ys=>if x=y then lexLt xs ys else decide (x<y)
theorem rB(x y:Int)(a b:List Int):lexLt (x::a) (y::b)=if x=y then lexLt a b else decide (x<y):=rfl
theorem Db:lexLt [] []=false:=rfl
theorem wC(y:Int)(a:List Int):lexLt [] (y::a)=true:=rfl
theorem Di(x:Int)(a:List Int):lexLt (x::a) []=false:=rfl
theorem Qk(A:Around)(s:Shared)(a:Int)(t:Tok)(c:Int)(u:Tok):∃e,SeqAt.EqAt A s (.int a t) (.int c u) e/\(e=true↔a=c):=
 ⟨(a==c),SeqAt.EqAt.int_int a t c u,by simp⟩
theorem MZ(A:Around)(s:Shared)(a:Int)(t:Tok)(c:Int)(u:Tok)(b:Program)(w:World)(E:Value->Shared->Prop)(Q:Value->Shared->Prop)(h:Q (.bool (decide (a<c))) s):
  wpAny (model b w) A (richCompare .Lt (.int a t) (.int c u)) Q E s:=
 (PyProof.Rows.lt_int h:wpAny (model b w) A (compareOp .Lt (.int a t) (.int c u)) Q E s)
section
open SeqAt
open PySem.AutoSeq1 (wpAny_loadPart')
open MeetsSeq MeetsSeq2 MeetsSeq3
theorem R9(l b:Addr)(i f:Array Value)(n n2:Nat)(dd U:Option Addr)(sl Y:Array (Option Value))(S I:List Int)(hi:IntsAre i.toList S)(hj:IntsAre f.toList I):
  Meets (Builtin.«tuple.__lt__» ⟨[.ref l,.ref b],[]⟩)
   (λ_ R s=>s.heap.get? l=some { cls:=.type "tuple",dict:=dd,data:=.seq i n,slots:=sl }/\s.heap.get? b=some { cls:=.type "tuple",dict:=U,data:=.seq f n2,slots:=Y } /\
    R (.ok (.ret (.bool (lexLt S I)))) s):=
 .of_wp λz w A R s h=>by
  obtain⟨Q,g,d,P,os⟩:=s;obtain⟨hl,hb,h⟩:=h
  have f2:=AutoSeq1.sub_tuple_tuple;have z1:i.size=S.length:=by rw[←hi.length];simp
  have z2:f.size=I.length:=by rw[←hj.length];simp
  wp_walk using D0 hl,D0 hb,wpAny_forIn_list _ (λv b s'=>b.1=none/\s'=⟨Q,g,d,P,os⟩/\∃(T J:List Value) (m k:List Int),v=T.zip J /\
   IntsAre T m/\IntsAre J k/\m.length+f.size=k.length+i.size/\R (.ok (.ret (.bool (lexLt m k)))) ⟨Q,g,d,P,os⟩) _
  case turn=>
   rintro⟨y,x⟩ v b s' ⟨E,rfl,T,J,m,k,o,G,p,j,C⟩;cases G with
   |nil=>rw[List.zip_nil_left] at o;cases o
   |cons a t hvi'=>
    cases p with
    |nil=>rw[List.zip_nil_right] at o;cases o
    |cons c u hwi'=>
     rw[y9] at o;injection o with a0 H
     injection a0 with hy hx
     subst hy hx;rw[rB] at C;simp only[dN] at j;obtain⟨e,he,r⟩:=Qk A.in1 ⟨Q,g,d,P,os⟩ a t c u;refine ab (he z w _ _ ?_);cases e with
     |true=>
      rw[if_pos (r.mp rfl)] at C
      wp_walk
      exact⟨rfl,rfl,_,_,_,_,H,hvi',hwi',by lia,C⟩
     |false=>
      rw[if_neg (λq=>absurd (r.mpr q) nX)] at C;have X:=MZ A.in1 ⟨Q,g,d,P,os⟩ a t c u z w
      wp_walk using X
      exact⟨_,rfl,by simpa using C⟩
  case fin=>
   rintro⟨b1,b2⟩ s' ⟨E,rfl,T,J,m,k,o,G,p,j,C⟩;simp only at E;subst E;have hv:lexLt m k=decide (i.size<f.size):=by
    cases G with
    |nil=>
     cases p with
     |nil=>
      simp only[pj] at j;rw[Db];exact(dM (by lia)).symm
     |cons c u hw=>
      simp only[pj,dN] at j;rw[wC];exact(eK (by lia)).symm
    |cons a t hv=>
     cases p with
     |nil=>
      simp only[pj,dN] at j;rw[Di];exact(dM (by lia)).symm
     |cons c u hw=>
      rw[y9] at o;cases o
   rw[hv] at C
   wp_walk
   exact⟨_,rfl,by simpa [Builtin.Tuple.tupleCompareSizes] using C⟩
  case h=>
   exact⟨rfl,rfl,i.toList,f.toList,S,I,rfl,hi,hj,by lia,h⟩
end
theorem RB{A:Around}{s:Shared}(z:IsTup s.heap l items)(p:IsTup s.heap b items2)(v:IntsAre items.toList ns)(q:IntsAre items2.toList ms)
  (o:A.units<cLine)(h:Q (.bool (lexLt ns ms)) s):wpAny (model prog w) A (compareOp .Lt (.ref l) (.ref b)) Q E s:=by
 obtain⟨⟨t,y,j,r⟩,i,g,n,k⟩:=id z;obtain⟨⟨m,e,data2,f⟩,a,c,u,d⟩:=id p;simp only at g k c d;subst g k c d;exact richCompare_meets_room (op:=.Lt) ⟨_,i,rfl⟩ ⟨_,a,rfl⟩ OA F.entry_tuple_lt (F.args_tuple_lt_2 _ _) (R9 l b items items2 n u y e r f ns ms v q)
  ⟨i,a,show Value.bool (lexLt ns ms)≠Value.notImplemented/\Q (.bool (lexLt ns ms)) s from⟨(λx=>nomatch x),h⟩⟩ o
theorem Jm{s:Shared}{d a:List Value}(x:IsTup s.heap t d.toArray)(v:IsTup s.heap b a.toArray)(q:d≠[])
  (z:a=[]->Q (.ref t) s)(y:a≠[]->Q (.ref s.heap.objs.size) { s with heap:=s.heap.push { cls:=.type "tuple",data:=.seq (d++a).toArray } })
  (k:d.length+a.length<=sizeLine):wpAny (model prog w) A (binaryOp .Add (.ref t) (.ref b)) Q E s:=by
 obtain⟨⟨cls,u,data,m⟩,j,l,n,o⟩:=id x;obtain⟨⟨p,f,data2,h⟩,c,g,r,i⟩:=id v;simp only at l o g i;subst l o g i;have e:d.toArray++a.toArray=(d++a).toArray:=by simp
 by_cases hw:a=[]
 ·exact concat_meets ⟨_,j,rfl⟩ ⟨_,c,rfl⟩ noFill_tuple_add seq_tuple_add OC OI (OL _ _)
   (tuple_addW1 t b d.toArray a.toArray n r u f m h (by simpa using q) (by simp[hw])) ⟨j,c,z hw⟩
 ·refine concat_meets ⟨_,j,rfl⟩ ⟨_,c,rfl⟩ noFill_tuple_add seq_tuple_add OC OI (OL _ _)
   (tuple_addW2 t b d.toArray a.toArray n r u f m h (by simpa using q) (by simpa using hw) (by rw[dR,dR];exact k)) ⟨j,c,?_⟩
  rw[e];exact y hw
noncomputable def cb(n d:Nat):Option Int->Nat
 |none=>d
 |some v=>if v<0 then(v+(n:Int)).toNat else min v.toNat n
theorem QD(n d:Nat):cb n d none=d:=rfl
theorem yB(n d k:Nat):cb n d (some (k:Int))=min k n:=by
 show(if(k:Int)<0 then((k:Int)+(n:Int)).toNat else min (k:Int).toNat n)=min k n;rw[if_neg (by lia),nW]
theorem IR(n d:Nat)(a:d<=n)(o:Option Int):cb n d o<=n:=by
 cases o with
 |none=>exact a
 |some v=>
  show(if v<0 then(v+(n:Int)).toNat else min v.toNat n)<=n;by_cases hv:v<0
  ·rw[if_pos hv];lia
  ·rw[if_neg hv];exact ko _ _
theorem xT(v:Int)(n d:Nat):(if v<0 then max (v+(n:Int)) 0 else min v (n:Int))=((cb n d (some v):Nat):Int):=by
 show(if v<0 then max (v+(n:Int)) 0 else min v (n:Int))=(((if v<0 then(v+(n:Int)).toNat else min v.toNat n):Nat):Int)
 by_cases hv:v<0
 ·simp only[if_pos hv];lia
 ·simp only[if_neg hv];lia
theorem Tx(lo a:Option Int)(n:Nat):Builtin.Slice.sliceAdjust lo a 1 (n:Int)=(((cb n 0 lo:Nat):Int),((cb n n a:Nat):Int)):=by
 have b:¬ ((1:Int)<0):=by lia
 unfold Builtin.Slice.sliceAdjust;simp only[b,jm];refine Prod.ext ?_ ?_
 ·cases lo with
  |none=>rfl
  |some v=>exact xT v n 0
 ·cases a with
  |none=>rfl
  |some v=>exact xT v n n
theorem T7(i j:Nat):Builtin.Slice.slicePlaces (i:Int) (j:Int) 1=j-i:=by
 unfold Builtin.Slice.slicePlaces;have a:(1:Int) > 0:=by lia
 simp only[a,h8,Int.ediv_one];split<;>lia
theorem RE(p:IsPart v o)(h:Q o s):wpAny (model prog w) A (Builtin.Slice.slicePartIndex v) Q E s:=by
 cases p with
 |none=>exact slicePart_none h
 |int i t=>exact slicePart_int h
theorem Sl{s:Shared}{lo c:Option Int}{n:Nat}(d:s.heap.IsSliceOf sl vl vu .none)(e:IsPart vl lo)(g:IsPart vu c)
  (h:Q (((cb n 0 lo:Nat):Int),1,cb n n c-cb n 0 lo) s):wpAny (model prog w) A (Builtin.Slice.sliceApplied (.ref sl) (pure (n:Int))) Q E s:=by
 obtain⟨os,a,f,b⟩:=id d;unfold Builtin.Slice.sliceApplied Builtin.Slice.sliceFields;refine ab (ab (jG a b (x:=vl) rfl (ab (jG a b (x:=vu) rfl (ab (jG a b (x:=.none) rfl (aq ?_)))))));refine ab (slicePart_none ?_);show wpAny _ _ (if((1:Int)==0)=true then _ else _) _ _ s;rw[if_neg (by decide)];refine ab (RE e (ab (RE g (ab (aq ?_)))));show wpAny _ _ (match Builtin.Slice.sliceAdjust lo c 1 (n:Int) with|(lo,c)=>pure (lo,(1:Int),Builtin.Slice.slicePlaces lo c 1)) _ _ s;rw[Tx lo c n];show wpAny _ _ (pure (((cb n 0 lo:Nat):Int),(1:Int),Builtin.Slice.slicePlaces ((cb n 0 lo:Nat):Int) ((cb n n c:Nat):Int) 1)) _ _ s;rw[T7];exact aq h
theorem MQ(a:Array Value)(i k:Nat):((List.range k).filterMap λ(m:Nat)=>a[((i:Int)+(m:Int)*1).toNat]?).toArray=((a.toList.drop i).take k).toArray:=by
 have e:(λ(m:Nat)=>a[((i:Int)+(m:Int)*1).toNat]?)=λm=>a[i+m]?:=by
  funext m
  have:((i:Int)+(m:Int)*1).toNat=i+m:=by lia
  rw[this]
 rw[e];have:=pick_run a i k;rw[List.filterMap_map] at this;have b:((λx=>a[x]?) ∘ λx=>i+x)=λm=>a[i+m]?:=rfl
 rw[b] at this;rw[this]
theorem Vq{s:Shared}{lo:Option Int}(b:IsTup s.heap t items)(g:s.heap.IsSliceOf sl vl vu .none)(j:IsPart vl lo)(i:IsPart vu hi)
  (n:¬ (cb items.size 0 lo=0/\cb items.size items.size hi=items.size))
  (h:Q (.ref s.heap.objs.size) { s with heap:=s.heap.push { cls:=.type "tuple",data:=.seq ((items.toList.drop (cb items.size 0 lo)).take (cb items.size items.size hi-cb items.size 0 lo)).toArray } })
  (l:items.size<=sizeLine):wpAny (model prog w) A (getItem (.ref t) (.ref sl)) Q E s:=by
 have a:sizeOk (.seq ((items.toList.drop (cb items.size 0 lo)).take (cb items.size items.size hi-cb items.size 0 lo)).toArray):=by
  show((items.toList.drop (cb items.size 0 lo)).take (cb items.size items.size hi-cb items.size 0 lo)).toArray.size<=sizeLine;rw[dR,fj,py,gF];lia
 have o:cb items.size items.size hi<=items.size:=IR _ _ (bj _) hi;obtain⟨os,c,f,k⟩:=id g;have d:s.TypeIs (.ref sl) "slice":=⟨os,c,f⟩
 unfold getItem
 try with_reducible refine iV ?_
 first|refine ab (aq ?_)|skip
 refine ab (wpAny_sequenceKey b.typeIs (by decide) ?_)
 refine ab (wpAny_callSpecial?_slot (name:=Str.ofString "__getitem__") b.typeIs OS
  (li OS b.typeIs entry_tuple_getitem ?_ (args_tuple_getitem _ _)))
 show wpAny _ _ (Builtin.Tuple.tupleItemsOf (.ref t) >>= _) _ _ s;refine ab (tupleItemsOf_ b ?_);refine ab (yO d ?_);rw[if_pos (by decide)];refine ab (Sl g j i ?_);have e:¬ ((((cb items.size 0 lo:Nat):Int)==0&&(1:Int)==1&&(cb items.size items.size hi-cb items.size 0 lo)==items.size)=true):=by
  intro q;rw[gE,gE] at q;have p:((cb items.size 0 lo:Nat):Int)=0:=eq_of_beq q.1.1;have r:cb items.size items.size hi-cb items.size 0 lo=items.size:=eq_of_beq q.2;exact n ⟨by lia,by lia⟩
 show wpAny _ _ (if(((cb items.size 0 lo:Nat):Int)==0&&(1:Int)==1&&(cb items.size items.size hi-cb items.size 0 lo)==items.size)=true then _ else _) _ _ s;rw[if_neg e,MQ]
 first
  |exact ab (m:=Builtin.Tuple.tupleExact _) (kq (aq ⟨_,rfl,aq h⟩) a)
  |exact ab (m:=Builtin.Tuple.tupleExact _) (kq (ab (aq (aq ⟨_,rfl,aq h⟩))) a)
  |exact ab (ab (m:=Builtin.Tuple.tupleExact _) (kq (aq (aq ⟨_,rfl,aq h⟩)) a))
  |exact ab (ab (m:=Builtin.Tuple.tupleExact _) (kq (aq ⟨_,rfl,aq h⟩) a))
end HT
namespace L2
open Spec PyProof.Rows
abbrev TO:=St->Hp->(Option Int->Hp->Prop)->Prop
def PO(X:Cx) (e:Option Expr) (t:TO):Prop:=
 ∀(b:List (Addr×Obj)) (s:Shared) (a:St) (H:Hp) (Q:Option Int->Hp->Prop),Inv X b a H s->t a H Q ->
  wpAny (model X.prog X.w) X.A (evalPart e X.env) (λu d=>∃o c,Inv X b a c d/\IsPart u o/\Q o c) X.xe s
def pN:TO:=λ_ H Q=>Q none H
def zM(t:TE):TO:=λa H Q=>t a H λx H1=>∃i,x=.int i/\Q (some i) H1
theorem uR{ns:List Int}:∀{a:List Value},aj (ns.map V.int) a->IntsAre a ns:=by
 induction ns with
 |nil=>intro a r;rw[Dq] at r;cases r;exact .nil
 |cons n ns ih=>
  intro a r;rw[cf] at r;cases r with
  |cons r1 r2=>
   obtain⟨t,e⟩:=r1;subst e;exact .cons n t (ih r2)
theorem KM:PO X none pN:=by
 intro a s b H Q I h;rw[evalPart_none];exact aq ⟨none,H,I,.none,h⟩
theorem KN(h:PE X e te):PO X (some e) (zM te):=by
 intro b s j H Q I g;rw[evalPart_some];refine bi (h b s j H _ I g) λu k a=>?_
 obtain⟨x,H1,c,d,f⟩:=a;obtain⟨i,rfl,q⟩:=f;obtain⟨t,rfl⟩:=d;exact⟨some i,H1,c,.int i t,q⟩
def qX(X:Cx) (r:V->Option Int->Option Int->Hp->VK->Prop):Prop:=
 ∀(a:List (Addr×Obj)) (s:Shared) (f:St) (H:Hp) (x:V) (v b c:Value) (lo e:Option Int) (d:Addr) (Q:VK),Inv X a f H s->RelV x v->s.heap.IsSliceOf d b c .none->IsPart b lo->IsPart c e->r x lo e H Q ->
  ∃ T id,typeLookup (.type T) "__getitem__"=pure (some (.builtin id))/\s.TypeIs v T/\wpAny (model X.prog X.w) X.A (getItem v (.ref d)) (EP X a f Q) X.xe s
section
variable {lo:Option Expr}
theorem qX.or(h:qX X r)(l:qX X r'):qX X (λx lo a H Q=>r x lo a H Q\/r' x lo a H Q):=by
 intro b s k H x v c d lo a e Q I i f g j q;rcases q with q|q
 ·exact h b s k H x v c d lo a e Q I i f g j q
 ·exact l b s k H x v c d lo a e Q I i f g j q
end
def VZ(r:V->Option Int->Option Int->Hp->VK->Prop) (c:TE) (d b:TO):TE:=λa H Q=>c a H λx H1=>d a H1 λl H2=>b a H2 λu H3=>r x l u H3 Q
theorem MN{lo:Option Expr}(y:qX X r)(P:PE X e te)(S:PO X lo tl)(k:PO X hi th):PE X (.Subscript e (.Slice lo hi none p2) pos) (VZ r te tl th):=by
 intro f s d H Q I h;refine Subscript_ (bi (P f s d H _ I h) λv m c=>?_);obtain⟨x,H1,R,J,E⟩:=c;refine wpAny_Slice (bi (S f m d H1 _ R E) λi z ⟨l,H2,A,p,t⟩=>bi (k f z d H2 _ A t) λg a c=>?_);obtain⟨u,H3,j,G,U⟩:=c;rw[evalPart_none];refine aq ?_;have w:Inv X f d H3 { a with heap:=a.heap.push { cls:=.type "slice",data:=.fields #[i,g,.none] } }:=j.kept (t':=a.toks) λb Y q=>cg _ q
 obtain⟨T,id,n,C,o⟩:=y f { a with heap:=a.heap.push { cls:=.type "slice",data:=.fields #[i,g,.none] } } d H3 x v i g l u a.heap.objs.size Q w J (Heap.IsSliceOf.new ..) p G U
 show wpAny (model X.prog X.w) X.A (subscriptTail e (.Slice lo hi none p2) v (.ref a.heap.objs.size)) (EP X f d Q) X.xe { a with heap:=a.heap.push { cls:=.type "slice",data:=.fields #[i,g,.none] } }
 exact tail_any (ops:=[.ref a.heap.objs.size,v]) C n o (by with_unfolding_all rfl)
def hU(a:List V) (lo b:Option Int):List V:=(a.drop (HT.cb a.length 0 lo)).take (HT.cb a.length a.length b-HT.cb a.length 0 lo)
theorem RJ(a:List V)(lo b:Option Int):(hU a lo b).length<=a.length:=by
 unfold hU;rw[fj,py];lia
def Pb(K:Fg):V->Option Int->Option Int->Hp->VK->Prop:=λx lo c H Q=>∃a b,x=.ref a/\bH K H a b /\
 ¬ (HT.cb b.length 0 lo=0/\HT.cb b.length b.length c=b.length)/\∀p,H p=none->Q (.ref p) (ar H p (.tup (hU b lo c)))
theorem IV:qX X (Pb X.K):=by
 intro u s A H x v w t lo f y Q I m j l n h;obtain⟨a,d,rfl,k,p,q⟩:=h;cases m;obtain⟨e,r,i,g⟩:=I.tuple k;have c:e.toArray.size=d.length:=by rw[dR];exact r.length.symm
 refine⟨"tuple",_,OS.lookup,i.typeIs,?_⟩
 refine HT.Vq i j l n (by rw[c];exact p) ?_ (by rw[c];exact g);rw[c];refine⟨.ref s.heap.objs.size,_,I.laid (t':=s.toks) (o:=.tup (hU d lo f)) (λb z q=>cg _ q) (bj _) ?_,rfl,q _ (I.hok.fresh (bj _))⟩;exact⟨ay (RJ d lo f) g,_,(r.drop (HT.cb d.length 0 lo)).take (HT.cb d.length d.length f-HT.cb d.length 0 lo),IsTup.new _ _⟩
def AB(K:Fg):R2:=λx y H Q=>∃a b d c,x=.ref a/\y=.ref b/\bH K H a (d.map V.int)/\bH K H b (c.map V.int)/\Q (.bl (HT.lexLt d c)) H
theorem Ih{X:Cx}(f:X.A.units<cLine):dH X (compareOp .Lt) (AB X.K):=by
 intro r s t H x y v u Q I j m h;obtain⟨a,b,ns,ms,rfl,rfl,e,l,q⟩:=h;cases j;cases m;obtain⟨d,k,p,_⟩:=I.tuple e;obtain⟨c,o,n,_⟩:=I.tuple l;have g:IntsAre d.toArray.toList ns:=uR k;have i:IntsAre c.toArray.toList ms:=uR o;exact HT.RB p n g i f ⟨.bl (HT.lexLt ns ms),H,I,rfl,q⟩
def AH(K:Fg):R2:=λx y H Q=>∃a b d c,x=.ref a/\y=.ref b/\bH K H a d/\bH K H b c/\d≠[]/\d.length+c.length<=sizeLine /\
 (c=[]->Q (.ref a) H)/\(c≠[]->∀p,H p=none->Q (.ref p) (ar H p (.tup (d++c))))
theorem aj.nil_iff(r:aj xs us):us=[]↔xs=[]:=by
 cases r with
 |nil=>simp
 |cons _ _=>simp
theorem Ky:dH X (binaryOp .Add) (AH X.K):=by
 intro J s G H x y v u Q I A t h;obtain⟨a,b,p,g,rfl,rfl,r,i,C,f,n,k⟩:=h;cases A;cases t;obtain⟨m,d,l,_⟩:=I.tuple r;obtain⟨e,c,j,_⟩:=I.tuple i;refine HT.Jm l j (λz=>C (d.nil_iff.mp z)) (λz=>⟨.ref a,H,I,rfl,n (c.nil_iff.mp z)⟩) (λz=>?_) (by rw[←d.length,←c.length];exact f);refine⟨.ref s.heap.objs.size,_,I.laid (t':=s.toks) (o:=.tup (p++g)) (λb E q=>cg _ q) (bj _) ?_,rfl,k (λw=>z (c.nil_iff.mpr w)) _ (I.hok.fresh (bj _))⟩;exact⟨by rw[cx];exact f,_,d.append c,IsTup.new _ _⟩
noncomputable def kH(n:Nat) (i:Int):Option Nat:=if 0<=i then(if i<n then some i.toNat else none) else if -(n:Int)<=i then some (i+n).toNat else none
def atI{α:Type}(a:List α) (i:Int):Option α:=(kH a.length i).bind λj=>a[j]?
theorem yg(h:kH n i=some j):seqIndex? i n=some j/\j<n/\-(n:Int)<=i/\i<n:=by
 unfold kH at h;by_cases h0:0<=i
 ·rw[if_pos h0] at h;by_cases h1:i<n
  ·rw[if_pos h1] at h;have e:i.toNat=j:=fW h;exact⟨by rw[seqIndex_of h0 h1,e],by lia,by lia,h1⟩
  ·rw[if_neg h1] at h;cases h
 ·rw[if_neg h0] at h;by_cases h1:-(n:Int)<=i
  ·rw[if_pos h1] at h;have e:(i+n).toNat=j:=fW h;exact⟨by rw[seqIndex_neg (by lia) h1,e],by lia,h1,by lia⟩
  ·rw[if_neg h1] at h;cases h
theorem El{b:Type}{a:List b}{v:b}(h:atI a i=some v):∃j,seqIndex? i a.length=some j/\a[j]?=some v/\j<a.length/\-(a.length:Int)<=i/\i<a.length:=by
 unfold atI at h;cases e:kH a.length i with
 |none=>rw[e] at h;cases h
 |some j=>
  rw[e] at h;obtain⟨c,g,f,d⟩:=yg e;exact⟨j,c,h,g,f,d⟩
theorem B1{a:Type}{xs:List a}{j:Nat}{v:a}(h:xs[j]?=some v):atI xs (j:Int)=some v:=by
 have b:j<xs.length:=(cn.mp h).1;have e:kH xs.length (j:Int)=some j:=by
  unfold kH;rw[if_pos (by lia),if_pos (by lia)];simp
 unfold atI;rw[e];exact h
noncomputable def jd(b:Expr):Prop:=∀o i,subscripted b false o i=operate [o,i] (getItem o i)
def pY(X:Cx) (r:R2):Prop:=
 ∀(b a:Expr) (c:List (Addr×Obj)) (s:Shared) (d:St) (H:Hp) (x y:V) (v u:Value) (Q:VK),Inv X c d H s->RelV x v->RelV y u->r x y H Q ->
  subscripted a false v u=operate [v,u] (getItem v u)->wpAny (model X.prog X.w) X.A (subscriptTail b a v u) (EP X c d Q) X.xe s
def BM(X:Cx) (id:String) (r:V->List V->Hp->VK->Prop):Prop:=
 ∀(a:List (Addr×Obj)) (s:Shared) (d:St) (H:Hp) (x:V) (b:List V) (v:Value) (c:List Value) (Q:VK),Inv X a d H s->RelV x v->aj b c->r x b H Q ->
  wpAny (model X.prog X.w) X.A (call (.builtin id) (v::c)) (EP X a d Q) X.xe s
theorem pY.or(h:pY X r)(i:pY X r'):pY X (λx y H Q=>r x y H Q\/r' x y H Q):=by
 intro a b c s g H x y v u Q I f e q d;rcases q with q|q
 ·exact h a b c s g H x y v u Q I f e q d
 ·exact i a b c s g H x y v u Q I f e q d
theorem Gw(d:pY X r)(e:PE X a ta)(j:PE X b tb)(g:jd b):PE X (.Subscript a b pos) (zN r ta tb):=by
 intro c s m H Q I h;exact Subscript_ (tW e j I h λv u f x y H2 i l k q=>d a b c f m H2 x y v u Q i l k q (g _ _))
def AF(K:Fg):R2:=λx y H Q=>∃p a i v,x=.ref p/\y=.int i/\du K H p a/\atI a i=some v/\Q v H
def AD(K:Fg):R2:=λx y H Q=>∃p a i v,x=.ref p/\y=.int i/\bH K H p a/\atI a i=some v/\Q v H
def AE:R2:=λx y H Q=>∃z i c,x=.str z/\y=.int i/\z.length<=sizeLine/\atI z.cps.toList i=some c/\Q (.str ⟨#[c]⟩) H
theorem J8:pY X (AF X.K):=by
 intro k e n s m H x y v u Q I G A h l;obtain⟨p,xs,i,z,rfl,rfl,P,J,q⟩:=h;cases G;obtain⟨t,rfl⟩:=A;obtain⟨g,r,f,hz⟩:=I.list P;obtain⟨j,b,R,Y,C,E⟩:=El J;obtain⟨w,o,d⟩:=r.get R;have S:=r.length;have U:=eF;have a:EP X n m Q w s:=⟨z,H,I,d,q⟩
 by_cases h0:0<=i
 ·have c:i.toNat=j:=by
   rw[seqIndex_of h0 E] at b;exact fW b
  exact item_listR f.isList h0 (by lia) (by rw[c];simpa using o) a l
 ·have c:(i+(g.toArray.size:Int)).toNat=j:=by
   rw[seqIndex_neg (by lia) C] at b;rw[dR,←S];exact fW b
  exact subscriptTail_builtinR (x:=w) f.isList.typeIs slot_list_getitem.lookup
   (wpAny_getItem_list_neg (Q:=λr T=>r=w/\EP X n m Q r T) f.isList (by lia) (by rw[dR]<;>lia) (by lia) (by rw[c];simpa using o) ⟨rfl,a⟩) l
theorem HE:pY X (AD X.K):=by
 intro c b g s f H x y v u Q I n m h l;obtain⟨p,T,i,z,rfl,rfl,A,o,q⟩:=h;cases n;obtain⟨t,rfl⟩:=m;obtain⟨k,r,e,hz⟩:=I.tuple A;obtain⟨j,P,C,S,U,Y⟩:=El o;obtain⟨w,E,a⟩:=r.get C;have G:=r.length;have R:=eF;have d:EP X g f Q w s:=⟨z,H,I,a,q⟩
 exact subscriptTail_builtinR (x:=w) e.typeIs DM.lookup
  (getItem_tuple (j:=j) (Q:=λr J=>r=w/\EP X g f Q r J) e (by lia) (by lia) (by rw[dR,←G];exact P) (by simpa using E) ⟨rfl,d⟩) l
theorem HD:pY X AE:=by
 intro b a G s E H x y v u Q I n k h g;obtain⟨z,i,c,rfl,rfl,J,o,q⟩:=h;obtain⟨t,rfl⟩:=n;obtain⟨C,rfl⟩:=k;obtain⟨j,d,p,A,l,m⟩:=El o;have r:z.cps.toList.length=z.length:=by simp[Str.length]
 rw[r] at d l m;have w:=eF
 exact tail_any (typeIs_str s z t) slot_str_getitem.lookup (getItem_str (c:=c) (by
  have e:decide (i < -(2^63:Int))=false:=dM (by lia);have f:decide (i ≥ 2^63)=false:=dM (by lia)
  rw[e,f,Bool.or_false]) (by rw[d];simpa using p) ⟨.str ⟨#[c]⟩,H,I.tok _,⟨_,rfl⟩,q⟩) g
def SB(K:Fg):R2:=λx y H Q=>AF K x y H Q\/AD K x y H Q\/AE x y H Q
theorem HC:pY X (SB X.K):=J8.or (HE.or HD)
theorem TV(a:List Value)(n j:Nat)(u:Value):Obj.mapSeq (·.setIfInBounds j u) { cls:=.type "list",data:=.seq a.toArray n }={ cls:=.type "list",data:=.seq (a.set j u).toArray n }:=by
 simp[Obj.mapSeq]
theorem Inv.lst(I:Inv X aW σ H s)(h:H p=some (.lst xs)):
  ∃(a:List Value) (n:Nat),aj xs a/\s.heap.get? p=some { cls:=.type "list",data:=.seq a.toArray n }/\xs.length<=sizeLine:=by
 obtain⟨z,a,n,r,e⟩:=I.hok p _ h;exact⟨a,n,r,e,z⟩
theorem Inv.lstUpd{c a:List Value}(I:Inv X aW σ H s)(h:H p=some (.lst xs))
  (g:s.heap.get? p=some { cls:=.type "list",data:=.seq c.toArray n })(d:f { cls:=.type "list",data:=.seq c.toArray n }={ cls:=.type "list",data:=.seq a.toArray n' })(r:aj ys a)(i:ys.length<=sizeLine)(t:Nat):
  Inv X aW σ (ar H p (.lst ys)) {s with heap:=s.heap.update p f,toks:=t}:=by
 have e:(s.heap.update p f).get? p=some { cls:=.type "list",data:=.seq a.toArray n' }:=by
  rw[lq f g (by rw[d]<;>rfl),d]
 refine I.write (x:=p) (e:=p) (by rw[h];trivial) (.inl rfl) (λb u j q=>(og _ _ (cJ j)).trans q) ⟨_,e⟩ ?_;exact⟨i,a,n',r,e⟩
def zY:V->V->V->Hp->(Hp->Prop)->Prop:=λo i v H Q=>∃p a k j,o=.ref p/\i=.int k/\H p=some (.lst a)/\kH a.length k=some j/\Q (ar H p (.lst (a.set j v)))
theorem M8:BJ X zY:=by
 intro C s y H o i v S P u Q I A x G h;obtain⟨p,z,k,j,rfl,rfl,m,w,q⟩:=h;cases A;obtain⟨t,rfl⟩:=x;obtain⟨a,n,r,c,E⟩:=I.lst m;obtain⟨b,R,f,l⟩:=yg w;have e:=r.length;have J:=eF;have g:Inv X C y (ar H p (.lst (z.set j v))) {s with heap:=s.heap.update p (Obj.mapSeq (·.setIfInBounds j u))}:=
  I.lstUpd m c (TV a n j u) (r.set G j) (by rw[gR];exact E) s.toks
 by_cases h0:0<=k
 ·have d:k.toNat=j:=by
   rw[seqIndex_of h0 l] at b;exact fW b
  exact W.ki_setAt c h0 (by lia) (by rw[dR,←e];exact l) (by rw[d];exact⟨_,g,q⟩)
 ·have d:(k+(a.toArray.size:Int)).toNat=j:=by
   rw[seqIndex_neg (by lia) f] at b;rw[dR,←e];exact fW b
  exact W.ki_setBack c (by lia) (by rw[dR,←e];exact f) (by lia) (by rw[d];exact⟨_,g,q⟩)
theorem UX(lo a:Option Int)(n:Nat):(sliceBounds lo a none n).1=((HT.cb n 0 lo:Nat):Int)/\(sliceBounds lo a none n).2.1=((HT.cb n n a:Nat):Int)/\(sliceBounds lo a none n).2.2=1:=by
 refine⟨?_,?_,rfl⟩
 ·cases lo with
  |none=>simp[sliceBounds,HT.cb]
  |some i=>
   simp only[sliceBounds,HT.cb,Option.getD_none,show(1:Int) > 0 by decide,h8];by_cases h:i<0
   ·simp only[h,h8]<;>lia
   ·simp only[h,jm]<;>lia
 ·cases a with
  |none=>simp[sliceBounds,HT.cb]
  |some i=>
   simp only[sliceBounds,HT.cb,Option.getD_none,show(1:Int) > 0 by decide,h8];by_cases h:i<0
   ·simp only[h,h8]<;>lia
   ·simp only[h,jm]<;>lia
theorem U9(a:List Value)(lo b:Option Int):slicePick a.toArray lo b none=((a.drop (HT.cb a.length 0 lo)).take (HT.cb a.length a.length b-HT.cb a.length 0 lo)).toArray:=by
 obtain⟨c,e,d⟩:=UX lo b a.toArray.size;unfold slicePick;rw[c,e,d];simp only[sliceRange_one,pick_run,dR]<;>rfl
def Pc(K:Fg):V->Option Int->Option Int->Hp->VK->Prop:=λx lo c H Q=>∃a b,x=.ref a/\du K H a b/\∀p,H p=none->Q (.ref p) (ar H p (.lst (hU b lo c)))
theorem K5:qX X (Pc X.K):=by
 intro t s z H x v u p lo e w Q I m j l n h;obtain⟨a,c,rfl,k,q⟩:=h;cases m;obtain⟨g,r,f,i⟩:=I.list k;have d:=r.length;refine⟨"list",_,slot_list_getitem.lookup,f.isList.typeIs,?_⟩
 refine wpAny_getItem_list_slice f.isList j l n .none (by simp) ?_ (by rw[dR]<;>lia);rw[U9,←d];refine⟨.ref s.heap.objs.size,_,I.laid (t':=s.toks) (o:=.lst (hU c lo e)) (λb y q=>cg _ q) (bj _) ?_,rfl,q _ (I.hok.fresh (bj _))⟩;exact⟨ay (RJ c lo e) i,_,0,(r.drop (HT.cb c.length 0 lo)).take (HT.cb c.length c.length e-HT.cb c.length 0 lo),ez _ rfl⟩
theorem zt:bV X (.builtin "len") (λf H Q=>∃ p b,f=[.ref p]/\(du X.K H p b\/bH X.K H p b)/\Q (.int b.length) H):=by
 intro j s m H f l Q I r h;obtain⟨p,b,rfl,hq,q⟩:=h;obtain⟨u,rfl,i⟩:=vals1 r;cases i;have k:=eF;rcases hq with hq|hq
 ·obtain⟨c,d,e,g⟩:=I.list hq;have a:=d.length;exact Calls.call_len_list e.isList (by simp only[dR]<;>lia) ⟨.int b.length,H,I.tok _,⟨s.toks+1,by rw[dR,a]⟩,q⟩
 ·obtain⟨c,d,e,g⟩:=I.tuple hq;have a:=d.length;exact len_tuple e (by simp only[dR]<;>lia) ⟨.int b.length,H,I.tok _,⟨s.toks+1,by rw[dR,a]⟩,q⟩
theorem bV.or(h:bV X f r)(g:bV X f r'):bV X f (λa H Q=>r a H Q\/r' a H Q):=by
 intro b s e H a d Q I c q;rcases q with q|q
 ·exact h b s e H a d Q I c q
 ·exact g b s e H a d Q I c q
theorem UK:bV X (.type "list") (λz H Q=>∃ p d,z=[.ref p]/\(du X.K H p d\/bH X.K H p d)/\∀ l,H l=none->Q (.ref l) (ar H l (.lst d))):=by
 intro E s A H z G Q I r h;obtain⟨p,d,rfl,hq,q⟩:=h;obtain⟨u,rfl,C⟩:=vals1 r;cases C;have j:∀(a:List Value),aj d a->d.length<=sizeLine->∀(c:Heap) (f:Nat),(∀b y,s.heap.get? b=some y->c.get? b=some y) ->
   c.get? s.heap.objs.size=some { cls:=.type "list",dict:=none,data:=.seq a.toArray f,slots:=#[] }->EP X E A Q (.ref s.heap.objs.size) { s with heap:=c }:=λa g m c f i e=>
  ⟨.ref s.heap.objs.size,_,I.laid (t':=s.toks) i (bj _) (show ax X.prog X.w _ c _ (.lst d) from⟨m,a,f,g,e⟩),rfl,q _ (I.hok.fresh (bj _))⟩
 rcases hq with hq|hq
 ·obtain⟨a,g,v,m⟩:=I.list hq;have k:=g.length;obtain⟨o,w,t,n,x⟩:=v.isList;exact call_list_seq p (.inl rfl) w t x (λc f i e=>j a g m c f i e) (by simp only[dR]<;>lia)
 ·obtain⟨a,g,v,m⟩:=I.tuple hq;have k:=g.length;obtain⟨o,w,t,n,x⟩:=v;exact call_list_seq p (.inr rfl) w t x (λc f i e=>j a g m c f i e) (by simp only[dR]<;>lia)
theorem mC:bV X (.type "tuple") (λj H Q=>∃ p c,j=[.ref p]/\((du X.K H p c/\∀ l,H l=none->Q (.ref l) (ar H l (.tup c)))\/(bH X.K H p c/\Q (.ref p) H))):=by
 intro k s v H j z Q I r h;obtain⟨p,c,rfl,h⟩:=h;obtain⟨u,rfl,y⟩:=vals1 r;cases y;rcases h with⟨i,q⟩|⟨i,q⟩
 ·obtain⟨a,f,g,t⟩:=I.list i;have m:=f.length;refine call_tuple_list g.isList (λd w=>?_) (by simp only[dR]<;>lia);have n:Inv X k v H {s with heap:=d}:=I.kept (t':=s.toks) w;have x:Inv X k v (ar H d.objs.size (.tup c)) { s with heap:=d.push { cls:=.type "tuple",data:=.seq a.toArray } }:=
   n.laid (t':=s.toks) (λb o e=>cg _ e) (bj _) (show ax X.prog X.w _ _ _ (.tup c) from⟨t,a,f,IsTup.new _ _⟩)
  exact⟨.ref d.objs.size,_,x,rfl,q _ (n.hok.fresh (bj _))⟩
 ·obtain⟨a,f,g,t⟩:=I.tuple i;exact call_tuple_same g ⟨.ref p,H,I,rfl,q⟩
def OU(K:Fg) (T:String) (x:V) (H:Hp):Prop:=match x with
 |.str _=>T="str"
 |.int _=>T="int"
 |.ref p=>(T="list"/\∃ b,du K H p b)\/(T="tuple"/\∃ o,K.lookup p=some o/\o.cls=.type "tuple"/\o.dict=none) \/
  (T="dict"/\((∃ a,H p=some (.dK a))\/∃ a,H p=some (.dT a)))\/(T="set"/\∃ S n,H p=some (.set S n))
 |_=>False
theorem xM{T:String}(I:Inv X aW σ H s)(r:RelV x v)(f:OU X.K T x H):
  s.TypeIs v T/\∀a,v=.ref a->∃l,s.heap.get? a=some l/\l.dict=none:=by
 cases x with
 |str z=>
  obtain⟨t,rfl⟩:=r;cases(show T="str" from f)
  exact⟨typeIs_str s z t,λ_ e=>nomatch e⟩
 |int i=>
  obtain⟨t,rfl⟩:=r;cases(show T="int" from f)
  exact⟨typeIs_int s i t,λ_ e=>nomatch e⟩
 |ref p=>
  cases r;rcases f with⟨rfl,w,u⟩|⟨rfl,o,b,q,h⟩|⟨rfl,b⟩|⟨rfl,S,n,b⟩
  ·obtain⟨m,_,k,_⟩:=I.list u;refine⟨k.isList.typeIs,λa e=>?_⟩;cases e;obtain⟨o,n,e,c,h,_⟩:=k;exact⟨o,e,h⟩
  ·refine⟨⟨o,I.kIn p o b,q⟩,λa e=>?_⟩;cases e;exact⟨o,I.kIn _ o b,h⟩
  ·have z:∃o,s.heap.get? p=some o/\o.ExactDict:=by
    rcases b with⟨j,b⟩|⟨j,b⟩
    ·obtain⟨_,_,_,_,o,_,_,e,d,_⟩:=I.hok p _ b;exact⟨o,e,d⟩
    ·obtain⟨_,_,_,_,o,_,_,e,d,_⟩:=I.hok p _ b;exact⟨o,e,d⟩
   obtain⟨o,e,d⟩:=z;refine⟨⟨o,e,d.1⟩,λa g=>?_⟩;cases g;exact⟨o,e,d.2.1⟩
  ·obtain⟨o,_,_,_,e,d,_⟩:=I.hok p _ b;refine⟨⟨o,e,d.1⟩,λa g=>?_⟩;cases g;exact⟨o,e,d.2.1⟩
 |_=>exact False.elim f
def O7(K:Fg) (T:String) (r:V->List V->Hp->VK->Prop) (to:TE):TE:=λa H Q=>to a H λx H1=>OU K T x H1/\r x [] H1 Q
def V3(K:Fg) (T:String) (r:V->List V->Hp->VK->Prop) (to:TE) (t:TA):TE:=λa H Q=>to a H λx H1=>OU K T x H1/\t a H1 λb H2=>r x b H2 Q
theorem Ip{b:Pos}{a:Pos}{T:String}{id:String}(w:PlainAttrs T)(e:Slot T name id)(g:typeOf (.builtin id)=pure (.type "method_descriptor"))(m:BM X id r)(q:PE X o to)
  (d:attributeBase o name X.env (eval o X.env)=eval o X.env:=by rfl)(c:(b.endLine==a.line)=true:=by rfl):PE X (.Call (.Attribute o name b) [] [] a) (O7 X.K T r to):=by
 intro k s i H Q I h;refine wpAny_Call_method0_late d c (bi (q k s i H _ I h) λv n f=>?_);obtain⟨x,H1,l,j,p,t⟩:=f;obtain⟨y,u⟩:=xM l j p;exact⟨T,id,w,e,g,y,u,DZ rfl (PySem.evalArgs_none (m k n i H1 x [] v [] Q l j .nil t))⟩
theorem oV{c:Pos}{T:String}{id:String}(Y:PlainAttrs T)(i:Slot T name id)(n:typeOf (.builtin id)=pure (.type "method_descriptor"))(w:BM X id r)(C:PE X o to)(S:PA X (e::es) t)
  (f:attributeBase o name X.env (eval o X.env)=eval o X.env:=by rfl)
  (g:((backTo cpos (starEach (e::es) X.env)).all (λx=>!x.1)&&(backToKw cpos (keywordEach [] X.env)).all (λx=>x.1.isSome)
   && decide ((e::es).length+([]:List Keyword).length+(if([]:List Keyword).isEmpty then 0 else 1)<30))=true:=by rfl)
  (d:(c.endLine==cpos.line)=true:=by rfl)(J:starEach (e::es) X.env=(false,eval e X.env)::starEach es X.env:=by rfl)(b:(backTo cpos (starEach es X.env)).any (·.1)=false:=by rfl):
  PE X (.Call (.Attribute o name c) (e::es) [] cpos) (V3 X.K T r to t):=by
 intro l s k H Q I h;refine wpAny_Call_method_late f g d rfl (bi (C l s k H _ I h) λv y j=>?_);obtain⟨x,H1,q,p,z,R⟩:=j;obtain⟨E,U⟩:=xM q p z;refine⟨T,id,Y,i,n,E,U,?_⟩;have u:=S cpos l y k H1 _ q R;rw[J] at u ⊢;refine DZ (by show(false||(backTo cpos (starEach es X.env)).any (·.1))=false;rw[b]<;>rfl) (Ox ?_);exact bi u λus G ⟨vs,H2,P,r2,A⟩=>w l G k H2 x vs v us Q P p r2 A
def PY(X:Cx) (id:String) (r:V->List V->Hp->VK->Prop):Prop:=
 ∀(a:List (Addr×Obj)) (s:Shared) (d:St) (H:Hp) (x:V) (b:List V) (v:Value) (c:List Value) (Q:VK),Inv X a d H s->RelV x v->aj b c->r x b H Q ->
  wpAny (model X.prog X.w) X.A (call (.builtin id) (v::c)) (EP X a d Q) X.xe s
theorem aj.one:∀{x:V}{a:List Value},aj [x] a->∃u,a=[u]/\RelV x u
 |_,_,.cons r .nil=>⟨_,rfl,r⟩
theorem aj.zero:∀{a:List Value},aj [] a->a=[]
 |_,.nil=>rfl
theorem aj.dropLast(h:aj xs us):aj xs.dropLast us.dropLast:=by
 induction h with
 |nil=>exact .nil
 |cons r t ih=>
  cases t with
  |nil=>exact .nil
  |cons q t'=>exact .cons r ih
theorem TN{c:Type}(l:List c):l.eraseIdx (l.length-1)=l.dropLast:=by
 induction l with
 |nil=>rfl
 |cons a r ih=>
  cases r with
  |nil=>rfl
  |cons b r=>
   have e:(a::b::r).length-1=((b::r).length-1)+1:=by
    have d:(a::b::r).length=r.length+2:=rfl;have f:(b::r).length=r.length+1:=rfl;lia
   rw[e,D5,ih]
   all_goals rfl
theorem Inv.lset{a its':List Value}(I:Inv X aW σ H s)(g:H l=some (.lst xs))
  (e:s.heap.get? l=some { cls:=.type "list",data:=.seq a.toArray n })(i:f a.toArray=its'.toArray)(h:aj ys its')(c:ys.length<=sizeLine):
  Inv X aW σ (ar H l (.lst ys)) {s with heap:=s.heap.update l (Obj.mapSeq f),toks:=t'}:=by
 have q:=PySem.IsL.update e f;rw[i] at q;refine I.write (x:=l) (e:=l) (by rw[g];exact trivial) (.inl rfl) (λj u d b=>(og s.heap (Obj.mapSeq f) (cJ d)).trans b) ⟨_,q⟩ ?_;exact⟨c,its',_,h,q⟩
theorem Inv.lnew(I:Inv X aW σ H s)(b:aj ys its)(a:ys.length<=sizeLine):
  Inv X aW σ (ar H s.heap.objs.size (.lst ys)) { s with heap:=s.heap.push { cls:=.type "list",data:=.seq its.toArray },toks:=t' }:=
 I.laid (λ_ _ q=>cg _ q) (bj _) ⟨a,its,0,b,ez _ rfl⟩
theorem Inv.fresh(I:Inv X aW σ H s):H s.heap.objs.size=none:=I.hok.fresh (bj _)
theorem Inv.lstM(I:Inv X aW σ H s)(b:H l=some (.lst xs)):xs.length<=sizeLine/\∃(a:List Value) (n:Nat),aj xs a/\xs.length=a.length/\s.heap.get? l=some { cls:=.type "list",data:=.seq a.toArray n }:=by
 obtain⟨z,a,n,r,e⟩:=I.hok l _ b;exact⟨z,a,n,r,r.length,e⟩
theorem m4(h:n<=sizeLine):Builtin.List.listTooLong n=false:=by
 unfold Builtin.List.listTooLong;exact dM (by lia)
def pQ:V->List V->Hp->VK->Prop:=λx b H Q=>∃l a y,x=.ref l/\b=[y]/\H l=some (.lst a)/\a.length<sizeLine/\Q .non (ar H l (.lst (a++[y])))
theorem Q9:PY X "list.append" pQ:=by
 intro i s p H x m v o Q I f d h;obtain⟨l,g,y,rfl,rfl,b,j,q⟩:=h;cases f;obtain⟨u,rfl,c⟩:=d.one;obtain⟨z,a,n,r,k,e⟩:=I.lstM b;refine o9 F.slot_list_append ⟨_,e,rfl⟩ F.entry_list_append (F.args_list_append_2 _ _) (PySem.list_append l a.toArray n u (by rw[dR];lia)) ⟨e,?_⟩;refine⟨.non,_,I.lset (its':=a++[u]) b e (by simp) (r.append (.cons c .nil)) ?_,rfl,q⟩;rw[cx,zF];lia
def pP:V->List V->Hp->VK->Prop:=λx d H Q=>∃l b c a,x=.ref l/\d=[.ref b]/\H l=some (.lst c)/\H b=some (.lst a)/\c.length+a.length<=sizeLine/\Q .non (ar H l (.lst (c++a)))
theorem NW:PY X "list.extend" pP:=by
 intro G s A H x R v S Q I o t h;obtain⟨l,b,C,E,rfl,rfl,g,m,J,q⟩:=h;cases o;obtain⟨u,rfl,k⟩:=t.one;cases k;obtain⟨z,c,n,r,P,e⟩:=I.lstM g;obtain⟨y,a,p,w,i,j⟩:=I.lstM m;have f:c.toArray.size+a.toArray.size<=sizeLine:=by rw[dR,dR];lia
 have d:¬ (!c.toArray.isEmpty&&Builtin.List.listTooLong (c.toArray.size+a.toArray.size))=true:=by
  rw[m4 f,Bool.and_false];exact nX
 refine o9 F.slot_list_extend ⟨_,e,rfl⟩ F.entry_list_extend (F.args_list_extend_2 _ _)
  (AutoSeq1.list_extend_list_list_0 l c.toArray n b a.toArray p d (by rw[dR];lia) (by lia)) ⟨e,j,?_⟩
 refine⟨.non,_,I.lset (its':=c++a) g e (by simp) (r.append w) ?_,rfl,q⟩;rw[cx];lia
def Pe:V->List V->Hp->VK->Prop:=λx b H Q=>∃l a y,x=.ref l/\b=[]/\H l=some (.lst a)/\a[a.length-1]?=some y/\Q y (ar H l (.lst a.dropLast))
theorem HV:PY X "list.pop" Pe:=by
 intro p s A H x t v w Q I m k h;obtain⟨l,o,y,rfl,rfl,d,i,q⟩:=h;cases m;have c:=k.zero;subst c;obtain⟨z,a,n,r,g,e⟩:=I.lstM d;obtain⟨u,f,j⟩:=r.get i;have b:a.toArray[a.toArray.size-1]?=some u:=by
  show a.toArray[a.length-1]?=some u;rw[←iW,←g];exact f
 refine o9 F.slot_list_pop ⟨_,e,rfl⟩ F.entry_list_pop (F.args_list_pop_1 _) (MeetsSeq.list_pop_last l a.toArray n u b (by rw[dR];lia)) ⟨e,?_⟩;refine⟨y,_,I.lset (its':=a.dropLast) d e ?_ r.dropLast ?_,j,q⟩
 ·show a.toArray.eraseIdxIfInBounds (a.toArray.size-1)=a.dropLast.toArray;rw[dR,List.eraseIdxIfInBounds_toArray,TN]
 ·rw[List.length_dropLast];lia
def AI:R2:=λx y H Q=>∃l b c a,x=.ref l/\y=.ref b/\H l=some (.lst c)/\H b=some (.lst a)/\c.length+a.length<=sizeLine/\∀p,H p=none->Q (.ref p) (ar H p (.lst (c++a)))
theorem Ig:dH X (binaryOp .Add) AI:=by
 intro t s J H x y v u Q I f j h;obtain⟨l,b,p,G,rfl,rfl,i,k,w,q⟩:=h;cases f;cases j;obtain⟨z,c,n,r,E,e⟩:=I.lstM i;obtain⟨A,a,C,m,o,d⟩:=I.lstM k;refine PySem.P.add_list e d ?_ (by rw[dR,dR];lia);have g:c.toArray++a.toArray=(c++a).toArray:=by simp
 rw[g];exact⟨.ref _,_,I.lnew (t':=s.toks) (r.append m) (by rw[cx];lia),rfl,q _ I.fresh⟩
section
variable {κ:Type}[DecidableEq κ]
noncomputable def cy(a:List (κ×V)) (k:κ):Option V:=(a.find? λb=>decide (b.1=k)).map (·.2)
noncomputable def eE(a:List (κ×V)) (k:κ) (v:V):List (κ×V):=
 if(a.any λb=>decide (b.1=k))=true then a.map (λb=>if b.1=k then(b.1,v) else b) else a++[(k,v)]
noncomputable def dA(a:List (κ×V)) (k:κ):List (κ×V):=a.filter λb=>decide (b.1≠k)
theorem we{p:κ×V}{r:List (κ×V)}{k:κ}(e:p.1=k):cy (p::r) k=some p.2:=by simp[cy,lZ,e]
theorem wd{p:κ×V}{r:List (κ×V)}{k:κ}(e:¬ p.1=k):cy (p::r) k=cy r k:=by simp[cy,lZ,e]
theorem QI(k:κ):∀a:List (κ×V),(a.any λb=>decide (b.1=k))=(cy a k).isSome
 |[]=>rfl
 |p::r=>by
  rw[sG];by_cases e:p.1=k
  ·simp only[we e,eK e,Bool.true_or,Option.isSome_some]
  ·rw[wd e,dM e,Bool.false_or];exact QI k r
theorem FJ(a:List (κ×V))(k:κ)(v:V):(eE a k v).length<=a.length+1:=by
 unfold eE;split
 ·rw[az];lia
 ·rw[cx,dN,pj];lia
theorem fF.isSome_eq(r:fF o u):o.isSome=u.isSome:=by
 cases o with
 |none=>cases u with
  |none=>rfl
  |some _=>exact(show False from r).elim
 |some _=>cases u with
  |none=>exact(show False from r).elim
  |some _=>rfl
theorem fF.getD(r:fF o u)(a:RelV d d'):RelV (o.getD d) (u.getD d'):=by
 cases o with
 |none=>cases u with
  |none=>exact a
  |some _=>exact(show False from r).elim
 |some _=>cases u with
  |none=>exact(show False from r).elim
  |some _=>exact r
theorem KV.val(r:KV kvs vs)(k:κ):fF (cy kvs k) (valueAt vs k):=by
 unfold KV at r
 induction r with
 |nil=>exact True.intro
 |@cons p q ps qs h t ih=>
  obtain⟨c,d⟩:=h;by_cases e:p.1=k
  ·have a:q.1=k:=c.symm.trans e;have b:valueAt (q::qs) k=some q.2:=by simp[valueAt,lZ,a]
   rw[we e,b];exact d
  ·have a:¬ q.1=k:=λz=>e (c.trans z)
   have b:valueAt (q::qs) k=valueAt qs k:=by simp[valueAt,lZ,a]
   rw[wd e,b];exact ih
theorem KV.any(r:KV kvs vs)(k:κ):(kvs.any λa=>decide (a.1=k))=vs.any λa=>decide (a.1=k):=by
 unfold KV at r
 induction r with
 |nil=>rfl
 |cons h t ih=>rw[sG,sG,ih,h.1]
theorem KV.repl(r:KV kvs vs)(k:κ) (c:RelV y u):
  KV (kvs.map λa=>if a.1=k then(a.1,y) else a) (vs.map λa=>if a.1=k then(a.1,u) else a):=by
 unfold KV at r ⊢
 induction r with
 |nil=>exact .nil
 |@cons p q ps qs h t ih=>
  rw[cf,cf];refine .cons ?_ ih;obtain⟨b,d⟩:=h;by_cases e:p.1=k
  ·rw[if_pos e,if_pos (b.symm.trans e)];exact⟨b,c⟩
  ·rw[if_neg e,if_neg (λz=>e (b.trans z))];exact⟨b,d⟩
theorem KV.put(r:KV kvs vs)(k:κ) (a:RelV y u):KV (eE kvs k y) (stored vs k u):=by
 unfold eE stored;rw[r.any k];by_cases e:(vs.any λb=>decide (b.1=k))=true
 ·rw[if_pos e,if_pos e];exact r.repl k a
 ·rw[if_neg e,if_neg e];exact Paired.snoc r ⟨rfl,a⟩
theorem KV.drop(r:KV kvs vs)(k:κ):KV (dA kvs k) (without vs k):=by
 unfold KV at r ⊢;unfold dA without
 induction r with
 |nil=>exact .nil
 |@cons p q ps qs h t ih=>
  obtain⟨c,f⟩:=h;rw[DB,DB];by_cases e:p.1=k
  ·have a:¬ decide (p.1≠k)=true:=by simp[e]
   have b:¬ decide (q.1≠k)=true:=by simp[c.symm.trans e]
   rw[if_neg a,if_neg b];exact ih
  ·have d:¬ q.1=k:=λz=>e (c.trans z)
   have a:decide (p.1≠k)=true:=by simp[e]
   have b:decide (q.1≠k)=true:=by simp[d]
   rw[if_pos a,if_pos b];exact .cons ⟨c,f⟩ ih
theorem KV.keys{a:List (κ×V)}{b:List (κ×Value)}(r:KV a b):a.map (·.1)=b.map (·.1):=by
 unfold KV at r
 induction r with
 |nil=>rfl
 |cons h t ih=>rw[cf,cf,ih,h.1]
theorem KV.length(r:KV kvs vs):kvs.length=vs.length:=sH r
theorem LQ(a:List (κ×V))(k:κ):(dA a k).length<=a.length:=vr _ _
end
theorem jT(r:RelV (kV k) u):(ba P w).is k u=true:=by
 cases k with
 |inl i=>obtain⟨t,e⟩:=(show ∃t,u=Value.int i t from r);subst e;exact Ut P w i t
 |inr x=>obtain⟨t,e⟩:=(show ∃t,u=Value.str x t from r);subst e;exact Uu P w x t
theorem Q7:∀{a:List cI}{b:List Value},aj (a.map kV) b->ItemsAre (ba P w) a b
 |[],_,r=>by rw[Dq] at r;cases r;exact .nil
 |k::a,_,r=>by
  rw[cf] at r;cases r with
  |cons h t=>exact .cons (jT h) (Q7 t)
abbrev KT(H:Hp):List (List cI×V)->List (List cI×Addr×Value)->Prop:=Paired λp q=>p.1=q.1/\H q.2.1=some (.tup (p.1.map kV))/\RelV p.2 q.2.2
theorem KT.val(r:KT H kvs xs)(k:List cI):fF (cy kvs k) ((atKey xs k).map (·.2)):=by
 induction r with
 |nil=>exact True.intro
 |@cons p q ps qs h t ih=>
  obtain⟨c,_,d⟩:=h;by_cases e:p.1=k
  ·have a:q.1=k:=c.symm.trans e;have b:atKey (q::qs) k=some q.2:=by simp[atKey,lZ,a]
   rw[we e,b];exact d
  ·have a:¬ q.1=k:=λz=>e (c.trans z)
   have b:atKey (q::qs) k=atKey qs k:=by simp[atKey,lZ,a]
   rw[wd e,b];exact ih
theorem KT.repl(r:KT H kvs xs)(k:List cI) (d:RelV y u):
  KT H (kvs.map λb=>if b.1=k then(b.1,y) else b) (xs.map (putAt k u)):=by
 induction r with
 |nil=>exact .nil
 |@cons p q ps qs h t ih=>
  rw[cf,cf];refine .cons ?_ ih;obtain⟨a,c,f⟩:=h;unfold putAt;by_cases e:p.1=k
  ·rw[if_pos e,if_pos (a.symm.trans e)];exact⟨a,c,d⟩
  ·rw[if_neg e,if_neg (λz=>e (a.trans z))];exact⟨a,c,f⟩
theorem KT.put(r:KT H kvs xs)(k:List cI) (c:H b=some (.tup (k.map kV)))(a:RelV y u):
  KT H (eE kvs k y) (storedH xs k b u):=by
 have e:(kvs.any λd=>decide (d.1=k))=(atKey xs k).isSome:=by
  rw[QI,(r.val k).isSome_eq,Option.isSome_map]
 unfold eE storedH;rw[e];by_cases q:(atKey xs k).isSome=true
 ·rw[if_pos q,if_pos q];exact r.repl k a
 ·rw[if_neg q,if_neg q];exact Paired.snoc r ⟨rfl,c,a⟩
theorem KT.keeps(r:KT H kvs xs)(c:∀b a,H b=some (.tup a)->H' b=some (.tup a)):KT H' kvs xs:=
 Paired.mapP r λ_ _ z=>⟨z.1,c _ _ z.2.1,z.2.2⟩
theorem wP(b:fL P w H h)(e:Rd H a u):ax P w H h a u:=e.ok b
theorem jS(b:fL P w H h)(e:Rd H a (.dK kvs)):kvs.length<=sizeLine/\(a==sysModules)=false/\∃vs,KV kvs vs/\h.DictOf (ba P w) a vs:=
 show ax P w H h a (.dK kvs) from wP b e
theorem rK(b:fL P w H h)(e:H a=some (.dK kvs)):kvs.length<=sizeLine/\(a==sysModules)=false/\∃vs,KV kvs vs/\h.DictOf (ba P w) a vs:=jS b (.inl e)
theorem uo{c:List cI}(f:fL P w H h)(e:H a=some (.tup (c.map kV))):(tupleKind (ba P w)).is h c a:=by
 obtain⟨_,b,r,o,d,i,n,g⟩:=(show ax P w H h a (.tup (c.map kV)) from f a _ e)
 exact⟨o,b.toArray,n,d,i,g,by simpa using Q7 r⟩
theorem k7(b:fL P w H h)(e:Rd H a (.dT kvs)):kvs.length<=sizeLine/\(a==sysModules)=false /\
  ∃xs,KT H kvs xs/\h.DictOfH (tupleKind (ba P w)) a xs:=by
 obtain⟨z,y,xs,r,o,j,d,c,k,i,g,f⟩:=(show ax P w H h a (.dT kvs) from wP b e)
 refine⟨z,y,xs,r,o,j,d,c,k,i,g,λx hx=>?_,f⟩;have all:∀{l:List (List cI×V)}{m:List (List cI×Addr×Value)},KT H l m->∀x∈m,(tupleKind (ba P w)).is h x.1 x.2.1:=by
  intro l m q
  induction q with
  |nil=>intro x hx;exact nomatch hx
  |@cons p q ps qs hq t ih=>
   intro x hx;rcases bU.mp hx with e|hx
   ·subst e;exact uo b (by rw[←hq.1];exact hq.2.1)
   ·exact ih x hx
 exact all r x hx
theorem wE(b:fL P w H h)(e:H a=some (.dT kvs)):kvs.length<=sizeLine/\(a==sysModules)=false /\
 ∃xs,KT H kvs xs/\h.DictOfH (tupleKind (ba P w)) a xs:=k7 b (.inl e)
def jD(H:Hp) (a:Addr) (y:V) (r:Option V):Prop:=
 (∃c k,Rd H a (.dK c)/\y=kV k/\r=cy c k)\/∃c k b,Rd H a (.dT c)/\y=.ref b/\H b=some (.tup (k.map kV))/\r=cy c k
def nF(H:Hp) (a:Addr) (y v:V) (d:Hp):Prop:=
 (∃c k,H a=some (.dK c)/\y=kV k/\c.length<sizeLine/\d=ar H a (.dK (eE c k v))) \/
 ∃c k b,H a=some (.dT c)/\y=.ref b/\H b=some (.tup (k.map kV))/\c.length<sizeLine/\d=ar H a (.dT (eE c k v))
theorem nF.t{k:List cI}(e:H a=some (.dT kvs))(c:H b=some (.tup (k.map kV)))(d:kvs.length<sizeLine):
 nF H a (.ref b) v (ar H a (.dT (eE kvs k v))):=.inr ⟨kvs,k,b,e,rfl,c,d,rfl⟩
theorem Inv.big(I:Inv X aW σ H s):sysModules<s.heap.objs.size:=by
 have h:mainGlobals<s.heap.objs.size:=(I.mod.glob.keeps I.bk).lt;exact sF (by decide) h
theorem Nx{A:Around}(x:A.units+1<cLine)(I:Inv X aW σ H s)(g:jD H a y (some v))(r:RelV y u)(h:∀f t,Inv X aW σ H t->RelV v f->Q f t):
  wpAny (model X.prog X.w) A (getItem (.ref a) u) Q E s:=by
 rcases g with⟨q,k,e,i,l⟩|⟨q,k,b,e,i,C,l⟩
 ·subst i;obtain⟨z,G,P,c,m⟩:=jS I.hok e;obtain⟨f,n,d⟩:=fF.some_of (v:=v) (o:=valueAt P k) (by rw[l];exact c.val k);exact wpAny_getItem_of (jT r) m.mapOf n (h f _ (I.tok _) d)
 ·subst i;cases(show u=Value.ref b from r);obtain⟨z,G,w,c,m⟩:=k7 I.hok e;obtain⟨f,n,d⟩:=fF.some_of (v:=v) (o:=(atKey w k).map (·.2)) (by rw[l];exact c.val k);obtain⟨p,J,j⟩:=iE.mp n;refine wpAny_getItem_heap (yZ x) (uo I.hok C) m J ?_;rw[j];exact h f _ (I.tok _) d
theorem tU{A:Around}(p:A.units+1<cLine)(I:Inv X aW σ H s)(g:jD H a y o)(m:RelV y u)(h:∀n,Inv X aW σ H n->Q (.bool o.isSome) n):
  wpAny (model X.prog X.w) A (compareOp .In u (.ref a)) Q E s:=by
 rcases g with⟨j,k,e,d,l⟩|⟨j,k,b,e,d,r,l⟩
 ·subst d;obtain⟨z,f,v,c,i⟩:=jS I.hok e;refine wpAny_in_of (jT m) f i.mapOf ?_;rw[←(c.val k).isSome_eq,←l];exact h _ (I.tok _)
 ·subst d;cases(show u=Value.ref b from m);obtain⟨z,f,t,c,i⟩:=k7 I.hok e;refine wpAny_in_heap (yZ p) (uo I.hok r) f i ?_;have q:=(c.val k).isSome_eq;rw[Option.isSome_map] at q;rw[←q,←l];exact h _ (I.tok _)
theorem vK(I:Inv X aW σ H s)(g:BL (H a))(d:Heap.SameBut a s.heap h')(h:∃q,h'.get? a=some q)(c:ax X.prog X.w (ar H a ob) h' a ob):
  Inv X aW σ (ar H a ob) {s with heap:=h',toks:=t'}:=
 I.write (x:=a) (e:=a) g (.inl rfl) (λb q f z=>(d.2 b f).trans z) h c
theorem r9{d:Heap}{b:List (cI×V)}(z:b.length<=sizeLine)(e:(a==sysModules)=false)(c:KV b vs)(f:d.DictOf (ba P w) a vs):
 ax P w H' d a (.dK b):=⟨z,e,vs,c,f⟩
theorem Ny{A:Around}(T:A.units+1<cLine)(I:Inv X aW σ H s)(g:nF H a y v H')(J:RelV y u)(R:RelV v r)(h:∀S,Inv X aW σ H' S->Q () S):
  wpAny (model X.prog X.w) A (setItem (.ref a) u r) Q E s:=by
 rcases g with⟨f,k,e,n,l,o⟩|⟨f,k,b,e,n,C,l,o⟩
 ·subst n o;obtain⟨z,p,vs,d,t⟩:=rK I.hok e;have w:vs.length<=sizeLine:=by rw[←d.length];exact z
  have x:(eE f k v).length<=sizeLine:=by have:=FJ f k v;lia
  refine wpAny_setItem_pairs (hsz:=w) (jT J) t λG i m=>h _ ?_
  have he:∃q,G.get? a=some q:=let ⟨q,_,_,j,_⟩:=i;⟨q,j⟩
  exact vK I (by rw[e];exact True.intro) m he (r9 x p (d.put k R) i)
 ·subst n o;cases(show u=Value.ref b from J);obtain⟨z,p,xs,d,t⟩:=wE I.hok e;have w:xs.length<=sizeLine:=by rw[←sH d];exact z
  have x:(eE f k v).length<=sizeLine:=by have:=FJ f k v;lia
  refine wpAny_setItem_heap (hsz:=w) (yZ T) (uo I.hok C) t λG i m=>h _ ?_
  obtain⟨q,es,Y,j,h2,U,h4,_,h5⟩:=i;refine vK I (by rw[e];exact True.intro) m ⟨q,j⟩ ⟨x,p,_,(d.put k C R).keeps λc ys P=>?_,q,es,Y,j,h2,U,h4,h5⟩;rw[zo (wK P e (λz=>nomatch z))];exact P
theorem rH(I:Inv X aW σ H s)(e:H a=some (.dK kvs))(g:RelV (kV k) u)(l:cy kvs k=some v)(j:more=[]\/∃x,more=[x])
  (h:∀ c m,Inv X aW σ (ar H a (.dK (dA kvs k))) m->RelV v c->Q c m):wpAny (model X.prog X.w) A (call (.builtin "dict.pop") (.ref a::u::more)) Q E s:=by
 obtain⟨z,w,n,b,p⟩:=rK I.hok e;obtain⟨c,P,f⟩:=fF.some_of (v:=v) (o:=valueAt n k) (by rw[←l];exact b.val k);have G:(keyPart u).isSome=true:=by
  cases k with
  |inl i=>obtain⟨t,q⟩:=(show ∃t,u=Value.int i t from g);subst q;rfl
  |inr x=>obtain⟨t,q⟩:=(show ∃t,u=Value.str x t from g);subst q;rfl
 have r:argsOk "dict.pop" ⟨.ref a::u::more,[]⟩:=by
  rcases j with q|⟨x,q⟩
  ·subst q;exact F.args_dict_pop_2 _ _
  ·subst q;exact F.args_dict_pop_3 _ _ _
 refine uW DV p.typeIs F.entry_dict_pop r (meets_dict_pop_there (ba X.prog X.w) a (jT g) more j G)
  ⟨n,c,p,by rw[←b.length];exact z,P,λC d y=>h c _ ?_ f⟩
 have J:∃q,C.get? a=some q:=let ⟨q,_,_,hq,_⟩:=d;⟨q,hq⟩
 exact vK I (by rw[e];exact True.intro) y J (r9 (ay (LQ kvs k) z) w (b.drop k) d)
noncomputable def pW(i:Expr):Prop:=∀b a,subscripted i false b a=operate [b,a] (getItem b a)
theorem Lc{T id:String}
  (k:typeLookup (.type T) "__getitem__"=pure (some (.builtin id)))(j:pW slice)
  (h:wpAny (model prog w) A (eval value env) (λo b=>wpAny (model prog w) A (eval slice env) (λi s₂=>s₂.TypeIs o T/\wpAny (model prog w) A (getItem o i) Q E s₂) E b) E s):
  wpAny (model prog w) A (eval (.Subscript value slice pos) env) Q E s:=by
 refine Subscript_ (iA h (λo b e=>iA e (λi s₂ a=>?_) λ_ _ x=>x) λ_ _ x=>x);obtain⟨g,a⟩:=a;unfold subscriptTail;refine ab ?_;rw[getitemInPython_of_ne g.not_modules];refine ab (sL g k ?_);have d:wpAny (model prog w) A (subscripted slice false o i) (λr c=>wpAny (model prog w) A (letTemporaryGo value o r >>= λ_=>pure r) Q E c) E s₂:=by
  rw[j o i];exact wpAny_operating (iA a (λr c f=>ab (wpAny_letTemporaryGo (aq f))) λ_ _ x=>x)
 first
  |exact aq (ab d)
  |exact ab (aq (ab d))
  |exact ab d
theorem Um(I:Inv X aW σ H s)(g:jD H a y o):s.TypeIs (.ref a) "dict":=by
 rcases g with⟨d,k,e,_,_⟩|⟨d,k,b,e,_,_,_⟩
 ·obtain⟨_,_,h,_,c⟩:=jS I.hok e;exact c.typeIs
 ·obtain⟨_,_,f,_,c⟩:=k7 I.hok e;exact c.typeIs
def zR(c d:TE):TE:=λb H Q=>c b H λx H1=>d b H1 λy H2=>∃a v,x=.ref a/\jD H2 a y (some v)/\Q v H2
def O5(d c:TE):TE:=λb H Q=>d b H λy H1=>c b H1 λx H2=>∃a o,x=.ref a/\jD H2 a y o/\Q (.bl o.isSome) H2
def gk(e f d:TE):TS:=λD b H=>d b H λv H1=>e b H1 λx H2=>f b H2 λy H3=>∃a c,x=.ref a/\nF H3 a y v c/\D.nx b c
theorem KD{X:Cx}(k:X.A.units+1<cLine)(n:PE X o td)(z:PE X i ty)(p:pW i):PE X (.Subscript o i pos) (zR td ty):=by
 intro f s e H Q I h;refine Lc F.slot_dict_getitem.lookup p (bi (n f s e H _ I h) λu l ⟨x,H1,A,w,q⟩=>bi (z f l e H1 _ A q) λC E c=>?_);obtain⟨y,H2,d,t,a,v,r,g,m⟩:=c;subst r;obtain rfl:u=Value.ref a:=w;exact⟨Um d g,Nx k d g t λG J j b=>⟨v,H2,j,b,m⟩⟩
theorem Im{X:Cx}(f:X.A.units+1<cLine)(t:PE X i ty)(l:PE X o td):PC X .In i o (O5 ty td):=by
 intro d s c H Q I h;refine bi (t d s c H _ I h) λz j ⟨y,H1,v,q,n⟩=>bi (l d j c H1 _ v n) λu A b=>?_
 obtain⟨x,H2,m,r,a,w,p,g,k⟩:=b;subst p;obtain rfl:u=Value.ref a:=r;exact tU f m g q λC e=>⟨.bl w.isSome,H2,e,rfl,k⟩
theorem KP{X:Cx}{b:Pos}(j:X.A.units+1<cLine)(n:PE X o td)(G:PE X i ty)(E:PE X value tv)(q:swapsWith value (some (.Subscript o i pos')) b.line X.env=pure false):
  PS X (.Assign [.Subscript o i pos'] value b) (gk td ty tv):=by
 intro e s c H D I h;refine wpAny_Assign_Subscript (bi (E e s c H _ I h) λr k ⟨v,H1,P,Q,w⟩=>bi (n e k c H1 _ P w) λu p ⟨x,H2,t,J,l⟩=>bi (G e p c H2 _ t l) λS U d=>?_) q;obtain⟨y,H3,f,A,a,C,z,g,R⟩:=d;subst z;obtain rfl:u=Value.ref a:=J;exact Ny j f g A Q λT m=>⟨c,C,m,R⟩
theorem LP(h:Heap)(a:sysModules<h.objs.size):ax P w H (h.push { cls:=.type "dict",data:=.dict #[] }) h.objs.size (.dK []):=
 ⟨iT _,vj.mpr (cJ (dF a)),[],.nil,Heap.DictOf.new h⟩
theorem LX(h:Heap)(a:sysModules<h.objs.size):ax P w H (h.push { cls:=.type "dict",data:=.dict #[] }) h.objs.size (.dT []):=
 ⟨iT _,vj.mpr (cJ (dF a)),[],.nil,_,#[],0,ez _ rfl,⟨rfl,rfl,rfl⟩,rfl,rfl,mI⟩
def tr:TE:=λ_ H Q=>∀p,H p=none->Q (.ref p) (ar H p (.dK []))
def tq:TE:=λ_ H Q=>∀p,H p=none->Q (.ref p) (ar H p (.dT []))
theorem MI:PE X (.Dict [] [] pos) tr:=λb s c H Q I h=>
 wpAny_Dict_empty ⟨.ref s.heap.objs.size,_,I.laid (a:=s.heap.objs.size) (o:=.dK []) (t':=s.toks) (λ_ _ q=>cg _ q) (bj _) (LP s.heap I.big),rfl,h _ (I.hok.fresh (bj _))⟩
theorem MJ:PE X (.Dict [] [] pos) tq:=λb s c H Q I h=>
 wpAny_Dict_empty ⟨.ref s.heap.objs.size,_,I.laid (a:=s.heap.objs.size) (o:=.dT []) (t':=s.toks) (λ_ _ q=>cg _ q) (bj _) (LX s.heap I.big),rfl,h _ (I.hok.fresh (bj _))⟩
structure M1 (X:Cx) (o:Expr) (m:Str) (apos:Pos) (e:Expr) (cpos:Pos):Prop where
 base:attributeBase o m X.env (eval o X.env)=eval o X.env
 few:((backTo cpos (starEach [e] X.env)).all (λx=>!x.1)&&(backToKw cpos (keywordEach [] X.env)).all (λx=>x.1.isSome)
  && decide (([e]:List Expr).length+([]:List Keyword).length+(if([]:List Keyword).isEmpty then 0 else 1)<30))=true
 line:(apos.endLine==cpos.line)=true
 trees:backTo cpos (starEach [e] X.env)=[(false,eval e X.env)]
structure M2 (X:Cx) (o:Expr) (m:Str) (apos:Pos) (e f:Expr) (cpos:Pos):Prop where
 base:attributeBase o m X.env (eval o X.env)=eval o X.env
 few:((backTo cpos (starEach [e,f] X.env)).all (λx=>!x.1)&&(backToKw cpos (keywordEach [] X.env)).all (λx=>x.1.isSome)
  && decide (([e,f]:List Expr).length+([]:List Keyword).length+(if([]:List Keyword).isEmpty then 0 else 1)<30))=true
 line:(apos.endLine==cpos.line)=true
 trees:backTo cpos (starEach [e,f] X.env)=[(false,eval e X.env),(false,eval f X.env)]
def Ek(H:Hp) (a:Addr):Prop:=(∃b,Rd H a (.dK b))\/∃b,Rd H a (.dT b)
theorem xk(I:Inv X aW σ H s)(d:Ek H a):
  s.TypeIs (.ref a) "dict"/\(∀ b,Value.ref a=.ref b->∃ c,s.heap.get? b=some c/\c.dict=none)/\(a==sysModules)=false:=by
 rcases d with⟨g,e⟩|⟨g,e⟩
 ·obtain⟨_,i,l,_,f⟩:=jS I.hok e;refine⟨f.typeIs,λb q=>?_,i⟩;cases q;obtain⟨c,_,_,h,j,_⟩:=f;exact⟨c,h,j.2.1⟩
 ·obtain⟨_,i,k,_,f⟩:=k7 I.hok e;refine⟨f.typeIs,λb q=>?_,i⟩;cases q;obtain⟨c,_,_,h,j,_⟩:=f;exact⟨c,h,j.2.1⟩
theorem G8{A:Around}(w:A.units+1<cLine)(I:Inv X aW σ H s)(g:jD H a y o)(n:RelV y u)(t:RelV d r)(h:∀p q,Inv X aW σ H q->RelV (o.getD d) p->Q p q):
  wpAny (model X.prog X.w) A (call (.builtin "dict.get") [.ref a,u,r]) Q E s:=by
 rcases g with⟨m,k,e,i,l⟩|⟨m,k,b,e,i,x,l⟩
 ·subst i;obtain⟨z,j,C,c,f⟩:=jS I.hok e;refine uW Oz f.typeIs F.entry_dict_get (F.args_dict_get_3 _ _ _) (meets_dict_get_default (ba X.prog X.w) a (jT n) j r) ⟨_,f.mapOf,h _ _ (I.tok _) ?_⟩;rw[l];exact(c.val k).getD t
 ·subst i;cases(show u=Value.ref b from n);obtain⟨z,j,v,c,f⟩:=k7 I.hok e;refine uW Oz f.typeIs F.entry_dict_get (F.args_dict_get_3 _ _ _) (meetsH_dict_get_default (tupleKind (ba X.prog X.w)) a b j r) ⟨yZ w,k,v,uo I.hok x,f,h _ _ (I.tok _) ?_⟩;rw[l];exact(c.val k).getD t
def tu(c d e:TE):TE:=λb H Q=>c b H λx H1=>∃a,x=.ref a/\Ek H1 a/\d b H1 λy H2=>e b H2 λz H3=>∃o,jD H3 a y o/\Q (o.getD z) H3
theorem MG{X:Cx}(n:X.A.units + 1<cLine)(t:PE X o td)(S:PE X e ty)(C:PE X f tx)(m:M2 X o "get" apos e f cpos):PE X (.Call (.Attribute o "get" apos) [e,f] [] cpos) (tu td ty tx):=by
 intro j s i H Q I h;refine wpAny_Call_method m.base m.few m.line D4 Oz F.type_dict_get (bi (t j s i H _ I h) λu p c=>?_);obtain⟨x,H1,k,P,a,E,d,A⟩:=c;subst E;obtain rfl:u=Value.ref a:=P;obtain⟨J,R,_⟩:=xk k d;refine⟨J,R,?_⟩;rw[m.trees]
 refine DZ rfl (Ox (qD (bi (S j p i H1 _ k A) λU v ⟨y,H2,w,G,q⟩=>
  qD (bi (C j v i H2 _ w q) λY s3 ⟨z,H3,l,rz,ov,g,T⟩=>sR ?_))))
 exact G8 n l g G rz λw' s4 r b=>⟨_,H3,r,b,T⟩
end L2
namespace Att
open PySem.W Calls PyProof.Rows
theorem Vg:∀(ns:List Int) (c:List Value),WellAll P h c (ns.map WData.int)->IntsAre c ns:=by
 intro ns
 induction ns with
 |nil=>
  intro c w;rw[Dq] at w;cases w;exact .nil
 |cons n ns ih=>
  intro c w;rw[cf] at w;cases w with
  |cons a b=>
   cases a;exact .cons _ _ (ih _ b)
theorem Th{l:OpenLaw}(p:l.most=some n)
  (c:l.row.toRowW.claim.pre args=true)(i:WellAll P h vals args):
  ∃ a m b,vals=[Value.ref a]/\args=[WData.list (b.map WData.int)]/\h.get? a=some { cls:=.type "list",data:=.seq m.toArray }/\IntsAre m b/\b.length<=n:=by
 have j:WShape.hasAll [] args [.list .int]=true:=(pre_splitW c).1;have k:l.pre.holds [] {args:=args}=true:=(pre_splitW c).2;obtain⟨d,r,rfl,o,u⟩:=hasAllW_cons j;obtain rfl:=hasAllW_nil u;obtain⟨v,rfl,t⟩:=hasW_list o;obtain⟨b,rfl⟩:=items_int t;have e:b.length<=n:=by
  unfold OpenLaw.pre at k;have g:(WTm.not (.lt (.lit (.int (n:Int))) (.len (.arg 0)))).holds [] {args:=[.list (b.map .int)]}=true:=by
   have g:=(holds_andW k).1;rw[p] at g;exact g
  have f:=condW_of g (w_not (w_lt w_lit (w_len_list (w_arg rfl))));rw[az] at f;refine fU λq=>?_
  have s:(n:Int)<((b.length:Nat):Int):=by lia
  first
   | (rw[eK s] at f;exact absurd f (by decide))
   | (simp at f;lia)
 cases i with
 |cons w1 w2=>
  cases w2;cases w1 with
  |list ho hall=>exact⟨_,_,b,rfl,rfl,ho,Vg b _ hall,e⟩
theorem Ta(l:OpenLaw)(args:List WData):l.row.toRowW.claim.post args (.bool true) args=true:=
 postW_of (r:=l.row.toRowW) (X:=(true==true))
  (show WShape.has [] (.bool true) .bool=true by first|rfl|decide|simp[WShape.has,WShape.arms,WShape.armsAll])
  (show(WTm.eq .res (.lit (.bool true))).value [] {args:=args,res:=some (.bool true),after:=args}=some (.bool (true==true)) from w_eq_bool (w_res rfl) w_lit) rfl
theorem jA{l:OpenLaw}{d:DefRec}
  (P:l.most=some n)(z:d.params.defaults=[])
  (call:∀(w:World) (c b:Shared) (p A:Str->Option Value) (m:Addr) (o:Obj) (C s e:Value) (a:Addr) (h:List Value) (u:List Int),
   Ground q loose [] XP w c p A b.heap->YP w b.heap ->
   b.heap.get? m=some o->o.data=.func (docDef d.name d.params d.body d.scope C s e)->b.heap.CodeRec s d.name->p d.name=some (.ref m) ->
   b.heap.get? a=some { cls:=.type "list",data:=.seq h.toArray }->IntsAre h u->u.length<=n->b.gens=#[] ->
   codeAny (model l.prog w) callerA (.call (.ref m) ⟨[.ref a],[]⟩) (λr t=>r=.ok (.ret (.bool true))/\OldK b.heap t.heap/\t.os=b.os/\AllBare t.gens) b):
  WalkO q loose XP YP l.row.toRowW d [] (λf h=>PySem.call f h):=by
 intro w c b p A G Y m o C s e X kV U hd x H v R J I as i E a0 y T;obtain rfl:X=.none:=Dflts.none H z;obtain rfl:kV=.none:=Dflts.noKw H;obtain⟨a,h,u,rfl,rfl,j,g,k⟩:=Th P i y;refine enter_call (uX (call w c b p A m o C s e a h u G Y U (fd_plain hd) x v j g k R) λr t hq=>?_);obtain⟨rfl,h2,S,h4⟩:=hq;exact⟨.inl ⟨.bool true,.bool true,[],rfl,λ_=>rfl,.bool true,Ta l _,λ_=>⟨List.Pairwise.nil,λ_ Q=>(nomatch Q)⟩⟩,h2,S,h4⟩
end Att
namespace L2
open Spec PyProof.Rows
theorem Rn:∀{b:List Value}{a:List Int},IntsAre b a->aj (a.map V.int) b
 |_,_,.nil=>.nil
 |_,_,.cons n t h=>.cons ⟨t,rfl⟩ (Rn h)
def ue(H:Hp):Prop:=∀b,H b=none\/∃o a,H b=some (.frz o (.lst a))
theorem Mk{K:Fg}{s₁:Shared}{p:List Value}
  (KX:K.In s₁.heap)(y:s₁.heap.Ns mainGlobals mg)(f:s₁.heap.Ns builtinsNs mb)(Y:∀ x:Str,x≠"__name__"->mb x=bootBuiltins x)(E:s₁.heap.NoLimit)(hg:s₁.gens=#[])
  (R:s₁.heap.get? a=some { cls:=.type "list",data:=.seq p.toArray })(hi:IntsAre p ns)(hl:ns.length<=sizeLine)(hr:bR k callerA)
  (F:∀base:Heap,K.In base->base.Ns mainGlobals mg->gf P w K mg base CX k fa fd [x] sp)(l:∀(s:Shared) (u:Value),BindsTo s fd ⟨[u],[]⟩ [(x,u)])
  (T:∀H:Hp,ue H->du K H a (ns.map V.int)->sp [.ref a] H (λv _=>v=.bl true) λ_ _ _=>False)
  (X:∀H e g,CX [] H s₁ (λ_ _ _=>False) e g->False):
  codeAny (model P w) callerA (.call (.ref fa) ⟨[.ref a],[]⟩) (λr g=>r=.ok (.ret (.bool true))/\OldK s₁.heap g.heap/\g.os=s₁.os/\AllBare g.gens) s₁:=by
 have rv:=Rn hi;have Q:=hi.length;have j:∀H:Hp,ue H->du K H a (ns.map V.int)->fL P w H s₁.heap->(∀b,H b≠none->b=a)->(H a≠none->K.lookup a=none) ->
   codeAny (model P w) callerA (.call (.ref fa) ⟨[.ref a],[]⟩) (λr g=>r=.ok (.ret (.bool true))/\OldK s₁.heap g.heap/\g.os=s₁.os/\AllBare g.gens) s₁:=by
  intro H hO hS G hA hK;have c:∀{b:Addr}{o:Obj},s₁.heap.get? b=some o->H b=none->(i5 s₁.heap H).get? b=some o:=λe n=>L9 e n
  have U:∀{b:Addr}{o:Obj}{I:Array DictEntry}{ep:Nat},s₁.heap.get? b=some o->o.data=.dict I ep->H b=none:=λ{b o I ep} e d=>by
   cases q:H b with
   |none=>rfl
   |some u=>
    have S:b=a:=hA b (by rw[q];simp);subst S;rw[R] at e;cases e
    have d':Data.seq p.toArray _=Data.dict I ep:=d;cases d'
  have i:∀{b:Addr}{m:Str->Option Value},s₁.heap.Ns b m->(i5 s₁.heap H).Ns b m:=λ{b m} ⟨o,I,ep,e,d,r⟩=>⟨o,I,ep,c e (U e d),d,r⟩
  have C:K.In (i5 s₁.heap H):=λb o e=>c (KX b o e) (by
   cases q:H b with
   |none=>rfl
   |some u=>
    have S:b=a:=hA b (by rw[q];simp);subst S
    rw[hK (by rw[q];simp)] at e;cases e)
  have hM:Mod K mg (i5 s₁.heap H):=⟨C,i y,⟨mb,i f,Y⟩,let ⟨mc,h1,h2⟩:=E;⟨mc,i h1,h2⟩⟩
  have e0:kb P w K mg (i5 s₁.heap H) callerA [] s₁ H:=⟨rfl,hM,λb o e=>Kt e,ii (NI _ _),trivial,λb f=>absurd (show b∈([]:List Addr) from f) (by simp),G,.of_eq hg⟩
  refine uX ((F _ C (i y)).run callerA [] s₁ H ⟨[.ref a],[]⟩ [.ref a] [.ref a] _ _ hr e0 (l s₁ (.ref a)) (.cons rfl .nil) (T H hO hS)) λr g h=>?_
  cases r with
  |error e=>exact(X H e g h).elim
  |ok fl=>
   cases fl with
   |next=>exact False.elim h
   |brk=>exact False.elim h
   |cont=>exact False.elim h
   |ret u=>
    obtain⟨v,H',os,A,un,t,r',q⟩:=h;have q':v=.bl true:=q;subst q';obtain rfl:u=Value.bool true:=r';refine⟨rfl,OldK.of_keep λb o e=>?_,os,A⟩;cases q:H b with
    |none=>exact un.keep b o e q (by intro z;exact absurd (show b∈([]:List Addr) from z) (by simp)) (by simp)
    |some u=>
     rcases hO b with z|⟨ob,xs,z⟩
     ·rw[q] at z;cases z
     ·have z2:=un.frzs b ob _ z;obtain⟨e1,_⟩:=G b _ z;obtain⟨e2,_⟩:=t b _ z2;rw[e] at e1;cases e1
      exact e2
 cases hk:K.lookup a with
 |some o=>
  have e:=KX a o hk;rw[R] at e;cases e;refine j (λ_=>none) (λ_=>.inl rfl) (.inr ⟨_,p.toArray,_,hk,rfl,rfl,rfl,by rw[dR,Q];exact hl,by simpa using rv⟩) (λb u z=>by have J:(none:Option HO)=some u:=z;cases J) (λb z=>absurd rfl z) λz=>absurd rfl z
 |none=>
  refine j (λb=>if b=a then some (.frz { cls:=.type "list",data:=.seq p.toArray } (.lst (ns.map V.int))) else none) (λb=>?_) (.inl (.inr ⟨{ cls:=.type "list",data:=.seq p.toArray },if_pos rfl⟩)) (λb u z=>?_) (λb z=>?_) λ_=>hk
  ·by_cases f:b=a
   ·exact .inr ⟨_,_,if_pos f⟩
   ·exact .inl (if_neg f)
  ·by_cases f:b=a
   ·have J:=(if_pos f).symm.trans z;cases J;subst f;exact⟨R,by rw[az];exact hl,p,_,rv,R⟩
   ·have J:=(if_neg f).symm.trans z;cases J
  ·by_cases f:b=a
   ·exact f
   ·exact absurd (if_neg f) z
theorem Li{l:W.OpenLaw}{n k:Nat}{q:Program}{c:List Str}{XP:(Str->Option Value)->Heap->Prop}{P:World->Heap->Prop}{d:DefRec}{K:Params->Fg}{CX:World->vD}{sp:World->Sp}{x:Str}
  (S:l.most=some n)(y:n<=sizeLine)(C:d.params.defaults=[])(hr:bR k callerA)
  (hY:∀(w:World) (h:Heap),P w h->(K w.params).In h)
  (F:∀(w:World) (i:Str->Option Value) (p:Addr) (h:Heap),(K w.params).In h->h.Ns mainGlobals i->i d.name=some (.ref p) ->
   ∃A:FuncData,(∀(s:Shared) (u:Value),BindsTo s A ⟨[u],[]⟩ [(x,u)]) /\
    ∀base:Heap,(K w.params).In base->base.Ns mainGlobals i->gf l.prog w (K w.params) i base (CX w) k p A [x] (sp w))
  (E:∀(w:World) (H:Hp) (a:Addr) (r:List Int),r.length<=n->ue H->du (K w.params) H a (r.map V.int)->sp w [.ref a] H (λv _=>v=.bl true) λ_ _ _=>False)
  (I:∀(w:World) (H:Hp) (s:Shared) (e:Value) (t:Shared),CX w [] H s (λ_ _ _=>False) e t->False):
  W.WalkO q c XP P l.row.toRowW d [] (λf R=>PySem.call f R):=by
 refine Att.jA S C λw Q m i mb p o pm cd a0 a R r G Y ho hd X z j g b U=>?_
 have J:=hY w _ Y;obtain⟨A,T,hF⟩:=F w i p _ J G.T.g z;exact Mk J G.T.g G.T.b G.T.builtins G.T.nolimit U j g (ay b y) hr hF T (λH hO hS=>E w H a r b hO hS) λH e t=>I w H m e t
noncomputable def cT(s:Stmt):Arguments:=match s with
 |.FunctionDef _ a _ _ _ _ _ _ _ _=>a
 |_=>{posonlyargs:=[],args:=[],vararg:=none,kwonlyargs:=[],kw_defaults:=[],kwarg:=none,defaults:=[]}
noncomputable def bD(s:Stmt):List Stmt:=match s with
 |.FunctionDef _ _ b _ _ _ _ _ _ _=>b
 |_=>[]
noncomputable def ag(s:Stmt):Scope:=match s with
 |.FunctionDef _ _ _ _ _ _ sc _ _ _=>sc
 |_=>{kind:=.function,names:=[],isGenerator:=false,isCoroutine:=false}
abbrev jE:vD:=λ_ _ _ _ _ _=>False
abbrev E0:XK:=λ_ _ _=>False
theorem AL:ka jE X E0:=λ_ _ _ _ _ _ _ h=>h.elim
structure pZ (K:Fg) (x qual:Str) (au:Stmt) (f:Addr) (fd:FuncData):Prop where
 ex:∃(oc:Value) (od:Option Addr) (kV doc pm:Value) (an:Option Addr) (cdv ct:Value) (osl:Array (Option Value)),
  fd=W.fnOf x qual (cT au) (bD au) (ag au) .none kV doc pm an cdv ct/\K.lookup f=some ⟨oc,od,.func fd,osl⟩/\W.codeIn K cdv qual=true
 kp:W.keepIn K (.ref f)=true
theorem pZ.ok{K:Fg}{N:List Str}(F:pZ K x qual au f fd)(S:cV N ps (ag au))(len:∀d H Q E,sp d H Q E->d.length=ps.length)
  (c:∀(b:Value) (A:Around) (a:List Env) (s:Shared) (H:Hp) (d:List V) (Q:VK) (E:XK),bR k (A.deeper (envOfC qual (ag au) s.heap.objs.size f b))->sp d H Q E ->
   ∃t,jC (gs jE P w K mg base N qual (ag au) f b A a s H E).nox (bD au) t/\t {nx:=λ_ n=>Q .non n,rt:=Q} (start N d) H):gf P w K mg base jE (k+1) f fd ps sp:=by
 obtain⟨u,o,kV,m,r,v,b,p,j,rfl,l,g⟩:=F.ex;refine Gh l g S len λA a s H d Q E i e=>?_
 obtain⟨t,h,q⟩:=c b A a s H d Q E i e;exact⟨t,h.nox,q⟩
theorem pZ.binds{K:Fg}{d:List Str}(F:pZ K x qual au f fd)
  (h:∀(kV b e:Value) (g:Option Addr) (a c:Value) (i:List Value),i.length=d.length->bindArgs (W.fnOf x qual (cT au) (bD au) (ag au) .none kV b e g a c) ⟨i,[]⟩=pure (d.zip i)):Binds K fd d []:=by
 obtain⟨n,l,kV,b,e,g,a,c,j,rfl,m,k⟩:=F.ex;exact .all (h kV b e g a c)
theorem Hz{K:Fg}{kV:Value}(l:K.lookup f=some ⟨oc,od,.func (W.fnOf x qual (cT au) (bD au) (ag au) .none kV doc pm an cdv ct),osl⟩)
 (c:W.codeIn K cdv qual=true)(k:W.keepIn K (.ref f)=true):pZ K x qual au f (W.fnOf x qual (cT au) (bD au) (ag au) .none kV doc pm an cdv ct):=⟨⟨oc,od,kV,doc,pm,an,cdv,ct,osl,rfl,l,c⟩,k⟩
theorem iS(a:bR k A):A.units+1<cLine:=jL (ij (by decide:1<=64) _) a.units
theorem pv{X:Cx}(i:Nat) (c:X.N[i]?=some x:=by rfl)(d:vB X.env.scope x:=by first|exact Or.inl rfl|exact Or.inr (Or.inl rfl)|exact Or.inr (Or.inr rfl))(b:(x==("__debug__" : Str))=false:=by decide)
 (a:(x==("__classdict__" : Str))=false:=by decide):PE X (.Name x pos) (pL i):=Ix c d b a
theorem lF{A B:Prop}(h:B):if false=true then A else B:=by
 rw[if_neg nX];exact h
theorem lE{A B:Prop}(h:A):if true=true then A else B:=by
 rw[if_pos rfl];exact h
noncomputable abbrev uh:Value->Shared->Prop:=λ_ _=>False
noncomputable abbrev pJ(c:List Expr) (a:Env):Sem Bool:=
 forIn c true λd b=>if b=true then do let z ←isTrue d a (eval d a);pure (ForInStep.yield z) else pure (ForInStep.yield b)
def nG(P:Program) (w:World) (B:Around) (c x:Expr) (h:List Expr) (a:Env) (i l:Value) (K:Shared->Prop) (v:Value) (g:Shared):Prop:=
 wpAny (model P w) B (letOwnedTupleGo c i v) (λ_ j=>wpAny (model P w) B (assign c a v) (λ_ k=>wpAny (model P w) B (pJ h a) (λf b=>
  if f=true then wpAny (model P w) B (eval x a) (λy e=>wpAny (model P w) B (call (.builtin "list.append") [l,y]) (λ_ d=>K d) uh e) uh b else K b) uh k) uh j) uh g
theorem Nv{R:Result->Shared->Prop}{j:List Expr}(J:Nat->Shared->Prop)
  (u:∀k d,J k d->wpAny (model P w) B (pyNext i) (λo f=>match o with
   |none=>R (.ok .next) f
   |some v=>nG P w B tg x j ev i l (λh=>∃g,g<k/\J g h) v f) uh d)
  (k:Nat)(q:J k sh):codeAny (model P w) B (.compLoop (.ListComp x [⟨tg,it,j,0⟩] sc ps) 0 i l ev) R sh:=by
 have a:∀{E:Value->Shared->Prop}(e:Value) (z:Shared),uh e z->E e z:=λ_ _ z=>z.elim
 refine codeAny_loop rfl J (λk d r=>wpAny_noted (by
  rw[compTurn_list];refine ab (Dr (ab (iA (u k d r) (λo f b=>?_) a)))
  match o,b with
  |none,b=>exact aq b
  |some v,b=>
   refine ab (iA b (λ_ G n=>ab (iA n (λ_ s p=>ab (iA p (λm H c=>?_) a)) a)) a)
   match m,c with
   |false,c=>exact aq (And.intro rfl c)
   |true,c=>exact ab (ab (iA c (λy C A=>ab (iA A (λ_ h t=>aq (aq (And.intro rfl t))) a)) a)))) k q
theorem UL{env:Env}:∀(b:List (Str×NameKind)) (d:List (Str×Addr)),(∀y∈b,y.2=.free->∃c,env.cells.lookup y.1=some c)->(∀x c,d.lookup x=some c->env.cells.lookup x=some c) ->
  ∃g:List (Str×Addr),(forIn b d (λx r=>if(x.2==NameKind.free)=true then do let a ←cellOf env x.1;pure (ForInStep.yield ((x.1,a)::r)) else pure (ForInStep.yield r)):Sem (List (Str×Addr)))=pure g /\
   (∀x c,g.lookup x=some c->env.cells.lookup x=some c)/\(∀x c,d.lookup x=some c->∃i,g.lookup x=some i)/\∀x,(x,NameKind.free)∈b->∃c,g.lookup x=some c:=by
 intro b
 induction b with
 |nil=>intro d _ j;exact⟨d,rfl,j,λx c e=>⟨c,e⟩,λx z=>(nomatch z)⟩
 |cons y r ih=>
  intro d p j;obtain⟨n,k⟩:=y;by_cases hk:k=.free
  ·subst hk;obtain⟨c,s⟩:=p (n,.free) dS rfl
   obtain⟨g,e,l,h,o⟩:=ih ((n,c)::d) (λy m=>p y (cr _ m)) (λx i e=>by
    rw[px] at e;by_cases f:x=n
    ·subst f;rw[vb] at e;cases e;exact s
    ·rw[vj.mpr f] at e
     exact j x i e)
   refine⟨g,?_,l,λx i u=>?_,λx f=>?_⟩
   ·rw[Oa];simp only[vb,ite_true];have q:cellOf env n=pure c:=by unfold cellOf;rw[s]
    rw[q];simp only[pure_bind];exact e
   ·by_cases f:x=n
    ·subst f;exact h x c (by rw[px,vb])
    ·exact h x i (by rw[px,vj.mpr f];exact u)
   ·rcases bU.mp f with z|z
    ·cases z;exact h n c (by rw[px,vb])
    ·exact o x z
  ·obtain⟨g,e,l,h,o⟩:=ih d (λy m=>p y (cr _ m)) j;refine⟨g,?_,l,h,λx f=>?_⟩
   ·rw[Oa];have t:(k==NameKind.free)=false:=by simpa using hk
    simp only[t,ku,jm,pure_bind];exact e
   ·rcases bU.mp f with z|z
    ·cases z;exact absurd rfl hk
    ·exact o x z
theorem TK{scope:Scope}{env:Env}(h:∀y∈scope.names,y.2=.free->∃c,env.cells.lookup y.1=some c):
  ∃cl,closureFor scope env=pure cl/\(∀x c,cl.lookup x=some c->env.cells.lookup x=some c)/\∀x,(x,NameKind.free)∈scope.names->∃c,cl.lookup x=some c:=by
 obtain⟨cl,e,h1,_,h3⟩:=UL (env:=env) scope.names [] h (λx c e=>(nomatch e));refine⟨cl,?_,h1,h3⟩;unfold closureFor;have e':=congrArg (λm=>m >>= λr=>(pure r:Sem (List (Str×Addr)))) e;simp only[pure_bind] at e';exact e'
theorem Dl{a:Env}:∀{b:List (Str×NameKind)}{x:Str}{k:NameKind},(b.map λ(n,k)=>if(k==NameKind.free&&a.scope.kind==.function&&a.kindOf n==some .cell) then(n,NameKind.cell) else(n,k)).lookup x=some k ->
  b.lookup x=some k\/(k=.cell/\b.lookup x=some .free)
 |[],_,_,h=>by simp at h
 | (n,k')::r,x,k,h=>by
  have d:=@Dl a r x k;have c:List.lookup x ((if(k'==NameKind.free&&a.scope.kind==.function&&a.kindOf n==some .cell)=true then(n,NameKind.cell) else(n,k'))::_)=_:=h;cases hx:x==n with
  |true=>
   by_cases hc:(k'==NameKind.free&&a.scope.kind==.function&&a.kindOf n==some .cell)=true
   ·rw[if_pos hc] at c;simp only[px,hx] at c ⊢;cases c;rw[gE,gE] at hc;exact .inr ⟨rfl,by rw[eq_of_beq hc.1.1]⟩
   ·rw[if_neg hc] at c;simp only[px,hx] at c ⊢;exact .inl c
  |false=>
   have e:(r.map λ(n,k)=>if(k==NameKind.free&&a.scope.kind==.function&&a.kindOf n==some .cell) then(n,NameKind.cell) else(n,k)).lookup x=some k:=by
    by_cases hc:(k'==NameKind.free&&a.scope.kind==.function&&a.kindOf n==some .cell)=true
    ·rw[if_pos hc] at c;simp only[px,hx] at c;exact c
    ·rw[if_neg hc] at c;simp only[px,hx] at c;exact c
   simp only[px,hx];exact d e
def fx(X:Cx) (N:List Str) (a:Scope) (b:List (Str×Addr)) (C:Addr) (c:List Addr) (s:Shared) (H:Hp):Cx:=
 {X with N:=N,s₀:=s,H₀:=H,env:=compEnvC a b C X.env,outer:=X.stack,ex:=c,fn:=λ_=>false,pn:=[],xe:=λ_ _=>False}
def fX(k:Nat) (is:List Nat) (a:St):St:=List.replicate k none++is.map λi=>(a[i]?).getD none
structure bG (X:Cx) (N:List Str) (k:Nat) (is:List Nat) (scope:Scope):Prop where
 kind:scope.kind=.function
 nocell:∀y∈scope.names,y.2≠.cell
 names:∀y∈scope.names,y.2=.local->scope.names.lookup y.1=some .local
 frees:∀y∈scope.names,y.2=.free->X.env.kindOf y.1=some .cell\/X.env.kindOf y.1=some .free
 len:N.length=k+is.length
 own:∀j i,is[j]?=some i->∃x,N[k+j]?=some x/\X.N[i]?=some x/\scope.names.lookup x=some .free
theorem CU{l:List (Str×NameKind)}(h:l.lookup x=some k):(x,k)∈l:=vm h
theorem Me{N:List Str}{T:List (Str×Addr)}{h1:Heap}(S:bG X N k is scope)(I:Inv X aW σ H s)
  (h:∀x c,T.lookup x=some c->X.env.cells.lookup x=some c)(c2:∀x,(x,NameKind.free)∈scope.names->∃c,T.lookup x=some c)
  (w:∀b∈Q,ed X aW H b)(E:∀b∈Q,∃o,s.heap.get? b=some o)(hn:h1.Ns s.heap.objs.size (λ_=>none))(t:∀b o,s.heap.get? b=some o->h1.get? b=some o):
  Inv (fx X N scope T s.heap.objs.size Q s H) [] (fX k is σ) H {s with heap:=h1,toks:=tk}:=by
 have hC:∀b o,s.heap.get? b=some o->b≠s.heap.objs.size:=λb o e=>dF (cu e)
 have R:∀b∈Q,b∉kI X.stack:=λb g z=>by
  rcases bU.mp (I.stkSub b z) with e|e
  ·exact(w b g).2.1 e
  ·exact(w b g).2.2.1 e
 refine⟨⟨I.ok.mod,S.kind,I.ok.glob,I.ok.blt,bj _,λx y c C d=>I.ok.inj x y c (h x c C) (h y c d),λx hx=>?_,λx c z=>?_,I.ok.hd,I.ok.frames,.inl rfl,λb g=>⟨?_,λx c e=>?_⟩,I.bs,ay I.ok.bsz I.sz,λb o e g=>?_,R,I.stack,I.stkFree⟩,
  rfl,I.bare,Un.kept t,⟨_,hn,λi x v C d e3=>?_⟩,λx c e=>?_,I.hok.fresh (bj _),λx c e=>I.freeC x c (h x c e),λp hp=>(nomatch hp),I.hok.kept t,?_,I.hnd⟩
 ·have A:(scope.names.map λ(n,k)=>if(k==NameKind.free&&X.env.scope.kind==.function&&X.env.kindOf n==some .cell) then(n,NameKind.cell) else(n,k)).lookup x=some .cell\/(scope.names.map λ(n,k)=>if(k==NameKind.free&&X.env.scope.kind==.function&&X.env.kindOf n==some .cell) then(n,NameKind.cell) else(n,k)).lookup x=some .free:=hx;have q:scope.names.lookup x=some .free:=by
   rcases A with z|z
   ·rcases Dl z with q|⟨_,q⟩
    ·exact absurd rfl (S.nocell _ (CU q))
    ·exact q
   ·rcases Dl z with q|⟨q,_⟩
    ·exact q
    ·cases q
  exact c2 x (CU q)
 ·cases z
 ·obtain⟨o,e⟩:=E b g;exact hC b o e
 ·exact(w b g).2.2.2.2.1 x c (h x c e)
 ·rcases(w b g).2.2.2.1 with z|z
  ·exact I.ok.noex b o e z
  ·exact absurd (dq (cu (I.ok.bs b o e).1) z) (nT _)
 ·-- a name of the def around
  unfold fX at d;have hi:k<=i:=by
   rcases mG i k with z|z
   ·rw[eR (by rw[zG];exact z),List.getElem?_replicate,if_pos z] at d;cases d
   ·exact z
  rw[me (by rw[zG];exact hi),zG,fq] at d;cases ej:is[i-k]? with
  |none=>rw[ej] at d;cases d
  |some j=>
   rw[ej] at d;have f:(σ[j]?).getD none=some v:=fW d;obtain⟨y,y1,y2,U⟩:=S.own (i-k) j ej;have ey:y=x:=by
    have z:N[i]?=some y:=by rw[←y1];congr 1;lia
    have l:N[i]?=some x:=C;rw[z] at l;exact fW l
   subst ey;have e4:σ[j]?=some (some v):=by
    cases q:σ[j]? with
    |none=>rw[q] at f;cases f
    |some o=>rw[q] at f;exact congrArg some f
   have kd:=S.frees _ (CU U) rfl;have Y:vB X.env.scope y:=.inr kd;obtain⟨m,_,hl⟩:=I.loc;obtain⟨u,r,lk⟩:=hl j y v y2 e4 Y;refine⟨u,r,?_⟩;rcases lk with⟨z,_⟩|⟨_,c,e5,cc⟩
   ·rcases kd with q|q<;>(rw[q] at z;cases z)
   ·obtain⟨J,e6⟩:=c2 y (CU U);have:J=c:=by
     have z:=h y J e6;rw[e5] at z;exact(fW z).symm
    subst this;refine .inr ⟨?_,J,e6,?_⟩
    ·rcases e3 with z|z|z
     ·exact absurd (Dl z) (by
       rw[U];rintro(q|⟨q,_⟩)
       ·cases q
       ·cases q)
     ·exact .inl z
     ·exact .inr z
    ·obtain⟨o,G,P⟩:=cc;exact⟨o,t _ o G,P⟩
 ·obtain⟨v,o,G,P⟩:=I.cell x c (h x c e);exact⟨v,o,t _ o G,P⟩
 ·unfold fX;rw[cx,zG,az];exact S.len.symm
theorem Mc{N:List Str}(I:Inv X aW σ H s)(f:∀b∈i,ed X aW H b)(J:Inv (fx X N scope cl s.heap.objs.size i s H) [] σ' H' s')
  (d:Heap.SameBut s.heap.objs.size s'.heap h'):Inv X aW σ H' {s' with heap:=h'}:=by
 have g:∀b o,s.heap.get? b=some o->b≠s.heap.objs.size:=λb o e=>dF (cu e)
 have k:H' s.heap.objs.size=none:=J.free;have B:Un (kI X.stack) i H H' s.heap s'.heap:=J.base
 have U:Un (kI X.stack) i H H' s.heap h':=⟨λb o e n h j=>d.extBut b o (g b o e) (B.keep b o e n h j),λb o e n h j=>by
   obtain⟨m,q⟩:=B.slot b o e n h j;exact⟨m,d.extBut b _ (g b o e) q⟩,B.free,λb o e p=>by
   obtain⟨l,q⟩:=B.there b o e p
   exact⟨l,d.extBut b l (g b o e) q⟩,B.tups,B.frzs,B.tbls⟩
 refine I.call' (s':={s' with heap:=h'}) J.os U (λa o e=>?_) J.bare (λb c=>⟨(f b c).2.2.2.1,(f b c).2.1,(f b c).2.2.2.2.1,(f b c).2.2.2.2.2⟩);refine(J.hok a o e).stay (λb u c q=>d.extBut b u ?_ q) (λ_ q=>q) λ_ _ q=>q
 rcases c with z|z
 ·intro y;rw[z] at y;rw[y,k] at e;cases e
 ·intro y;rw[y,k] at z;cases z
structure uf (X:Cx) (aW:List (Addr×Obj)) (H:Hp) (C:Addr):Prop where
 free:H C=none
 loc:C≠X.env.locals
 young:X.s₀.heap.objs.size<=C
 cell:∀x c,X.env.cells.lookup x=some c->c≠C
 pin:∀p∈X.pn++aW,p.1≠C
theorem uf.back(o:uf X aW H C)(I:Inv X aW σ H s)(a:Heap.SameBut C s.heap h'):Inv X aW σ H {s with heap:=h'}:=
 I.turned (t':=s.toks) (λb u c e=>a.extBut b u c e) o.free o.loc (.inr o.young) o.cell o.pin
def SC(p:Addr) (f:TE) (g:TT) (N:St->Hp->Prop):St->Hp->Prop:=λa H3=>g a H3 λb d=>
 if b=true then f a d λy e=>∃c,e p=some (.lst c)/\c.length<sizeLine/\N a (ar e p (.lst (c++[y]))) else N a d
def BP(J:It) (g:TG) (f:TT) (e:TE) (Q:VK) (p:Addr) (h:St) (H:Hp):Prop:=∃W:Nat->Nat->St->Hp->Prop,(∃m,W 0 m h H) /\
 ∀i m a c,W i m a c->(J.stop i c/\Q (.ref p) c)\/(J.go i c/\∃N:St->Hp->Prop,(∀b H2,N b H2->∃d,d<m/\W (i+1) d b H2)/\∀x H2,J.yld i c x H2->g x a H2 (SC p e f N))
def kz(c:TI) (k:Nat) (is:List Nat) (g:TG) (d:TT) (b:TE):TE:=λa H Q=>c a H λJ H1=>∀p,H1 p=none->BP J g d b Q p (fX k is a) (ar H1 p (.lst []))
def OV:TT:=λ_ H Q=>Q true H
def ot(X:Cx) (b:List Expr) (t:TT):Prop:=
 ∀(d:List (Addr×Obj)) (s:Shared) (a:St) (H:Hp) (Q:Bool->Hp->Prop),Inv X d a H s->t a H Q ->
  wpAny (model X.prog X.w) X.A (forIn b true λc r=>if r=true then do let ok ←isTrue c X.env (eval c X.env);pure (ForInStep.yield ok) else pure (ForInStep.yield r)) (TP X d a Q) X.xe s
theorem KJ:ot X [] OV:=λa s b H Q I h=>wpAny_tests_nil ⟨H,I,h⟩
theorem KL(h:PT X c t):ot X [c] t:=λa s d H Q I b=>wpAny_tests_one (h a s d H Q I b)
section
variable {X:Cx}{tg:Expr}{iter:Expr}{elt:Expr}{ifs:List Expr}{g:TG}{tc:TT}{te:TE}{N:List Str}{k:Nat}{is:List Nat}{scope:Scope}{pos:Pos}
theorem Rw(w:X.calm=true)(hg:∀l C j s H,PG (fx X N scope l C j s H) tg g)(hc:∀l C j s H,ot (fx X N scope l C j s H) ifs tc)(he:∀l C j s H,PE (fx X N scope l C j s H) elt te)
  (S:bG X N k is scope){aW:List (Addr×Obj)}{σ:St}{H2:Hp}{s2:Shared}{l:List (Str×Addr)}{it:Addr}{j:List Addr}{tn:Nat->Heap->Prop}{J:It}{Q:VK}{E:Value->Shared->Prop}{RR:Value->Addr->Result->Shared->Prop}
  (I2:Inv X aW σ H2 s2)(T:jc X.prog X.w X.K tg J j it tn)(a6:tn 0 s2.heap)(f2:∀b∈j,ed X aW H2 b)
  (c1:∀x c,l.lookup x=some c->X.env.cells.lookup x=some c)(c2:∀x,(x,NameKind.free)∈scope.names->∃c,l.lookup x=some c)
  (h:∀p,H2 p=none->∃W:Nat->Nat->St->Hp->Prop,(∃m,W 0 m (fX k is σ) (ar H2 p (.lst []))) /\
   ∀i m a H',W i m a H'->(J.stop i H'/\Q (.ref p) H')\/(J.go i H'/\∃N:St->Hp->Prop,(∀a3 H2,N a3 H2->∃G,G<m/\W (i+1) G a3 H2)/\∀x H2,J.yld i H' x H2->g x a H2 (SC p te tc N)))
  (hR:∀(p C:Addr) (z:Shared) (H':Hp) (m:Str->Option Value),uf X aW H' C->z.heap.Ns C m->Inv X aW σ H' z->Q (.ref p) H'->RR (.ref p) C (.ok .next) z):
  wpAny (model X.prog X.w) X.A (newList []) (λa9 a4=>wpAny (model X.prog X.w) X.A (newFunctionEnv scope X.env.globals l [] X.env.qual none .none (some X.env)) (λU b2=>
   codeAny (model X.prog X.w) X.A (.compStart (.ListComp elt [⟨tg,iter,ifs,0⟩] scope pos) 0 (.ref it) a9 {U with scope:=relabel scope X.env}) (RR a9 U.locals) b2) E a4) E s2:=by
 refine kq ?_;have fresh:H2 s2.heap.objs.size=none:=I2.fresh;have I3:Inv X aW σ (ar H2 s2.heap.objs.size (.lst [])) { s2 with heap:=s2.heap.push { cls:=.type "list",dict:=none,data:=.seq ([]:List Value).toArray } }:=I2.lnew (t':=s2.toks) (.nil) (by decide)
 generalize hs3:({ s2 with heap:=s2.heap.push { cls:=.type "list",dict:=none,data:=.seq ([]:List Value).toArray } }:Shared)=s3 at I3
 have k3:∀b o,s2.heap.get? b=some o->s3.heap.get? b=some o:=λb o e=>by rw[←hs3];exact cg _ e
 refine wpAny_newFunctionEnv S.nocell (by intro y hy;simp at hy) (λh₁ I P=>?_) S.kind;have a0:tn 0 s3.heap:=T.keep _ _ _ a6 λb _ o e=>k3 b o e
 have f3:∀b∈j,ed X aW (ar H2 s2.heap.objs.size (.lst [])) b:=λb t=>by
  obtain⟨o,e,_⟩:=T.obj _ _ a6 b t;exact⟨by rw[zo (dF (cu e))];exact(f2 b t).1,(f2 b t).2⟩
 have k4:∀b o,s3.heap.get? b=some o->h₁.get? b=some o:=λb o e=>P.extBut b o (dF (cu e)) (cg _ e)
 have J4:=Me (tk:=s3.toks+([]:List (Str×Value)).length) S I3 c1 c2 f3 (λb t=>let ⟨o,e,_⟩:=T.obj _ _ a0 b t;⟨o,e⟩) I k4;obtain⟨W,⟨m0,w0⟩,b4⟩:=h s2.heap.objs.size fresh;have b3:tn 0 h₁:=T.keep _ _ _ a0 λb _ o e=>k4 b o e
 have Y:codeAny (model X.prog X.w) X.A (.compLoop (.ListComp elt [⟨tg,iter,ifs,0⟩] scope pos) 0 (.ref it) (.ref s2.heap.objs.size) (compEnvC scope l s3.heap.objs.size X.env)) (RR (.ref s2.heap.objs.size) s3.heap.objs.size) {s3 with heap:=h₁,toks:=s3.toks+([]:List (Str×Value)).length}:=by
  have A:∀{H':Hp},(∀b∈j,H' b=none)->∀b∈j,ed (fx X N scope l s3.heap.objs.size j s3 (ar H2 s2.heap.objs.size (.lst []))) [] H' b:=λ{H'} hn b t=>by
   obtain⟨o,e,_⟩:=T.obj _ _ a0 b t;refine⟨hn b t,dF (cu e),J4.ok.exfs b t,.inl t,λx c e'=>(f3 b t).2.2.2.2.1 x c (c1 x c e'),λp hp=>(nomatch hp)⟩
  refine Nv (λn z=>∃i a H',Inv (fx X N scope l s3.heap.objs.size j s3 (ar H2 s2.heap.objs.size (.lst []))) [] a H' z/\tn i z.heap/\(∀b∈j,H' b=none)/\W i n a H') ?_ m0
   ⟨0,_,_,J4,b3,λb t=>(f3 b t).1,w0⟩
  rintro n s5 ⟨i,R,H5,I5,a8,b1,w5⟩;rcases b4 i n R H5 w5 with⟨a5,q⟩|⟨go,N',a7,step⟩
  ·refine bi (T.done (fx X N scope l s3.heap.objs.size j s3 (ar H2 s2.heap.objs.size (.lst []))) rfl rfl rfl w i [] s5 R H5 _ I5 (A b1) a8 a5) λr s6 f=>?_
   obtain⟨hr,I6⟩:=f;subst hr;obtain⟨m,hm,_⟩:=I6.loc;refine hR _ _ s6 H5 m ⟨I6.free,nS I3.lt,I3.sz,λx c e=>?_,λp hp=>dF (cu (I3.pin p hp).1)⟩ hm (Mc (h':=s6.heap) I3 f3 I6 (.refl ..)) q;obtain⟨v,o,ho,_⟩:=I3.cell x c e;exact dF (cu ho)
  ·refine bi (T.item (fx X N scope l s3.heap.objs.size j s3 (ar H2 s2.heap.objs.size (.lst []))) rfl rfl rfl w i [] s5 R H5 _ I5 (A b1) a8 go) λr s6 f=>?_
   obtain⟨u,hr,h6⟩:=f;subst hr;refine bi h6 λ_ s7 f=>?_
   obtain⟨x,H7,I7,r7,y7,a2,c0⟩:=f;have b8:=I7.pinned (A c0) (T.obj _ _ a2);refine bi (hg l s3.heap.objs.size j s3 _ _ s7 R H7 x u _ b8 r7 (step x H7 y7)) λ_ s8 f=>?_
   obtain⟨a1,H8,I8,q8⟩:=f;refine bi (hc l s3.heap.objs.size j s3 _ _ s8 a1 H8 _ I8 q8) λb s9 f=>?_
   obtain⟨H9,I9,q9⟩:=f;have again:∀{a:St}{H':Hp}{z:Shared}{G:Nat},Inv (fx X N scope l s3.heap.objs.size j s3 (ar H2 s2.heap.objs.size (.lst []))) ([]++gY j s7.heap) a H' z->G<n->W (i+1) G a H' ->
     ∃m,m<n/\∃i a H',Inv (fx X N scope l s3.heap.objs.size j s3 (ar H2 s2.heap.objs.size (.lst []))) [] a H' z/\tn i z.heap/\(∀b∈j,H' b=none)/\W i m a H':=λ{a H' z G} I' hm w'=>by
    refine⟨G,hm,i+1,a,H',I'.unpinned,T.keep _ _ _ a2 λb t o e=>(I'.pin (b,o) (gG _ (gG _ (CV t e)))).1,λb t=>?_,w'⟩;obtain⟨o,e,d⟩:=T.obj _ _ a2 b t;exact(I'.pin (b,o) (gG _ (gG _ (CV t e)))).2.1
   cases b with
   |false=>
    obtain⟨G,hm,w'⟩:=a7 _ _ q9;exact again I9 hm w'
   |true=>
    refine bi (he l s3.heap.objs.size j s3 _ _ s9 a1 H9 _ I9 q9) λv c6 f=>?_
    obtain⟨y,b0,c3,b7,xs,c5,hz,b5⟩:=f;obtain⟨G,hm,w'⟩:=a7 _ _ b5;refine bi (Q9 (X:=fx X N scope l s3.heap.objs.size j s3 (ar H2 s2.heap.objs.size (.lst []))) _ c6 a1 b0 (.ref s2.heap.objs.size) [y] _ [v] (λ_ H'=>H'=ar b0 s2.heap.objs.size (.lst (xs++[y]))) c3 rfl (.cons b7 .nil) ⟨_,xs,y,rfl,rfl,c5,hz,rfl⟩) λ_ c9 f=>?_
    obtain⟨_,c8,c4,_,b6⟩:=f;subst b6;exact again c4 hm w'
 have c7:s2.heap.push { cls:=.type "list",dict:=none,data:=.seq ([]:List Value).toArray }=s3.heap:=by rw[←hs3]
 have b9:=codeAny_compStart_list (elt:=elt) (target:=tg) (iter:=iter) (ifs:=ifs) (rest:=[]) (scope:=scope) (pos:=pos) Y (T.self X.A 0 _ _ _ b3 Y);exact b9
end
theorem RW{N:List Str}(S:bG X N k is scope) (I:Inv X aW σ H s):
  ∃a,closureFor scope X.env=pure a/\(∀x c,a.lookup x=some c->X.env.cells.lookup x=some c)/\∀x,(x,NameKind.free)∈scope.names->∃c,a.lookup x=some c:=
 TK λy d b=>I.ok.has y.1 (S.frees y d b)
theorem KC{X:Cx}{N:List Str}(a:X.calm=true)(R:PI X tg iter wi)(r:∀c C b s H,PG (fx X N scope c C b s H) tg g)(t:∀c C b s H,ot (fx X N scope c C b s H) ifs tc)(U:∀c C b s H,PE (fx X N scope c C b s H) elt te)
  (S:bG X N k is scope)(E:∀x,foldedSetIterable iter X.env x=pure x:=by intro _;rfl):PE X (.ListComp elt [⟨tg,iter,ifs,0⟩] scope pos) (kz wi k is g tc te):=by
 intro n s l H Q I h;obtain⟨c,e,v,y⟩:=RW S I;rw[eval_ListComp];refine wpAny_comprehension_free (use:=none) rfl E e S.kind S.names (bi (R n s l H _ I h) λxv s1 h1=>bi h1 λP s2 Y=>?_);obtain⟨it,b,tn,J,H2,z,G,T,f,f2,u⟩:=Y;subst z;refine Rw (Q:=Q) (RR:=λj C=>compPost (model X.prog X.w) X.A X.xe none (EP X n l Q) j C) a r t U S G T f f2 v y u ?_;intro p C s' w m i o A q;exact⟨m,o,λh' d=>⟨.ref p,w,i.back A d,rfl,q⟩⟩
theorem KR{X:Cx}{N:List Str}(c:X.calm=true)(hN:X.N.Nodup)(E:X.N[i]?=some x)(hx:Loc X.env.scope x)(hi:PI X tg iter wi)(hg:∀j C f s H,PG (fx X N scope j C f s H) tg g)(hc:∀j C f s H,ot (fx X N scope j C f s H) ifs tc)
  (he:∀j C f s H,PE (fx X N scope j C f s H) elt te)(S:bG X N k is scope){b:Pos}(u:swapsWith (.ListComp elt [⟨tg,iter,ifs,0⟩] scope pos) (some (.Name x pos')) b.line X.env=pure true:=by rfl)
  (hf:X.fn x=true\/X.env.scope.names.lookup x=some .local:=by first|exact .inl rfl|exact .inr rfl|assumption)
  (R:∀x,foldedSetIterable iter X.env x=pure x:=by intro _;rfl):PS X (.Assign [.Name x pos'] (.ListComp elt [⟨tg,iter,ifs,0⟩] scope pos) b) (pO (kz wi k is g tc te) (jx i)):=by
 intro A s U H D I h;obtain⟨j,e,c1,c2⟩:=RW S I;rw[exec_Assign_Name_used (hs:=u)];refine ab (Dr (ab (?_:wpAny _ X.A _ _ _ s)));show wpAny _ X.A (do let _ ←comprehension (.ListComp elt [⟨tg,iter,ifs,0⟩] scope pos) scope X.env _ (newList []) false (eval iter X.env) (some (assign (.Name x pos') X.env))) _ _ s
 refine ab (iA (wpAny_comprehension_free (use:=some (assign (.Name x pos') X.env)) (Q:=λ_ l=>SP X A D .next l) rfl R e S.kind S.names
  (bi (hi A s U H _ I h) λxv s1 h1=>bi h1 λa0 s2 h2=>?_)) (λ_ l hq=>aq (aq hq)) λ_ _ e=>e)
 obtain⟨it,f,tn,J,H2,e2,I2,T,w,f2,h3⟩:=h2;subst e2;refine Rw (Q:=λv o=>jx i v U o D.nx) (RR:=λP C=>compPost (model X.prog X.w) X.A X.xe (some (assign (.Name x pos') X.env)) (λ_ l=>SP X A D .next l) P C) c hg hc he S I2 T w f2 c1 c2 h3 ?_;intro p C l o m d Y I' q;show wpAny _ X.A (assign (.Name x pos') X.env (.ref p)) _ _ _;refine wpAny_assign_Name (Rk (v:=.ref p) I' hN E hx rfl (λa1 G t=>?_) hf);obtain⟨a,y,ha⟩:=t;have n:C≠a:=by
  rcases ha with z|z
  ·rw[z];exact d.loc
  ·exact(d.cell x a z).symm
 exact⟨m,Y.sameBut y n,λh' r=>⟨_,o,d.back G r,q⟩⟩
def Callee(P:Program) (w:World) (K:Fg) (a:Str->Option Value) (base:Heap) (x:Str) (k:Nat) (b:List Str) (d:Sp):Prop:=
 ∃f c,gf P w K a base jE k f c b d/\Binds K c b []/\W.keepIn K (.ref f)=true/\a x=some (.ref f)
theorem MF{X:Cx}(c:Callee X.prog X.w X.K X.mg X.base x k ps sp)(g:bR k X.A)(j:Gl X x)(h:PA X (e::es) t)(d:(x==("__debug__" : Str))=false:=by decide)
  (l:starEach (e::es) X.env=(false,eval e X.env)::starEach es X.env:=by rfl)(a:(backTo pos (starEach es X.env)).any (·.1)=false:=by rfl):
  PE X (.Call (.Name x p) (e::es) [] pos) (mT sp [] E0 t):=by
 obtain⟨f,n,F,b,i,m⟩:=c;exact KA F g j m i b .nil AL h d l a
noncomputable def ah(K:Fg) (x:Str) (a:Stmt):Prop:=
 ∃f b,W.nsIn K mainGlobals x=some (some (.ref f))/\pZ K x x a f b
theorem VW{K:Fg}{x:Str}{au:Stmt}{f:Addr}{d m:Option Addr}{e:Array (Option Value)}{j kV h i b g:Value}
  (a:W.nsIn K mainGlobals x=some (some (.ref f)))(l:K.lookup f=some ⟨j,d,.func (W.fnOf x x (cT au) (bD au) (ag au) .none kV h i m b g),e⟩)(c:W.codeIn K b x=true)(k:W.keepIn K (.ref f)=true):ah K x au:=
 ⟨f,_,a,Hz l c k⟩
theorem Nt{P:Program}{w:World}{K:Fg}{j:Str->Option Value}{base h:Heap}{x:Str}{c:Stmt}{N g:List Str}{k:Nat}{sp:Sp}(T:ah K x c)(X:K.In h)(G:h.Ns mainGlobals j)(S:cV N g (ag c))
  (n:∀(kV l p:Value) (r:Option Addr) (b q:Value) (m:List Value),m.length=g.length->bindArgs (W.fnOf x x (cT c) (bD c) (ag c) .none kV l p r b q) ⟨m,[]⟩=pure (g.zip m))
  (len:∀i H Q E,sp i H Q E->i.length=g.length)
  (d:∀(f:Addr) (b:Value) (A:Around) (e:List Env) (s:Shared) (H:Hp) (i:List V) (Q:VK) (E:XK),bR k (A.deeper (envOfC x (ag c) s.heap.objs.size f b))->sp i H Q E ->
   ∃t,jC (gs jE P w K j base N x (ag c) f b A e s H E).nox (bD c) t/\t {nx:=λ_ u=>Q .non u,rt:=Q} (start N i) H):Callee P w K j base x (k+1) g sp:=by
 obtain⟨f,o,a,F⟩:=T;exact⟨f,o,F.ok S len (d f),F.binds n,F.kp,yQ X G a⟩
theorem FI:bV X (.builtin "isinstance") (λc H Q=>∃ x T t b,c=[x,.ty T]/\fE X.K H x t/\W.kitOne X.K t (.type T)=some b/\Q (.bl b) H):=by
 intro j s l H c k Q I r h;obtain⟨x,T,t,b,rfl,d,e,q⟩:=h;obtain⟨u,i,rfl,g,a⟩:=vals2 r;cases(show i=Value.type T from a);exact NK I g d e λf=>⟨.bl b,H,I.tok f,rfl,q⟩
noncomputable def gp(i j:Int):Prop:=0<j/\j<2^1000
theorem Cz:dH X (binaryOp .FloorDiv) (rI gp λi j=>.int (i/j)):=vy λi j _ _ _ _ _ a q=>by
 have e:i.fdiv j=i/j:=Sy i (by have:=a.1;lia);refine floordiv_int (by have:=a.1;lia) (by rw[e];exact q) (.inl (PyProof.noPylong_of_log2 ?_));have b:j.natAbs<2^1000:=by
  have h:=a.1;have g:=a.2;have f:(j.natAbs:Int)=j:=by lia
  have d:(j.natAbs:Int)<((2^1000:Nat):Int):=by
   rw[f];exact_mod_cast g
  exact_mod_cast d
 have c:j.natAbs≠0:=by have:=a.1;lia
 have:=(Nat.log2_lt c).mpr b;lia
noncomputable def jy(a:List Str) (xs:List (Str×NameKind)) (N:List Str) (k:Nat) (is:List Nat) (scope:Scope):Bool:=
 (scope.kind==.function)&&scope.names.all (λy=>y.2 != .cell)&&scope.names.all (λy=>y.2 != .local||scope.names.lookup y.1==some .local) &&
 scope.names.all (λy=>y.2 != .free||(xs.lookup y.1==some .cell||xs.lookup y.1==some .free))&&(N.length==k+is.length) &&
 (List.range is.length).all (λj=>match is[j]?,N[k+j]? with
  |some i,some x=>a[i]?==some x&&scope.names.lookup x==some .free
  |_,_=>false)
theorem qa{X:Cx}{N:List Str}(h:jy X.N X.env.scope.names N k is scope=true):bG X N k is scope:=by
 unfold jy at h;simp only[gE,di] at h;obtain⟨⟨⟨⟨⟨c,m⟩,l⟩,g⟩,f⟩,b⟩:=h;refine⟨eq_of_beq c,λy a e=>?_,λy a e=>?_,λy a e=>?_,eq_of_beq f,λj i e=>?_⟩
 ·have:=m y a;rw[e] at this;simp at this
 ·have:=l y a;rw[e] at this;simp at this;exact this
 ·have:=g y a;rw[e] at this;simp at this;exact this
 ·have d:j<is.length:=(cn.mp e).1;have:=b j (bT.mpr d);rw[e] at this;cases e2:N[k+j]? with
  |none=>rw[e2] at this;cases this
  |some x=>
   rw[e2] at this;simp only[gE,mE] at this;exact⟨x,rfl,this.1,this.2⟩
theorem ki:bootBuiltins "len"=some (.builtin "len"):=by decide +kernel
theorem GT:bootBuiltins "abs"=some (.builtin "abs"):=by decide +kernel
theorem uk:bootBuiltins "min"=some (.builtin "min"):=by decide +kernel
theorem GW:bootBuiltins "max"=some (.builtin "max"):=by decide +kernel
theorem rV:bootBuiltins "sum"=some (.builtin "sum"):=by decide +kernel
theorem oK:bootBuiltins "sorted"=some (.builtin "sorted"):=by decide +kernel
theorem wZ:bootBuiltins "all"=some (.builtin "all"):=by decide +kernel
theorem FQ:bootBuiltins "isinstance"=some (.builtin "isinstance"):=by decide +kernel
theorem GV:bootBuiltins "int"=some (.type "int"):=by decide +kernel
theorem Jj:bootBuiltins "bool"=some (.type "bool"):=by decide +kernel
theorem lS:bootBuiltins "tuple"=some (.type "tuple"):=by decide +kernel
theorem Jk:bootBuiltins "list"=some (.type "list"):=by decide +kernel
theorem Ni(h:H p=some o):ar H p o=H:=by
 funext b
 unfold ar;split
 ·subst b;exact h.symm
 ·rfl
end L2
namespace Srt
open PySem.W PyProof.Rows
section
variable (r:Nat->Nat)
noncomputable def lt(i j:Nat):Bool:=decide (r i<r j)
noncomputable def At(p:Array Nat) (i:Nat):Nat:=r (p.getD i 0)
def Up(p:Array Nat) (n:Nat):Prop:=∀i j,i<=j->j<n->At r p i<=At r p j
end
noncomputable def ff(h:Heap) (d:Addr) (a:List Value):Heap:=((h.update d (Obj.mapSeq λ_=>(#[]:Array Value))).push (seqObj "tuple" a.toArray 0)).push (seqObj "list" #[] 0)
theorem RQ{h:Heap}(a:b≠d)(e:h.get? b=some ob):(ff h d xs).get? b=some ob:=
 cg _ (cg _ ((Heap.get?_update_ne _ _ _ _ a).trans e))
def Answers(P:Program) (w:World) (B:Around) (r:Nat->Nat) (a:List Value) (b:Shared):Prop:=
 ∃c,(∀R:SortKind->Shared->Prop,R c b->wpAny (model P w) B (keyKind' a.toArray) R (λ_ _=>False) b) /\
  ∀i j C,i<a.length->j<a.length->C (lt r i j) b->kas_ask P w B c a i j C b
noncomputable def dz(a:List Value) (p:Array Nat):Array Value:=List.toArray (p.toList.map λi=>a.getD i Value.none)
theorem Ti{a:List Value}(h:a.length<2):(a.toArray.zip a.toArray).map (·.2)=dz a (List.toArray (List.range a.length)):=by
 unfold dz
 match a,h with
 |[],_=>simp
 |[_],_=>simp[va]
 |_::_::_,h=>exact absurd h (by simp)
end Srt
namespace Srt
open PySem.W PyProof.Rows HT
theorem FF:∀a:List Int,lexLt a a=false
 |[]=>rfl
 |x::a=>by rw[rB,if_pos rfl];exact FF a
theorem CN:∀{a b c:List Int},lexLt a b=true->lexLt b c=true->lexLt a c=true
 |_,[],[],_,h=>by rw[Db] at h;cases h
 |_,_::_,[],_,h=>by rw[Di] at h;cases h
 |[],[],_::_,h,_=>by rw[Db] at h;cases h
 |_::_,[],_::_,h,_=>by rw[Di] at h;cases h
 |[],_::_,_::_,_,_=>wC _ _
 |x::a,y::b,z::c,h1,h2=>by
  rw[rB] at h1 h2 ⊢;by_cases e1:x=y
  ·rw[if_pos e1] at h1;subst e1;by_cases e2:x=z
   ·rw[if_pos e2] at h2 ⊢;exact CN h1 h2
   ·rw[if_neg e2] at h2 ⊢;exact h2
  ·rw[if_neg e1] at h1;have e:=gU h1;by_cases e2:y=z
   ·subst e2;rw[if_neg e1];exact h1
   ·rw[if_neg e2] at h2;have d:=gU h2;rw[if_neg (by lia)];exact eK (by lia)
theorem B6:∀a b:List Int,lexLt a b=true\/a=b\/lexLt b a=true
 |[],[]=>.inr (.inl rfl)
 |[],_::_=>.inl (wC _ _)
 |_::_,[]=>.inr (.inr (wC _ _))
 |x::a,y::b=>by
  rw[rB,rB];by_cases e:x=y
  ·subst e;rw[if_pos rfl,if_pos rfl];rcases B6 a b with h|h|h
   ·exact .inl h
   ·exact .inr (.inl (by rw[h]))
   ·exact .inr (.inr h)
  ·rw[if_neg e,if_neg (λz=>e z.symm)];rcases Int.lt_or_gt_of_ne e with h|h
   ·exact .inl (eK h)
   ·exact .inr (.inr (eK h))
theorem NO{a b:List Int}(h:lexLt a b=true):lexLt b a=false:=by
 cases e:lexLt b a with
 |false=>rfl
 |true=>have:=CN h e;rw[FF] at this;cases this
theorem Qf(a:∀x,p x=true->q x=true):∀{l:List Nat}{y:Nat},y∈l->q y=true->p y=false->l.countP p<l.countP q
 |[],_,h,_,_=>nomatch h
 |x::l,y,h,h1,h2=>by
  have b:∀l:List Nat,l.countP p<=l.countP q:=λl=>List.countP_mono_left λx _=>a x
  rcases bU.mp h with rfl|h
  ·rw[D3 h1,OH (by rw[h2];decide)];exact Nat.lt_succ_of_le (b l)
  ·have e:=Qf a h h1 h2;by_cases c:p x=true
   ·rw[D3 c,D3 (a x c)];lia
   ·rw[OH c];by_cases d:q x=true
    ·rw[D3 d];lia
    ·rw[OH d];exact e
def fO(a:List (List Int)) (i:Nat):Nat:=(List.range a.length).countP λk=>lexLt (a.getD k []) (a.getD i [])
theorem EK{ks:List (List Int)}(k:i<ks.length)(f:j<ks.length):lt (fO ks) i j=lexLt (ks.getD i []) (ks.getD j []):=by
 have c:∀{a b:Nat},a<ks.length->lexLt (ks.getD a []) (ks.getD b [])=true->fO ks a<fO ks b:=λ{a b} d h=>
  Qf (λx g=>CN g h) (bT.mpr d) h (FF _)
 cases e:lexLt (ks.getD i []) (ks.getD j []) with
 |true=>exact eK (c k e)
 |false=>
  refine dM λh=>?_
  rcases B6 (ks.getD i []) (ks.getD j []) with z|z|z
  ·rw[e] at z;cases z
  ·unfold fO at h;rw[z] at h;exact absurd h (nT _)
  ·have:=c f z;lia
section
variable {prog:Program}{w:World}{A:Around}{s:Shared}{b:Bool}{Q:Bool->Shared->Prop}
theorem Qo:∀{c a:List Value}{d f:List Int}(i:Nat),IntsAre c d->IntsAre a f->Q (lexLt d f) s->KatLex prog w A b (decide (c.length<a.length)) Q (c.zip a) i s
 |_,_,_,_,_,.nil,.nil,h=>h
 |_,_,_,_,_,.nil,.cons _ _ _,h=>h
 |_,_,_,_,_,.cons _ _ _,.nil,h=>h
 |_,_,_,_,i,.cons x t (vs:=c) (ns:=d) r1,.cons y u (vs:=a) (ns:=f) r2,h=>by
  rw[rB] at h;refine kat_cons (wpAny_eqBool_int (kat_go (λe=>kat_yes ?_) λe=>kat_no ?_))
  ·rw[if_pos (eq_of_beq e)] at h;have q:=Qo (i+1) r1 r2 h;have g:decide ((Value.int x t::c).length<(Value.int y u::a).length)=decide (c.length<a.length):=by
    rw[dN,dN,mJ];simp
   rw[g];exact q
  ·rw[if_neg (vj.mp e)] at h;cases hb:(b&&i==0) with
   |true=>exact oneLt_int h
   |false=>exact kat_one _ _ (PyProof.Rows.lt_int h)
end
end Srt
namespace L2
open Spec PyProof.Rows PySem.W
theorem Ro:∀{b:List Addr}{c:List Value},aj (b.map V.ref) c->c=b.map Value.ref
 |[],_,.nil=>rfl
 |a::b,_,.cons r t=>by
  rw[show _=Value.ref a from r,Ro t]
  rfl
def tZ(K:Fg) (H:Hp) (a:List (Addr×List Int)):Prop:=∀p∈a,bH K H p.1 (p.2.map V.int)
theorem zn{a b:Type}(f:a->b)(d:b){l:List a}{i:Nat}{x:a}(h:l[i]?=some x):(l.map f).getD i d=f x:=by
 rw[dO,fq,h]
 rfl
end L2
namespace L2
open Spec PyProof.Rows
mutual
inductive mj (K:Fg) (H:Hp):V->PyData->Prop
 |non:mj K H .non .none
 |bl (b:Bool):mj K H (.bl b) (.bool b)
 |int (i:Int):mj K H (.int i) (.int i)
 |str (x:Str):mj K H (.str x) (.str x)
 |lst {a:Addr}{xs:List V}{ds:List PyData}:du K H a xs->kc K H xs ds->mj K H (.ref a) (.list ds)
 |tup {a:Addr}{xs:List V}{ds:List PyData}:bH K H a xs->kc K H xs ds->mj K H (.ref a) (.tuple ds)
inductive kc (K:Fg) (H:Hp):List V->List PyData->Prop
 |nil:kc K H [] []
 |cons {x:V}{xs:List V}{d:PyData}{ds:List PyData}:mj K H x d->kc K H xs ds->kc K H (x::xs) (d::ds)
end
section
variable {X:Cx}{aW:List (Addr×Obj)}{σ:St}{H:Hp}{s:Shared}
mutual
theorem v9(I:Inv X aW σ H s):∀{v:V}{d:PyData}{u:Value},mj X.K H v d->RelV v u->∃g,Reads s.heap u d g
 |_,_,_,.non,r=>by cases r;exact⟨_,.none⟩
 |_,_,_,.bl b,r=>by cases r;exact⟨_,.bool b⟩
 |_,_,_,.int i,r=>by obtain⟨t,rfl⟩:=r;exact⟨_,.int i t⟩
 |_,_,_,.str x,r=>by obtain⟨t,rfl⟩:=r;exact⟨_,.str x t⟩
 |_,_,_,.lst h all,r=>by
  cases r;obtain⟨a,j,⟨o,n,e,c,_,f⟩,_⟩:=I.list h;obtain⟨g,q⟩:=FK I all j;exact⟨_,.list e c f q⟩
 |_,_,_,.tup h all,r=>by
  cases r;obtain⟨a,j,⟨o,e,c,n,f⟩,_⟩:=I.tuple h;obtain⟨g,q⟩:=FK I all j;exact⟨_,.tuple e c f q⟩
theorem FK(I:Inv X aW σ H s):∀{c:List V}{a:List PyData}{d:List Value},kc X.K H c a->aj c d->∃b,ReadsAll s.heap d a b
 |_,_,_,.nil,.nil=>⟨_,.nil⟩
 |_,_,_,.cons h t,.cons r rs=>by
  obtain⟨b,q⟩:=v9 I h r;obtain⟨f,e⟩:=FK I t rs;exact⟨_,.cons q e⟩
end
end
def tE(K:Fg) (c:Bool):R2:=λx y H Q=>∃a b,mj K H x a/\mj K H y b/\PySem.SeqAt.shaped a=true/\PySem.SeqAt.shaped b=true/\Q (.bl (if c then !PyData.eqv a b else PyData.eqv a b)) H
section
variable {X:Cx}
theorem rc(b:X.A.units+64<cLine):dH X (compareOp .Eq) (tE X.K false):=by
 intro m s p H x y v u Q I d l h;obtain⟨i,f,g,j,c,e,q⟩:=h;obtain⟨o,a⟩:=v9 I g d;obtain⟨n,k⟩:=v9 I j l;exact eq_dataH a k c e b ⟨.bl (PyData.eqv i f),H,I,rfl,q⟩
theorem vH(b:X.A.units+64<cLine):dH X (compareOp .NotEq) (tE X.K true):=by
 intro m s p H x y v u Q I d l h;obtain⟨i,f,g,j,c,e,q⟩:=h;obtain⟨o,a⟩:=v9 I g d;obtain⟨n,k⟩:=v9 I j l;exact ne_dataH a k c e b ⟨.bl (!PyData.eqv i f),H,I,rfl,q⟩
end
noncomputable def dI(a:List Int):List PyData:=a.map PyData.int
def d5(a:List Int):PyData:=.tuple (dI a)
theorem rZ:∀a b:List Int,PyData.eqvAll (dI a) (dI b)=decide (a=b)
 |[],[]=>by rfl
 |[],_::_=>by rfl
 |_::_,[]=>by rfl
 |x::a,y::b=>by
  show(x==y&&PyData.eqvAll (dI a) (dI b))=_;rw[rZ a b,mJ];simp
theorem LD(a b:List Int):PyData.eqv (d5 a) (d5 b)=decide (a=b):=rZ a b
theorem QV:∀a b:List (List Int),PyData.eqvAll (a.map d5) (b.map d5)=decide (a=b)
 |[],[]=>by rfl
 |[],_::_=>by rfl
 |_::_,[]=>by rfl
 |x::a,y::b=>by
  show(PyData.eqv (d5 x) (d5 y)&&PyData.eqvAll (a.map d5) (b.map d5))=_;rw[QV a b,LD,mJ];simp
theorem r6:∀a:List Int,PyData.canLayAll0 (dI a)=true/\PyData.depthAll (dI a)=0
 |[]=>⟨rfl,rfl⟩
 |x::a=>by
  obtain⟨b,c⟩:=r6 a;refine⟨?_,?_⟩
  ·show(true&&PyData.canLayAll0 (dI a))=true;rw[b];rfl
  ·show max 0 (PyData.depthAll (dI a))=0;rw[c];rfl
theorem RK(a:List Int):PySem.SeqAt.shaped (d5 a)=true:=by
 obtain⟨b,c⟩:=r6 a;show(PyData.canLayAll0 (dI a)&&decide (PyData.depthAll (dI a)+1<=64))=true;rw[b,c];rfl
theorem QW:∀a:List (List Int),PyData.canLayAll0 (a.map d5)=true/\PyData.depthAll (a.map d5)<=1
 |[]=>⟨rfl,iT _⟩
 |x::a=>by
  obtain⟨d,e⟩:=QW a;obtain⟨c,b⟩:=r6 x;refine⟨?_,?_⟩
  ·show(PyData.canLayAll0 (dI x)&&PyData.canLayAll0 (a.map d5))=true;rw[d,c];rfl
  ·show max (PyData.depthAll (dI x)+1) (PyData.depthAll (a.map d5))<=1;rw[b];lia
theorem RX(a:List (List Int)):PySem.SeqAt.shaped (.tuple (a.map d5))=true:=by
 obtain⟨b,c⟩:=QW a;show(PyData.canLayAll0 (a.map d5)&&decide (PyData.depthAll (a.map d5)+1<=64))=true;rw[b,eK (by lia)];rfl
theorem RG:∀{a:List Bool}{c:List Value},aj (a.map V.bl) c->c=a.map Value.bool
 |[],_,.nil=>rfl
 |b::a,_,.cons r t=>by
  rw[show _=Value.bool b from r,RG t]
  rfl
theorem Tb(c:List Bool):((List.range c.length).all λi=>c.getD i false)=c.all id:=by
 rw[mJ];simp only[di,bT];constructor
 ·intro h b d;obtain⟨i,a,rfl⟩:=pE d;have:=h i a;rw[dO,dr a] at this;exact this
 ·intro h i a;rw[dO,dr a];exact h _ (l0 a)
def AJ(K:Fg) (c:Bool):List V->Hp->VK->Prop:=λb H Q=>∃(l:Addr) (a:List Bool),b=[.ref l]/\du K H l (a.map V.bl)/\Q (.bl (if c then a.all id else a.any id)) H
theorem UG(c:List Bool):TruthOf prog w A (λi v=>(c.map Value.bool).toArray[i]?=some v) (λi=>c.getD i false):=λi v s Q E f d=>by
 have a:(c.map Value.bool)[i]?=some v:=by simpa using f
 rw[fq] at a;cases e:c[i]? with
 |none=>rw[e] at a;cases a
 |some b=>
  rw[e] at a;cases a;dsimp only at d;rw[dO,e] at d;exact mM d
section
variable {X:Cx}
theorem Ln(t:X.calm=true){p:List (Addr×Obj)}{m:St}{H:Hp}{s:Shared}{l:Addr}{c:List Bool}{R:Bool->Prop}(I:Inv X p m H s)(G:du X.K H l (c.map V.bl)){Q:Value->Shared->Prop}{F:(Nat->Bool)->Nat->Bool}
  (u:∀r,Inv X p m H r->Q (.bool (F (λi=>c.getD i false) c.length)) r):
  wpAny (model X.prog X.w) X.A.in1 (pyIter (.ref l)) (λy a=>∃I C q n P St k,y=.ref I/\Walks X.prog X.w X.A.in1 I C q n P St/\St 0 a.heap/\TruthOf X.prog X.w X.A.in1 P k /\
   ∀g f,(∀b o,b∉q->a.heap.get? b=some o->g.get? b=some o)->Q (.bool (F k n)) {a with heap:=g,toks:=f}) X.xe s:=by
 obtain⟨v,J,d,S⟩:=I.list G;have e:=RG J;subst e;have h:l<s.heap.objs.size:=by obtain⟨o,n,e,_⟩:=d;exact cu e
 refine DD d.isList ?_;refine⟨s.heap.objs.size,_,[s.heap.objs.size],_,_,_,_,rfl,Walks.list (A:=X.A.in1) (I.ok.hd t) _ l (dF h) (c.map Value.bool).toArray,⟨⟨_,ez _ rfl,rfl,rfl⟩,d.isList.push _⟩,UG c,λg f w=>?_⟩;have x:(c.map Value.bool).toArray.size=c.length:=by simp
 rw[x];refine u _ ?_;refine I.kept (t':=f) λb o e=>w b o ?_ (cg _ e)
 intro z;have E:b=s.heap.objs.size:=by simpa using z
 have j:=cu e;rw[E] at j;exact absurd j (nT _)
theorem Qa(d:X.calm=true):bV X (.builtin "all") (AJ X.K true):=by
 intro g s o H j m Q I r h;obtain⟨l,a,rfl,c,q⟩:=h;obtain⟨u,rfl,e⟩:=vals1 r;cases e;refine call_all_walk (Ln (R:=λ_=>True) d I c (F:=λf n=>(List.range n).all f) λk b=>⟨.bl ((List.range a.length).all λi=>a.getD i false),H,b,rfl,?_⟩);rw[Tb];exact q
end
end L2
namespace Dct
open PySem.W PyProof.Rows
noncomputable def kO(h:Heap) (d:Addr) (c:Array DictEntry) (b:Nat):Prop:=∃a,h.get? d=some a/\a.ExactDict/\a.data=.dict c b
theorem kO.kept{h':Heap}(x:kO h d es ep)(k:∀a,h.get? d=some a->h'.get? d=some a):kO h' d es ep:=
 let ⟨a,e,r⟩:=x;⟨a,k a e,r⟩
theorem kO.lt(x:kO h d es ep):d<h.objs.size:=let ⟨_,e,_⟩:=x;cu e
theorem kO.is{a:Shared}(x:kO a.heap d es ep):a.TypeIs (.ref d) "dict":=let ⟨ob,e,c,_⟩:=x; ⟨ob,e,c.1⟩
noncomputable def fg(d:Addr) (n a:Nat):Obj:={ cls:=.type "dict_keyiterator",data:=.fields #[.ref d,.int 0 0,.int n 0,.int a 0] }
theorem E7{au:Shared}{W:Value->Shared->Prop}(g:(d==sysModules)=false)(x:kO au.heap d es ep)(a:W (.ref au.heap.objs.size) {au with heap:=au.heap.push (fg d es.size ep)}):wpAny (model P w) B (pyIter (.ref d)) W E au:=by
 obtain⟨h,e,c,f⟩:=id x;have b:=x.is;refine Og b F.slot_dict_iter (li F.slot_dict_iter b F.entry_dict_iter ?body (F.args_dict_iter_1 _))
 case body=>
  unfold Builtin.«dict.__iter__» Builtin.Dict.dictSlotNone Builtin.Dict.showsAll;refine ab (ab (wpAny_notOrdered_dict b (aq ?_)));show wpAny _ _ ((if(d==sysModules)=true then _ else _) >>= _) _ _ au;rw[if_neg (λz=>nX (g.symm.trans z))];refine ab (aq (ab (vf e f (ab (wpAny_dictEpoch e f (ab (kq (aq ⟨_,rfl, "dict_keyiterator",_,⟨_,ez _ rfl,rfl⟩,zL.lookup,?_⟩))))))))
  exact a
theorem E8{au:Shared}{b:Array DictEntry}{W:Option Value->Shared->Prop}(a:au.heap.IsKeyIter it d k b.size ep)(x:kO au.heap d b ep)(l:b[k]?=some en)
  (i:∀g:Heap,g.IsKeyIter it d (k+1) b.size ep->Heap.SameBut it au.heap g->W (some en.key) {au with heap:=g}):wpAny (model P w) B (pyNext (.ref it)) W E au:=by
 obtain⟨p,j,o,h⟩:=id a;obtain⟨q,e,c,m⟩:=id x;have lt:k<b.size:=(OQ.mp l).1;unfold pyNext;refine ab (qt (wpAny_callSpecial?_slot (name:=Str.ofString "__next__") a.typeIs zL (li zL a.typeIs F.entry_dict_keyiterator_next ?body (F.args_dict_keyiterator_next_1 _))))
 case body=>
  refine ab (aq (ab (ab (ab (D7 a.typeIs (aq (ab (wpAny_fieldsOf j h ?_))))))));simp only[show Builtin.Dict_items.ownsTuple "dict_keyiterator"=false from by decide,ku,ite_false]
  show wpAny _ _ (if(Value.ref d==Value.none)=true then _ else _) _ _ au;have n:¬ (Value.ref d==Value.none)=true:=nX;rw[if_neg n];refine ab (aq (ab (vf e m ?_)));rw[if_neg (by simp)];refine ab (aq (ab (wpAny_dictEpoch e m ?_)));rw[if_neg (by simp)];refine aq ?_;simp only[show ¬ ((k:Int)<0) from by lia,ite_false,nW,l];refine ab (ab (D7 a.typeIs (aq (ab (wpAny_isOneOf_keyiter a.typeIs ?_)))));show wpAny _ _ (setField (.ref it) 1 (rawInt ((k:Int)+1)) >>= _) _ _ au;refine ab (sJ j h (by simp) ?_);have f:(au.heap.update it (Obj.mapFields (·.setIfInBounds 1 (rawInt ((k:Int)+1))))).IsKeyIter it d (k+1) b.size ep:=
   ⟨_,lq _ j (DU (vi h _)),(Oj ..).trans o,by rw[vi h];simp[rawInt]⟩
  refine ab (iV (ab (wpAny_isOneOf_keyiter (s:={au with heap:=au.heap.update it (Obj.mapFields (·.setIfInBounds 1 (rawInt ((k:Int)+1))))}) f.typeIs ?_)));show wpAny _ _ (pure en.key) _ _ _;exact aq (aq ⟨_,rfl,aq (i _ f (qE ..))⟩)
theorem EL{B:Around}{au:Shared}{i:Array DictEntry}{W:Option Value->Shared->Prop}(p:B.handled=none)(f:au.heap.IsKeyIter it d k i.size ep)(x:kO au.heap d i ep)(o:i.size<=k)
  (h:∀g:Heap,Heap.ExtBut it au.heap g->W none {au with heap:=g}):wpAny (model P w) B (pyNext (.ref it)) W E au:=by
 obtain⟨r,n,t,l⟩:=id f;obtain⟨s,e,c,j⟩:=id x;unfold pyNext;refine ab (qt (wpAny_callSpecial?_slot (name:=Str.ofString "__next__") f.typeIs zL (li zL f.typeIs F.entry_dict_keyiterator_next ?body (F.args_dict_keyiterator_next_1 _))))
 case body=>
  refine ab (aq (ab (ab (ab (D7 f.typeIs (aq (ab (wpAny_fieldsOf n l ?_))))))));simp only[show Builtin.Dict_items.ownsTuple "dict_keyiterator"=false from by decide,ku,ite_false]
  show wpAny _ _ (if(Value.ref d==Value.none)=true then _ else _) _ _ au;have q:¬ (Value.ref d==Value.none)=true:=nX;rw[if_neg q];refine ab (aq (ab (vf e j ?_)));rw[if_neg (by simp)];refine ab (aq (ab (wpAny_dictEpoch e j ?_)));rw[if_neg (by simp)];refine aq ?_;simp only[show ¬ ((k:Int)<0) from by lia,ite_false,nW,OB o];refine ab (ab (D7 f.typeIs (aq ?_)));show wpAny _ _ (setField (.ref it) 0 .none >>= _) _ _ au;refine ab (sJ n l (by simp) ?_);show wpAny _ _ (newExc (.type "StopIteration") [] >>= _) _ _ _
  refine ab ?_;simp only[newExc,newTuple];refine ab (kq (ab (m:=firstArgMember _ _) (nR (a:=Value.none) (by first|rfl|(simp only[firstArgMember];rfl)) (kq ?_ (by size_fits)))) (by size_fits));simp only[raiseNew];refine ab (wpAny_handled ?_);rw[show B.in1.handled=none from p];refine ab (aq (wpAny_throw ?_));refine ab (Dw (T:="StopIteration") (b:=true) ?_ isSubtype_stop (aq (h _ (((qE ..).extBut.push _).push _))))
  exact⟨_,ez _ rfl,rfl⟩
theorem Tc{B:Around}(u:B.handled=none)(s:d≠it)(f:Array DictEntry)(n:Nat):
  Walks P w B it [it,d] [it] f.size (λi v=>∃r,f[i]?=some r/\v=r.key) (λi h=>h.IsKeyIter it d i f.size n/\kO h d f n) where
 sub:=λb x=>bU.mpr (.inl (fJ.mp x))
 frame:=λ_ _ _ z m=>⟨z.1.at λo e=>m it dS o e,z.2.kept λo e=>m d (cr _ (fJ.mpr rfl)) o e⟩
 item:=λi l t A y z j=>by
  have p:f[i]?=some f[i]:=zJ y;exact E8 z.1 z.2 p λg a b=>j f[i].key g l.toks ⟨_,p,rfl⟩ ⟨a,z.2.kept λo e=>b.extBut d o s e⟩ λc o k e=>b.extBut c o (λq=>k (fJ.mpr q)) e
 done:=λl t A z j=>EL u z.1 z.2 (bj _) λg b=>j g l.toks λc o k e=>b c o (λq=>k (fJ.mpr q)) e
 self:=λ_ _ _ _ z j=>wpAny_pyIter_keyiter z.1 j
theorem K1(k:(d==sysModules)=false)(a:Array DictEntry)(c:Nat):KdlSrc P w "dict" d d a.size (λi v=>∃ f,a[i]?=some f/\v=f.key) (λh=>kO h d a c) where
 type:=λ_ x=>x.is
 there:=λ_ x=>⟨x.lt,x.lt⟩
 keep:=λ_ _ x g=>x.kept λo e=>g d (.inl rfl) o e
 notList:=by decide
 notTuple:=by decide
 hint:=λ_ _ _ _ x b=>kdl_hint_dict x.is b
 iter:=λ_ l j x=>⟨_,_,λ_ _ b=>E7 k x b,Tc j (dF x.lt) a c,⟨⟨_,ez _ rfl,rfl,rfl⟩,x.kept λo e=>cg _ e⟩⟩
end Dct
namespace Srt
open PySem.W PyProof.Rows
end Srt
namespace L2
open Spec PyProof.Rows
theorem ax.ob(x:ax P w H h a o):∃ob,h.get? a=some ob:=by
 cases o with
 |lst xs=>obtain⟨_,_,_,_,e⟩:=x;exact⟨_,e⟩
 |tup xs=>obtain⟨_,_,_,ob,e,_⟩:=x;exact⟨_,e⟩
 |dK kvs=>obtain⟨_,_,_,_,ob,_,_,e,_⟩:=x;exact⟨_,e⟩
 |dT kvs=>obtain⟨_,_,_,_,ob,_,_,e,_⟩:=x;exact⟨_,e⟩
 |set S n=>obtain⟨ob,_,_,_,e,_⟩:=x;exact⟨_,e⟩
 |ins C dx fs=>obtain⟨_,_,_,e,_⟩:=x;exact⟨_,e⟩
 |own y=>obtain⟨_,e⟩:=x;exact⟨_,e⟩
 |xd fs=>obtain⟨_,⟨_,_,_,e,_⟩,_⟩:=x;exact⟨_,e⟩
 |rng lo hi=>obtain⟨_,_,_,e⟩:=x;exact⟨_,e⟩
 |frz ob u=>obtain⟨e,_⟩:=x;exact⟨_,e⟩
 |tbl ps=>exact⟨_,(show h.get? a=some _ from x)⟩
 |met f y=>exact⟨_,(show h.get? a=some _ from x)⟩
 |ext φ=>obtain⟨_,⟨_,e⟩,_⟩:=x;exact⟨_,e⟩
theorem Inv.away(I:Inv X aW σ H s) (c:∀b a,s.heap.get? b=some a->b≠q):H q=none:=by
 cases e:H q with
 |none=>rfl
 |some o=>
  obtain⟨a,z⟩:=(I.hok q o e).ob;exact absurd rfl (c q a z)
theorem Inv.laidN{g:Heap}(I:Inv X aW σ H s)(k:∀b u,s.heap.get? b=some u->g.get? b=some u)(f:∀b h,s.heap.get? b=some h->b≠q)(d:ax X.prog X.w (ar H q o) g q o):
  Inv X aW σ (ar H q o) {s with heap:=g,toks:=t'}:=by
 have j:=I.away f;have a:∀{b:Addr}{u:HO},H b=some u->ar H q o b=some u:=λ{b u} e=>by rw[zo (zp e j)];exact e
 refine I.un ⟨λb u e _ _ _=>k b u e,λb u e _ _ _=>⟨u.slots,k b u e⟩,λb u e n _=>by rw[zo (f b u e)];exact n,λb u e _=>⟨u,k b u e⟩,λb i e=>a e,λb h u e=>a e,λb l e=>⟨#[],by rw[a e];simp⟩⟩ λb u e=>?_
 by_cases hb:b=q
 ·subst hb;rw[zq] at e;cases e;exact d
 ·rw[zo hb] at e;exact(I.hok b u e).stay (λc v _ z=>k c v z) (λc z=>a z) λc i z=>a z
theorem yh(a:List Int):(a.map (Sum.inl:Int->cI)).map kV=a.map V.int:=by rw[gi];rfl
theorem FD{P:Program}{w:World}{H:Hp}{a:List (List cI×V)}:∀{c:List (List Int)}{f:List (List cI×Addr×Value)},
  Paired (λ(p:List cI×V) (q:List cI×Addr×Value)=>p.1=q.1/\H q.2.1=some (.tup (p.1.map kV))/\RelV p.2 q.2.2) a f->a.map (·.1)=c.map (λg=>g.map Sum.inl) ->
   ∃d:List (Addr×List Int),d.map (·.2)=c/\(∀p∈d,H p.1=some (.tup (p.2.map V.int)))/\f.map (λq=>(entryOfKey (tupleKind (ba P w)) q).key)=d.map λp=>Value.ref p.1:=by
 induction a with
 |nil=>
  intro c f r e;cases r;cases c with
  |nil=>exact⟨[],rfl,λp h=>(nomatch h),rfl⟩
  |cons x c=>cases e
 |cons kv a ih=>
  intro c f r e;cases r with
  |cons r rs=>
   cases c with
   |nil=>cases e
   |cons g c=>
    rw[cf,cf] at e;injection e with n j
    obtain⟨d,l,m,k⟩:=ih rs j;rename_i b _;obtain⟨o,i,s⟩:=r;refine⟨(b.2.1,g)::d,by rw[cf,l],λp h=>?_,by rw[cf,cf,k];rfl⟩;rcases bU.mp h with z|z
    ·subst z;rw[n,yh] at i;exact i
    ·exact m p z
open PySem.W in
theorem Lm{sg:Shared}{a:List (Addr×List Int)}(h2:2<=a.length)
  (b:∀(i:Nat) (p:Addr×List Int),a[i]?=some p->∃(m:List Value) (o:Obj) (n:Nat),IntsAre m p.2/\sg.heap.get? p.1=some o/\o.cls=.type "tuple"/\o.data=.seq m.toArray n/\p.2≠[]):
  Srt.Answers P w B (Srt.fO (a.map (·.2))) (a.map λp=>Value.ref p.1) sg:=by
 refine⟨tuples' true,λR X=>?_,λi j C e u J=>?_⟩
 ·have kt:∀(l:List (Addr×List Int)),(∀p∈l,∃i:Nat,a[i]?=some p)->∃c:List Value,KatTups sg.heap (l.map λp=>Value.ref p.1) c/\c.length=l.length/\∀v∈c,∃i t,v=Value.int i t:=λl=>by
   induction l with
   |nil=>intro _;exact⟨[],KatTups.nil,rfl,λv d=>(nomatch d)⟩
   |cons p l ih=>
    intro h;obtain⟨c,y,I,E⟩:=ih λU H=>h U (cr _ H)
    obtain⟨i,e⟩:=h p dS;obtain⟨m,o,n,k,g,q,f,G⟩:=b i p e;obtain⟨pa,pn⟩:=p;dsimp only at k g q f G;cases k with
    |nil=>exact absurd rfl G
    |cons x t r=>exact⟨Value.int x t::c,KatTups.cons g q f rfl y,by rw[dN,dN,I],λv d=>(bU.mp d).elim (λz=>⟨x,t,z⟩) (E v)⟩
  obtain⟨c,y,I,E⟩:=kt a λp h=>List.mem_iff_getElem?.mp h
  exact kat_kind (T:=.type "int") y (by lia) (λv d=>by
   obtain⟨i,t,rfl⟩:=E v d
   exact Looks.of_pure rfl) rfl X
 ·rw[az] at e u;have A:a[i]?=some a[i]:=dr e;have s:a[j]?=some a[j]:=dr u;obtain⟨m,o,n,k,g,q,f,G⟩:=b i _ A;obtain⟨Y,o2,n2,Q,S,c3,c4,c5⟩:=b j _ s;unfold kas_ask;rw[zn (λp:Addr×List Int=>Value.ref p.1) _ A,zn (λp:Addr×List Int=>Value.ref p.1) _ s];refine kat_lt g f S c4 (Srt.Qo 0 k Q ?_);rw[Srt.EK (by rw[az];exact e) (by rw[az];exact u),zn (λp:Addr×List Int=>p.2) _ A,zn (λp:Addr×List Int=>p.2) _ s] at J;exact J
theorem Qu{ps:List (Addr×List Int)}{p:Array Nat}(h:p.Perm (List.toArray (List.range ps.length)))(G:Srt.Up (Srt.fO (ps.map (·.2))) p ps.length):
  ∃o:List (Addr×List Int),o.Perm ps/\(o.map (·.2)).Pairwise (λx y=>HT.lexLt y x=false)/\Srt.dz (ps.map λp=>Value.ref p.1) p=(o.map λp=>Value.ref p.1).toArray:=by
 have J:p.size=ps.length:=by rw[h.size_eq];simp
 have m:∀i∈p.toList,i<ps.length:=λi b=>by
  have E:=(h.mem_iff (a:=i)).mp (by rw[←Array.mem_toList_iff];exact b);exact bT.mp (List.mem_toArray.mp E)
 refine⟨p.toList.map λi=>ps.getD i (0,[]),?_,?_,?_⟩
 ·have H:p.toList.Perm (List.range ps.length):=by
   have:=zK.mp h
   simpa using this
  have t:=H.map λi=>ps.getD i (0,[])
  have I:((List.range ps.length).map λi=>ps.getD i (0,[]))=ps:=by
   apply List.ext_getElem
   ·simp
   ·intro i R P;simp[dO,P]
  rw[I] at t;exact t
 ·rw[gi,OO];intro i j b c l;rw[List.getElem_map,List.getElem_map];rw[az] at b c;have C:i<p.size:=by simpa using b
  have Q:j<p.size:=by simpa using c
  have r:=G i j (dL l) (by lia);have g:∀k,(d:k<p.toList.length)->p.getD k 0=p.toList[k]:=λk d=>by
   have e:k<p.size:=by simpa using d
   rw[Array.getD_eq_getD_getElem?,zJ e];simp
  have w:=m _ (l0 b);have s:=m _ (l0 c);have n:=Srt.EK (ks:=ps.map (·.2)) (i:=p.toList[j]) (j:=p.toList[i]) (by rw[az];exact s) (by rw[az];exact w);have q:Srt.lt (Srt.fO (ps.map (·.2))) p.toList[j] p.toList[i]=false:=by
   refine dM λz=>?_
   unfold Srt.At at r;rw[g i b,g j c] at r;lia
  rw[q] at n;have v:∀k,k<ps.length->(ps.map (·.2)).getD k []=(ps.getD k (0,[])).2:=λk d=>by
   have A:ps[k]?=some ps[k]:=dr d;rw[zn (λp:Addr×List Int=>p.2) _ A,dO,A]
   rfl
  rw[v _ s,v _ w] at n;exact n.symm
 ·unfold Srt.dz;rw[gi]
  congr 1
  refine pD λi b=>?_
  have f:=m i b;have u:ps[i]?=some ps[i]:=dr f;rw[zn (λp:Addr×List Int=>Value.ref p.1) _ u];show _=Value.ref (ps.getD i (0,[])).1;rw[dO,u]
  rfl
theorem Inv.freeze(I:Inv X aW σ H s)(h:H a=some (.dT kvs))(e:s.heap.get? a=some ob):Inv X aW σ (ar H a (.frz ob (.dT kvs))) s:=by
 have d:∀{b:Addr}{u:HO},H b=some u->(∀l,u≠.dT l)->ar H a (.frz ob (.dT kvs)) b=some u:=λ{b u} q n=>by
  rw[zo (by rintro rfl;rw[h] at q;cases q;exact n _ rfl)];exact q
 have z:=I.un (h':=s.heap) (t':=s.toks) (H':=ar H a (.frz ob (.dT kvs))) ⟨λb u q _ _ _=>q,λb u q _ _ _=>⟨u.slots,q⟩,λb u q n _=>by
   rw[zo (by rintro rfl;rw[h] at n;cases n)];exact n,λb u q _=>⟨u,q⟩,λb f q=>d q (λl z=>by cases z),λb o u q=>d q (λl z=>by cases z),λb g q=>⟨#[],by rw[d q (λl z=>by cases z)];simp⟩⟩ (λb u q=>by
   by_cases hb:b=a
   ·subst hb;rw[zq] at q;cases q;exact⟨e,(I.hok b _ h).stay (λc v _ r=>r) (λc r=>d r (λl z=>by cases z)) λc f r=>d r (λl z=>by cases z)⟩
   ·rw[zo hb] at q
    exact(I.hok b u q).stay (λc v _ r=>r) (λc r=>d r (λl z=>by cases z)) λc f r=>d r (λl z=>by cases z))
 exact z
def SO(a:Addr) (d:Obj) (b:List (List cI×V)) (c:List (Addr×List Int)):It:=
 ⟨λi H=>i<c.length/\H a=some (.frz d (.dT b)),λi H x e=>e=H/\∃p,c[i]?=some p/\x=.ref p.1,λi H=>c.length<=i/\H a=some (.frz d (.dT b))⟩
theorem Tn{P:Program}{w:World}{K:Fg}{tg:Expr}{a it:Addr}{r:Obj}{t:List (List cI×V)}{j:List (Addr×List Int)}{m:Array DictEntry}{ep:Nat}(ex:r.ExactDict)(dt:r.data=.dict m ep)
  (X:m.toList.map (·.key)=j.map λp=>Value.ref p.1):jc P w K tg (SO a r t j) [it] it (λi h=>h.IsKeyIter it a i m.size ep) where
 mem:=fJ.mpr rfl
 obj:=λi h f b n=>by
  have e:b=it:=fJ.mp n;subst e;obtain⟨o,e,c,d⟩:=f;exact⟨o,e,λv z=>by rw[d] at z;cases z⟩
 keep:=λi h h' f k=>f.at λo e=>k it (fJ.mpr rfl) o e
 item:=by
  intro Y hP U R hc i aW s σ H E I C f J;subst hP U R;obtain⟨hi,hz⟩:=J;have T:m.size=j.length:=by
   have:=congrArg List.length X
   rwa [az,az,gF] at this
  obtain⟨eo,_⟩:=(show ax Y.prog Y.w H s.heap a (.frz r (.dT t)) from I.hok a _ hz)
  obtain⟨f0,G,f2,Q,f4,S⟩:=C it (fJ.mpr rfl);have A:m[i]?=some m[i]:=zJ (by lia);have u:j[i]?=some j[i]:=dr hi;have x:m[i].key=Value.ref j[i].1:=by
   have q:=congrArg (λl=>l[i]?) X;simp only[fq,iW,A,u] at q;exact fW q
  refine Dct.E8 f ⟨r,eo,ex,dt⟩ A λg y sb=>?_
  have I1:Inv Y aW σ H {s with heap:=g}:=I.turned (t':=s.toks) (λb o n e=>sb.extBut b o n e) f0 G Q f4 S;obtain⟨o,e,c,d⟩:=id y;exact⟨_,rfl,mx (s:={s with heap:=g}) e c d (by decide) ⟨.ref j[i].1,H,I1,x,⟨rfl,j[i],u,rfl⟩,y,λb n=>(C b n).1⟩⟩
 done:=by
  intro Y hP U R hc i aW s σ H E I C f J;subst hP U R;obtain⟨hi,hz⟩:=J;have T:m.size=j.length:=by
   have:=congrArg List.length X
   rwa [az,az,gF] at this
  obtain⟨eo,_⟩:=(show ax Y.prog Y.w H s.heap a (.frz r (.dT t)) from I.hok a _ hz)
  obtain⟨f0,G,f2,Q,f4,S⟩:=C it (fJ.mpr rfl);exact Dct.EL (I.ok.hd hc) f ⟨r,eo,ex,dt⟩ (by lia) λg eb=>⟨rfl,I.turned (t':=s.toks) (λb o n e=>eb b o n e) f0 G Q f4 S⟩
 self:=λ_ _ _ _ _ f h=>wpAny_pyIter_keyiter f h
def Pt(f:TE):TI:=λh H R=>f h H λx H1=>∃(a:Addr) (b:List (List cI×V)) (d:List (List Int)),x=.ref a/\H1 a=some (.dT b)/\b.map (·.1)=d.map (λg=>g.map Sum.inl) /\
 ∀(e:Obj) (c:List (Addr×List Int)),c.map (·.2)=d->(∀p∈c,H1 p.1=some (.tup (p.2.map V.int)))->R (SO a e b c) (ar H1 a (.frz e (.dT b)))
theorem KH{X:Cx}{J l:Expr}{A:TE}(hl:PE X l A):PI X J l (Pt A):=by
 intro aW s U H R I h;refine bi (hl aW s U H _ I h) λv c f=>?_
 obtain⟨x,H1,y,Y,Q⟩:=f;obtain⟨a,i,ks,rfl,t,ek,q⟩:=Q;cases Y;obtain⟨z,ns,ys,d,r,T,ep,k,m,n,G,e5⟩:=(show ax X.prog X.w H1 c.heap a (.dT i) from y.hok a _ t)
 obtain⟨u,a1,S,C⟩:=FD (P:=X.prog) (w:=X.w) d ek;have j:T.toList.map (·.key)=u.map λp=>Value.ref p.1:=by rw[G,gi];exact C
 refine Dct.E7 ns ⟨r,k,m,n⟩ ?_;have g:=y.freeze t k;refine⟨c.heap.objs.size,[c.heap.objs.size],_,_,_,rfl,g.kept (t':=c.toks) λb o e=>cg _ e,Tn m n j,⟨_,ez _ rfl,rfl,rfl⟩,λb E=>?_,q r u a1 S⟩;have e:b=c.heap.objs.size:=fJ.mp E;subst e;exact g.fpOk (bj _) (g.hok.fresh (bj _))
end L2
namespace L2
open Spec PyProof.Rows PySem.W
noncomputable def fP(g:Heap) (b:List (Addr×List Int)):Prop:=∀ p∈b,∃(a:List Value) (o:Obj) (n:Nat),IntsAre a p.2/\g.get? p.1=some o/\o.cls=.type "tuple"/\o.data=.seq a.toArray n
theorem Q4{a:Shared}:∀{ps:List (Addr×List Int)},fP a.heap ps->∃b:List (Option Value),b.map Option.isSome=ps.map (λp=>!p.2.isEmpty)/\∀(W:List (Option Value)->Shared->Prop),W b a->wpAny (model P w) B ((ps.map λp=>Value.ref p.1).mapM firstOfTuple') W E a
 |[],_=>⟨[],rfl,λW h=>by rw[Dq,List.mapM_nil];exact aq h⟩
 |p::ps,h=>by
  obtain⟨b,i,j⟩:=Q4 (ps:=ps) λq l=>h q (cr _ l)
  obtain⟨m,o,n,c,d,e,g⟩:=h p dS;refine⟨m.toArray[0]?::b,?_,λW f=>?_⟩
  ·rw[cf,cf,i]
   congr 1
   obtain⟨s,u⟩:=p;dsimp only at c ⊢;cases c with
   |nil=>rfl
   |cons x t r=>rfl
  ·rw[cf,List.mapM_cons];have k:Looks (model P w) a.heap (typeOf (.ref p.1)) o.cls:=(Looks.ld d).andThen .now;refine ab ?_;rw[kas_first_eq];refine ab (Looks.here k ?_);rw[e,if_neg (by first|decide|simp)];exact ab (listItems_at d g (aq (ab (j _ (aq f)))))
theorem TU(x y:Value):keyLt' general' x y=oneLt' false x y:=rfl
theorem Lo{B:Around}{sg:Shared}(f:κ=general'\/κ=oneType')(l:B.units<cLine) (G:fP sg.heap [a])(y:fP sg.heap [b]) (u:C (HT.lexLt a.2 b.2) sg):
  wpAny (model P w) B (keyLt' κ (.ref a.1) (.ref b.1)) C E sg:=by
 obtain⟨x,o,n,v,e,d,h⟩:=G a dS;obtain⟨c,r,t,m,q,i,k⟩:=y b dS;rcases f with rfl|rfl
 ·rw[TU];exact kat_one _ _ (HT.RB (items:=x.toArray) (items2:=c.toArray) ⟨o,e,d,n,h⟩ ⟨r,q,i,t,k⟩ v m l u)
 ·rw[keyLt'_oneType,oneLt'_eq];simp only[ite_true];refine ab (wpAny_cRoomFor l (ab (wpAny_callSpecialIfBound?_slot (T:="tuple") ⟨o,e,d⟩ OA ?_)))
  obtain⟨A,H,p,z⟩:=o;obtain⟨s,g,data2,j⟩:=r;dsimp only at d h i k;subst d h i k;exact o9 OA ⟨_,e,rfl⟩ F.entry_tuple_lt (F.args_tuple_lt_2 _ _) (HT.R9 a.1 b.1 x.toArray c.toArray n t H g z j a.2 b.2 v m) ⟨e,q,mM u⟩
theorem Ll{B:Around}{sg:Shared}(Y:B.units<cLine)(c:fP sg.heap a)(s:∃p∈a,p.2=[]):Srt.Answers P w B (Srt.fO (a.map (·.2))) (a.map λp=>Value.ref p.1) sg:=by
 obtain⟨G,f1,X⟩:=Q4 (P:=P) (w:=w) (B:=B) (E:=λ_ _=>False) c;have b:¬ (G.toArray.all λx=>x.isSome)=true:=λz=>by
  have z':G.all (λx=>x.isSome)=true:=by simpa using z
  obtain⟨p,t,he⟩:=s;have m:(!p.2.isEmpty)∈G.map Option.isSome:=by rw[f1];exact Ot (f:=λp:Addr×List Int=>!p.2.isEmpty) t
  obtain⟨o,ho,e⟩:=cP.mp m;have:=di.mp z' o ho;rw[e,he] at this;cases this
 have l:∀{A:SortKind},A=general'\/A=oneType'->∀i j C,i<(a.map λp=>Value.ref p.1).length->j<(a.map λp=>Value.ref p.1).length->C (Srt.lt (Srt.fO (a.map (·.2))) i j) sg->kas_ask P w B A (a.map λp=>Value.ref p.1) i j C sg:=λ{A} H i j C y u T=>by
  rw[az] at y u;have S:a[i]?=some a[i]:=dr y;have J:a[j]?=some a[j]:=dr u;unfold kas_ask;rw[zn (λp:Addr×List Int=>Value.ref p.1) _ S,zn (λp:Addr×List Int=>Value.ref p.1) _ J];rw[Srt.EK (by rw[az];exact y) (by rw[az];exact u),zn (λp:Addr×List Int=>p.2) _ S,zn (λp:Addr×List Int=>p.2) _ J] at T;have g:∀k,(Q:k<a.length)->fP sg.heap [a[k]]:=λk Q q hq=>by
   rw[fJ.mp hq];exact c _ (l0 Q)
  exact Lo H Y (g i y) (g j u) T
 by_cases fst:(G.toArray[0]?.bind id).isSome=true
 ·refine⟨general',λR I=>?_,l (.inl rfl)⟩;rw[kat_kind_eq,Oi,Oc];refine ab (ab (X _ (aq ?_)));rw[if_neg b,if_pos fst];exact aq I
 ·refine⟨oneType',λR I=>?_,l (.inr rfl)⟩;rw[kat_kind_eq,Oi,Oc];refine ab (ab (X _ (aq ?_)));rw[if_neg b,if_neg fst,oneTypeOnly'_eq,Oi,Oc];have ty:∀ v∈(a.map λp=>Value.ref p.1),∀ W:Value->Shared->Prop,W (.type "tuple") sg->wpAny (model P w) B (typeOf v) W (λ_ _=>False) sg:=λv hv W hW=>by
   obtain⟨p,t,rfl⟩:=cP.mp hv;obtain⟨us,o,n,a1,a2,a3,a4⟩:=c p t;have U:Looks (model P w) sg.heap (typeOf (.ref p.1)) o.cls:=(Looks.ld a2).andThen .now;rw[a3] at U;exact U.here hW
  refine ab (ab (ab (kas_mapM (r:=Value.type "tuple") _ ty (aq ?_))))
  obtain⟨p,t,_⟩:=s;obtain⟨d,rest,rfl⟩:∃d rest,a=d::rest:=by
   cases a with
   |nil=>exact nomatch t
   |cons d rest=>exact⟨d,rest,rfl⟩
  have all:((List.map (λ_=>Value.type "tuple") ((d::rest).map λp=>Value.ref p.1)).toArray.all λx=>x==Value.type "tuple")=true:=by
   rw[List.all_toArray,di];intro x hx;obtain⟨_,_,rfl⟩:=cP.mp hx
   rfl
  have h:(List.map (λ_=>Value.type "tuple") ((d::rest).map λp=>Value.ref p.1)).toArray[0]?=some (Value.type "tuple"):=by simp
  rw[h];simp only[all,ite_true];exact aq (aq I)
theorem xS{B:Around}{sg:Shared}{a:List (Addr×List Int)}(e:B.units<cLine)(k:2<=a.length)(b:fP sg.heap a):Srt.Answers P w B (Srt.fO (a.map (·.2))) (a.map λp=>Value.ref p.1) sg:=by
 by_cases c:∃p∈a,p.2=[]
 ·exact Ll e b c
 ·refine Lm k λi p l=>?_
  have d:=db l;obtain⟨m,o,n,h,j,f,g⟩:=b p d;exact⟨m,o,n,h,j,f,g,λz=>c ⟨p,d,z⟩⟩
theorem R5(z:List (Addr×List Int)):aj (z.map λp=>V.ref p.1) (z.map λp=>Value.ref p.1):=by
 induction z with
 |nil=>exact .nil
 |cons x z ih=>exact .cons rfl ih
end L2
namespace TS
open PyProof.Rows
noncomputable def kA(R:Keyed->Nat) (a:Array Keyed) (i:Nat):Nat:=match a[i]? with
 |some p=>R p
 |none=>0
theorem oH{R:Keyed->Nat}(h:xs[i]?=ys[j]?):kA R xs i=kA R ys j:=by unfold kA;rw[h]
theorem jf{R:Keyed->Nat}(h:xs[i]?=some x):kA R xs i=R x:=by unfold kA;rw[h]
def fm(R:Keyed->Nat) (c:Array Keyed) (a b:Nat):Prop:=∀i j,a<=i->i<=j->j<b->kA R c i<=kA R c j
def uj(R:Keyed->Nat) (c:Array Keyed) (a b:Nat):Prop:=∀i j,a<=i->i<=j->j<b->kA R c j<=kA R c i
noncomputable def kP(b:Program) (w:World) (A:Around) (s:Shared) (c:SortKind) (a:Array Keyed) (R:Keyed->Nat):Prop:=
 ∀x,x∈a.toList->∀y,y∈a.toList->∀(C:Bool->Shared->Prop),C (decide (R x<R y)) s->wpAny (model b w) A (keyLt' c x.1 y.1) C (λ_ _=>False) s
structure B (κ:SortKind) (a₀:Array Keyed) (au:SortSt):Prop where
 perm:(arrOf au).Perm a₀
 kind:kindOf au=κ
 failed:failedOf au=none
section
variable {κ:SortKind}{a₀:Array Keyed}
theorem B.size{a:SortSt}(h:B κ a₀ a):(arrOf a).size=a₀.size:=h.perm.size_eq
theorem B.set{a:SortSt}(h:B κ a₀ a){b:Array Keyed}(c:b.Perm (arrOf a)):B κ a₀ (setArr a b):=⟨c.trans h.perm,h.kind,h.failed⟩
theorem B.mem{a:SortSt}(h:B κ a₀ a){i:Nat}(c:i<a₀.size):∃x,(arrOf a)[i]?=some x/\x∈a₀.toList:=by
 have b:i<(arrOf a).size:=by rw[h.size];exact c
 exact⟨_,getElem?_pos _ i b,(zK.mp h.perm).mem_iff.mp (by simp)⟩
end
section
variable {prog:Program}{w:World}{A:Around}{E:Value->Shared->Prop}{s:Shared}{κ:SortKind}{a₀:Array Keyed}{R:Keyed->Nat}
theorem w_lt{x y:Keyed}{au:SortSt}{Q:Option Bool->SortSt->Prop}(O:kP prog w A s κ a₀ R)(c:kindOf au=κ)(g:x∈a₀.toList)(e:y∈a₀.toList)(h:Q (some (decide (R x<R y))) au):wpS (model prog w) A E s (lt' x y) Q au:=by
 rw[lt'_eq];refine bh (lf ?_);rw[c];refine bh (qm (qt (iA (O x g y e (λb a=>a=s/\b=decide (R x<R y)) ⟨rfl,rfl⟩) (λb a d=>?_) λ_ _ f=>f.elim)));obtain⟨rfl,rfl⟩:=d;exact⟨rfl,bu h⟩
end
section
variable {prog:Program}{w:World}{A:Around}{E:Value->Shared->Prop}{s:Shared}
theorem p9{a:Array Keyed}{i:Nat}{x:Keyed}{au:SortSt}{Q:Keyed->SortSt->Prop}(e:a[i]?=some x)(h:Q x au):wpS (model prog w) A E s (elem' a i) Q au:=by
 rw[elem'_eq,e];exact bu h
end
section
variable {prog:Program}{w:World}{A:Around}{E:Value->Shared->Prop}{s:Shared}{κ:SortKind}{a₀:Array Keyed}{R:Keyed->Nat}
theorem rd{i j:Nat}{au:SortSt}{Q:Option Bool->SortSt->Prop}(O:kP prog w A s κ a₀ R)(b:B κ a₀ au)(f:i<a₀.size)(e:j<a₀.size)(h:Q (some (decide (kA R (arrOf au) i<kA R (arrOf au) j))) au):wpS (model prog w) A E s (ltAt' i j) Q au:=by
 obtain⟨x,c,g⟩:=b.mem f;obtain⟨y,a,d⟩:=b.mem e;rw[jf c,jf a] at h;rw[ltAt'_eq];exact bh (lf (bh (p9 c (bh (p9 a (w_lt O b.kind g d h))))))
end
section
variable {prog:Program}{w:World}{A:Around}{E:Value->Shared->Prop}{s:Shared}
theorem ox{i j:Nat}{au:SortSt}{Q:Unit->SortSt->Prop}(h:Q () (setArr au (mirror (arrOf au) i j ((j-i)/2)))):wpS (model prog w) A E s (reverseSlice' i j) Q au:=by
 rw[reverseSlice'_eq];exact mD h
theorem Jd{i j:Nat}{au:SortSt}{Q:Unit->SortSt->Prop}(h:Q () (setArr au (bubble (arrOf au) i (i-j)))):wpS (model prog w) A E s (moveDown' i j) Q au:=by
 rw[moveDown'_eq];exact mD h
end
theorem kY{lo x n N:Nat}(h:x<n)(a:lo+n<=N):lo+x<N:=dq (nZ h lo) a
theorem kZ{lo x n N:Nat}(h:x<n)(a:lo+n<=N):lo+x-1<N:=jL (mF _ _) (kY h a)
theorem Eu{lo n:Nat}(h:1<=n):lo+n-1<lo+n:=pc (dq h (N9 _ _)) Nat.one_pos
theorem oT{j lo n:Nat}(h:j<lo+(n+1))(e:¬j=lo+n):j<lo+n:=jX (jJ h) e
theorem xw(a:k<j):i<=i+j-1-k:=Nat.le_sub_of_add_le (ln (nZ a i))
theorem xu(a:i<=k)(b:k<j):i+j-1-k<j:=jL (zA a _) (by rw[Nat.sub_right_comm,md];exact pc (DK b) Nat.one_pos)
theorem Fo{R:Keyed->Nat}{a:Array Keyed}(b:j<=a.size)(k:Nat):kA R (mirror a i j ((j-i)/2)) k=if i<=k/\k<j then kA R a (i+j-1-k) else kA R a k:=by
 have e:=getElem?_mirror_all (i:=i) b k;split
 ·rename_i c;rw[if_pos c] at e;exact oH e
 ·rename_i c;rw[if_neg c] at e;exact oH e
noncomputable def ew(c d:Array Keyed) (a b:Nat):Prop:=∀k,k<a\/b<=k->c[k]?=d[k]?
theorem ew.refl(c:Array Keyed)(a b:Nat):ew c c a b:=λ_ _=>rfl
theorem ew.trans(d:ew xs ys a b)(e:ew ys zs a b):ew xs zs a b:=λk c=>(d k c).trans (e k c)
theorem ew.mirror{c:Array Keyed}(f:j<=c.size)(g:a<=i)(e:j<=b):ew (mirror c i j ((j-i)/2)) c a b:=λk d=>by
 rw[getElem?_mirror_all (i:=i) f k,if_neg λz=>d.elim (λh=>mL (ay g z.1) h) λh=>mL (ay e h) z.2]
theorem ew.bubble{c:Array Keyed}(j:src<c.size)(i:d<=src)(e:a<=src-d)(g:src<b):ew (bubble c src d) c a b:=λk f=>by
 rw[getElem?_bubble j d i k,if_neg λz=>f.elim (λh=>mL (ay e (ii z.symm)) h) λh=>mL h (jL (ay (ii z) (mF _ _)) g),if_neg λz=>f.elim (λh=>mL (ay e (dL z.1)) h) λh=>mL h (jL z.2 g)]
structure Sm (au st':SortSt) (a b:Nat):Prop where
 out:ew (arrOf st') (arrOf au) a b
 pend:pendingOf st'=pendingOf au
section
variable {prog:Program}{w:World}{A:Around}{E:Value->Shared->Prop}{s:Shared}{κ:SortKind}{a₀:Array Keyed}{R:Keyed->Nat}
theorem mB{lo a d:Nat}{au:SortSt}{Q:Option (Option Nat)×Nat->SortSt->Prop}(O:kP prog w A s κ a₀ R)(b:B κ a₀ au)(p:lo+d<=a₀.size)(t:1<=a)(l:a<=d)(u:fm R (arrOf au) lo (lo+a))
  (h:∀n,a<=n->n<=d->fm R (arrOf au) lo (lo+n)->(n=d\/kA R (arrOf au) (lo+n)<kA R (arrOf au) (lo+n-1))->Q (none,n) au):
  wpS (model prog w) A E s (forIn [a:d] ((none,a):Option (Option Nat)×Nat) λ_ r=>do
   let x ←ltAt' (lo+r.2) (lo+r.2-1)
   match x with
   |some smaller=>if smaller=true then pure (ForInStep.done (none,r.2)) else pure (ForInStep.yield (none,r.2+1))
   |_=>pure (ForInStep.done (some none,r.2))) Q au:=by
 refine iU (I:=λx c f=>f=au/\c=(none,x)/\fm R (arrOf au) lo (lo+x)) ?_ ?_ ⟨rfl,rfl,u⟩
 ·rintro x c f o m ⟨rfl,rfl,g⟩;dsimp only;refine bh (rd O b (kY m p) (kZ m p) ?_);by_cases c:kA R (arrOf f) (lo+x)<kA R (arrOf f) (lo+x-1)
  ·simp only[c,qo,h8];exact bu (h x o (dL m) g (.inr c))
  ·simp only[c,sD,ku,jm];refine bu ⟨rfl,rfl,λi j q k v=>?_⟩;by_cases e:j=lo+x
   ·subst e;by_cases e2:i=lo+x
    ·rw[e2];exact bj _
    ·exact ay (g i (lo+x-1) q (ln (jX k e2)) (Eu (ay t o))) (fU c)
   ·exact g i j q k (oT v e)
 ·rintro c f ⟨rfl,rfl,g⟩;rw[Of l] at g ⊢;exact h d l (bj _) g (.inl rfl)
end
theorem R3{R:Keyed->Nat}{xs:Array Keyed}{i j:Nat}(b:j<=xs.size)(a:∀k,i<=k->k<j->kA R xs k=kA R xs (j-1))(k:Nat):kA R (mirror xs i j ((j-i)/2)) k=kA R xs k:=by
 rw[Fo b];split
 ·rename_i c;rw[a _ (xw c.2) (xu c.1 c.2),a k c.1 c.2]
 ·rfl
structure Fl (κ:SortKind) (a₀:Array Keyed) (R:Keyed->Nat) (st₀ au:SortSt) (lo n neq b:Nat):Prop where
 base:B κ a₀ au
 same:Sm st₀ au lo b
 dn:uj R (arrOf au) lo (lo+n)
 hq:neq+1<=n
 eqs:∀i,lo+n-(neq+1)<=i->i<lo+n->kA R (arrOf au) i=kA R (arrOf au) (lo+n-1)
section
variable {κ:SortKind}{a₀:Array Keyed}{R:Keyed->Nat}
theorem Fl.turn{c d:SortSt}{lo n a b:Nat}(h:Fl κ a₀ R c d lo n a b)(m:lo+n<=b)(q:b<=a₀.size):
  Fl κ a₀ R c (setArr d (mirror (arrOf d) (lo+n-(a+1)) (lo+n) ((lo+n-(lo+n-(a+1)))/2))) lo n a b/\∀k,kA R (mirror (arrOf d) (lo+n-(a+1)) (lo+n) ((lo+n-(lo+n-(a+1)))/2)) k=kA R (arrOf d) k:=by
 have p:=h.base.size;have r:=h.hq;have f:lo+n<=(arrOf d).size:=by rw[p];exact ay m q
 have e:=R3 (R:=R) (xs:=arrOf d) (i:=lo+n-(a+1)) (j:=lo+n) f h.eqs;refine⟨⟨h.base.set (mirror_perm _ _ _ _),⟨(ew.mirror f (Nat.le_sub_of_add_le (ij r lo)) m).trans h.same.out,h.same.pend⟩,λi j g l o=>?_,h.hq,λi g l=>?_⟩,e⟩
 ·show kA R (mirror _ _ _ _) j<=kA R (mirror _ _ _ _) i;rw[e,e];exact h.dn i j g l o
 ·show kA R (mirror _ _ _ _) i=kA R (mirror _ _ _ _) _;rw[e,e];exact h.eqs i g l
theorem Fl.less{a f:SortSt}{lo n d b:Nat}(h:Fl κ a₀ R a f lo n d b)(c:kA R (arrOf f) (lo+n)<=kA R (arrOf f) (lo+n-1)):uj R (arrOf f) lo (lo+(n+1)):=λi j g k l=>by
 have m:=h.hq;by_cases e:j=lo+n
 ·subst e;by_cases e2:i=lo+n
  ·rw[e2];exact bj _
  ·exact ay c (h.dn i (lo+n-1) g (ln (jX k e2)) (Eu (ay (N9 1 d) m)))
 ·exact h.dn i j g k (oT l e)
theorem Fl.fresh{a d:SortSt}{lo n e b:Nat}(h:Fl κ a₀ R a d lo n e b)(c:kA R (arrOf d) (lo+n)<=kA R (arrOf d) (lo+n-1)):Fl κ a₀ R a d lo (n+1) 0 b:=⟨h.base,h.same,h.less c,pu (iT _),λi f g=>by
 have:i=lo+(n+1)-1:=km (jJ g) f
 rw[this]⟩
theorem Fl.more{a f:SortSt}{lo n d b:Nat}(h:Fl κ a₀ R a f lo n d b)(c:kA R (arrOf f) (lo+n)=kA R (arrOf f) (lo+n-1)):Fl κ a₀ R a f lo (n+1) (d+1) b:=by
 have k:=h.hq;refine⟨h.base,h.same,h.less (ii c),pu k,λi g j=>?_⟩;rw[show lo+(n+1)-1=lo+n from rfl];by_cases e:i=lo+n
 ·rw[e]
 ·rw[c];exact h.eqs i (ay (ii (Nat.succ_sub_succ (lo+n) (d+1)).symm) g) (oT j e)
end
section
variable {prog:Program}{w:World}{A:Around}{E:Value->Shared->Prop}{s:Shared}{κ:SortKind}{a₀:Array Keyed}{R:Keyed->Nat}
theorem Lh{lo nrem:Nat}{au:SortSt}{Q:Option Nat->SortSt->Prop}(O:kP prog w A s κ a₀ R)(b:B κ a₀ au)(p:lo+nrem<=a₀.size)(h1:1<=nrem)
  (h:∀m a,1<=m->m<=nrem->B κ a₀ a->Sm au a lo (lo+nrem)->fm R (arrOf a) lo (lo+m)->Q (some m) a):wpS (model prog w) A E s (countRun' lo nrem) Q au:=by
 have a0:Sm au au lo (lo+nrem):=⟨ew.refl _ _ _,rfl⟩
 have a6:∀H:Array Keyed,fm R H lo (lo+1):=λH i j l g G=>by
  have:i=j:=km g (ay (jJ G) l);subst this;exact bj _
 have a9:∀H:Array Keyed,uj R H lo (lo+1):=λH i j l g G=>by
  have:i=j:=km g (ay (jJ G) l);subst this;exact bj _
 rw[countRun'_eq];dsimp only;refine bh (mB O b p (bj _) h1 (a6 _) λn n1 n2 hu a4=>?_);dsimp only;split
 ·exact bu (h n au n1 n2 b a0 hu)
 rename_i a7;have T:n≠nrem:=λz=>a7 (by simp[z])
 have y:n<nrem:=jX n2 T;have hl:kA R (arrOf au) (lo+n)<kA R (arrOf au) (lo+n-1):=by
  rcases a4 with z|z
  ·exact absurd z T
  ·exact z
 have hz:=b.size;have J:∀(n:Nat) (o:SortSt),B κ a₀ o->Sm au o lo (lo+nrem)->1<=n->n<=nrem->uj R (arrOf o) lo (lo+n) ->
   B κ a₀ (setArr o (mirror (arrOf o) lo (lo+n) ((lo+n-lo)/2)))/\Sm au (setArr o (mirror (arrOf o) lo (lo+n) ((lo+n-lo)/2))) lo (lo+nrem)/\fm R (mirror (arrOf o) lo (lo+n) ((lo+n-lo)/2)) lo (lo+n):=λn o X r U S t=>by
  have hz:=X.size;have hm:=ij S lo;have u:lo+n<=(arrOf o).size:=by rw[hz];exact ay hm p
  refine⟨X.set (mirror_perm _ _ _ _),⟨(ew.mirror u (bj _) hm).trans r.out,r.pend⟩,λi j l g G=>?_⟩;have hi:=jL g G;rw[Fo u,Fo u,if_pos ⟨l,hi⟩,if_pos ⟨ay l g,G⟩];exact t _ _ (xw G) (zA g _) (xu l hi)
 have P:¬ kA R (arrOf au) lo<kA R (arrOf au) (lo+n-1)->∀k,lo<=k->k<lo+n->kA R (arrOf au) k=kA R (arrOf au) (lo+n-1):=λc k k1 k2=>by
  have g1:=hu lo k (bj _) k1 k2;have g2:=hu k (lo+n-1) k1 (ln k2) (Eu n1);exact km g2 (ay (fU c) g1)
 have a5:∀H:Array Keyed,(∀k,kA R H k=kA R (arrOf au) k)->¬ kA R (arrOf au) lo<kA R (arrOf au) (lo+n-1)->uj R H lo (lo+(n+1)):=λH e c i j l g G=>by
  rw[e,e];by_cases e2:j=lo+n
  ·subst e2;by_cases e3:i=lo+n
   ·rw[e3];exact bj _
   ·rw[P c i l (jX g e3)];exact dL hl
  ·have jn:=oT G e2;rw[P c i l (jL g jn),P c j (ay l g) jn];exact bj _
 split
 ·have u:lo+n<=(arrOf au).size:=by rw[hz];exact ay (ij n2 lo) p
  refine bh (rd O b (dq (D2 h1) p) (kZ y p) ?_);by_cases c:kA R (arrOf au) lo<kA R (arrOf au) (lo+n-1)
  ·simp only[c,qo,h8];exact bu (h n au n1 n2 b a0 hu)
  ·simp only[c,sD,ku,jm];refine bh (ox ?_);have X:B κ a₀ (setArr au (mirror (arrOf au) lo (lo+n) ((lo+n-lo)/2))):=b.set (mirror_perm _ _ _ _);have r:Sm au (setArr au (mirror (arrOf au) lo (lo+n) ((lo+n-lo)/2))) lo (lo+nrem):=⟨ew.mirror u (bj _) (ij n2 lo),rfl⟩
   have t:uj R (arrOf (setArr au (mirror (arrOf au) lo (lo+n) ((lo+n-lo)/2)))) lo (lo+(n+1)):=a5 _ (R3 u (P c)) c;generalize (setArr au (mirror (arrOf au) lo (lo+n) ((lo+n-lo)/2)))=o at X r t ⊢;refine bh (qm (lW ⟨rfl,?_⟩));refine bh (jh (iU (I:=λx c a=>∃d,c=(none,x,d)/\Fl κ a₀ R au a lo x d (lo+nrem)) (Q:=λc a=>∃m d,c=(none,m,d)/\n+1<=m/\m<=nrem/\Fl κ a₀ R au a lo m d (lo+nrem)) ?_ ?_ ?_) ?_)
   ·rintro x c a l g ⟨d,rfl,f⟩;dsimp only;refine bh (rd O f.base (kY g p) (kZ g p) ?_);by_cases c:kA R (arrOf a) (lo+x)<kA R (arrOf a) (lo+x-1)
    ·simp only[c,qo,h8];split
     ·obtain⟨C,e⟩:=f.turn (ij (dL g) lo) p;refine bh (ox (bu ⟨0,rfl,C.fresh ?_⟩));refine dL (?_:kA R (mirror _ _ _ _) _<kA R (mirror _ _ _ _) _);rw[e,e];exact c
     ·exact bu ⟨0,rfl,f.fresh (dL c)⟩
    ·simp only[c,sD,ku,jm];refine bh (rd O f.base (kZ g p) (kY g p) ?_);by_cases c2:kA R (arrOf a) (lo+x-1)<kA R (arrOf a) (lo+x)
     ·simp only[c2,qo,h8];exact bu ⟨x,d,rfl,l,dL g,f⟩
     ·simp only[c2,sD,ku,jm];exact bu ⟨d+1,rfl,f.more (km (fU c2) (fU c))⟩
   ·rintro c a ⟨d,rfl,f⟩;rw[Of y] at f ⊢;exact⟨nrem,d,rfl,y,bj _,f⟩
   ·exact⟨0,rfl,X,r,t,pu (iT _),λi g1 g2=>by
     have:i=lo+(n+1)-1:=km (jJ g2) g1
     rw[this]⟩
   ·rintro c a ⟨m,d,rfl,l,g,f⟩;dsimp only;split
    ·obtain⟨C,e⟩:=f.turn (ij g lo) p;refine bh (ox (bh (ox ?_)));obtain⟨v,s3,u3⟩:=J m _ C.base C.same (l6 l) g C.dn;exact bh (mB O v p (l6 l) g u3 λY U S q _=>bu (h Y _ (ay (l6 l) U) S v s3 q))
    ·refine bh (ox ?_);obtain⟨v,s3,u3⟩:=J m _ f.base f.same (l6 l) g f.dn;exact bh (mB O v p (l6 l) g u3 λY U S q _=>bu (h Y _ (ay (l6 l) U) S v s3 q))
 ·rename_i a8;have X:=b;have r:=a0
  have t:uj R (arrOf au) lo (lo+(n+1)):=a5 _ (λ_=>rfl) (by
   have:n=1:=km (fU a8) n1;subst this
   simp)
  refine bh (qm (lW ⟨rfl,?_⟩));refine bh (jh (iU (I:=λx c a=>∃d,c=(none,x,d)/\Fl κ a₀ R au a lo x d (lo+nrem)) (Q:=λc a=>∃m d,c=(none,m,d)/\n+1<=m/\m<=nrem/\Fl κ a₀ R au a lo m d (lo+nrem)) ?_ ?_ ?_) ?_)
  ·rintro x c a l g ⟨d,rfl,f⟩;dsimp only;refine bh (rd O f.base (kY g p) (kZ g p) ?_);by_cases c:kA R (arrOf a) (lo+x)<kA R (arrOf a) (lo+x-1)
   ·simp only[c,qo,h8];split
    ·obtain⟨C,e⟩:=f.turn (ij (dL g) lo) p;refine bh (ox (bu ⟨0,rfl,C.fresh ?_⟩));refine dL (?_:kA R (mirror _ _ _ _) _<kA R (mirror _ _ _ _) _);rw[e,e];exact c
    ·exact bu ⟨0,rfl,f.fresh (dL c)⟩
   ·simp only[c,sD,ku,jm];refine bh (rd O f.base (kZ g p) (kY g p) ?_);by_cases c2:kA R (arrOf a) (lo+x-1)<kA R (arrOf a) (lo+x)
    ·simp only[c2,qo,h8];exact bu ⟨x,d,rfl,l,dL g,f⟩
    ·simp only[c2,sD,ku,jm];exact bu ⟨d+1,rfl,f.more (km (fU c2) (fU c))⟩
  ·rintro c a ⟨d,rfl,f⟩;rw[Of y] at f ⊢;exact⟨nrem,d,rfl,y,bj _,f⟩
  ·exact⟨0,rfl,X,r,t,pu (iT _),λi g1 g2=>by
    have:i=lo+(n+1)-1:=km (jJ g2) g1
    rw[this]⟩
  ·rintro c a ⟨m,d,rfl,l,g,f⟩;dsimp only;split
   ·obtain⟨C,e⟩:=f.turn (ij g lo) p;refine bh (ox (bh (ox ?_)));obtain⟨v,s3,u3⟩:=J m _ C.base C.same (l6 l) g C.dn;exact bh (mB O v p (l6 l) g u3 λY U S q _=>bu (h Y _ (ay (l6 l) U) S v s3 q))
   ·refine bh (ox ?_);obtain⟨v,s3,u3⟩:=J m _ f.base f.same (l6 l) g f.dn;exact bh (mB O v p (l6 l) g u3 λY U S q _=>bu (h Y _ (ay (l6 l) U) S v s3 q))
end
theorem Q8{R:Keyed->Nat}{a:Array Keyed}(g:src<a.size)(f:d<=src)(k:Nat):kA R (bubble a src d) k=if k=src-d then kA R a src else if src-d<k/\k<=src then kA R a (k-1) else kA R a k:=by
 have e:=getElem?_bubble g d f k;split
 ·rename_i c;rw[if_pos c] at e;exact oH e
 ·rename_i c;rw[if_neg c] at e;split
  ·rename_i b;rw[if_pos b] at e;exact oH e
  ·rename_i b;rw[if_neg b] at e;exact oH e
theorem Fp(c:a<=b)(h:b-a<=n-max 0 n):b=a:=by
 rw[Nat.zero_max,sE] at h;exact km (Nat.le_of_sub_eq_zero (Nat.le_zero.mp h)) c
theorem rM(h:¬l ≥ r):l<=(l+r)/2:=(Nat.le_div_iff_mul_le Dm).mpr (by rw[Nat.mul_two];exact ij (dL (qv h)) l)
theorem oS(h:¬l ≥ r):(l+r)/2<r:=(Nat.div_lt_iff_lt_mul Dm).mpr (by rw[Nat.mul_two];exact Nat.add_lt_add_right (qv h) r)
theorem Pv(h:¬l ≥ r)(g:r-l<=k-x):(l+r)/2-l<=k-(x+1):=ay (ln (pG (rM h) (oS h))) (sU g 1)
theorem Pu(h:¬l ≥ r)(g:r-l<=k-x):r-((l+r)/2+1)<=k-(x+1):=ay (zA (pu (rM h)) r) (sU g 1)
theorem sw(h:p<j)(a:j<=q):j-1<q:=dq (pc (DK h) Nat.one_pos) a
section
variable {prog:Program}{w:World}{A:Around}{E:Value->Shared->Prop}{s:Shared}{κ:SortKind}{a₀:Array Keyed}{R:Keyed->Nat}
theorem GJ{lo n S:Nat}{au:SortSt}{Q:Bool->SortSt->Prop}(O:kP prog w A s κ a₀ R)(b:B κ a₀ au)(hn:lo+n<=a₀.size)(h1:1<=S)(h2:S<=n)(up:fm R (arrOf au) lo (lo+S))
  (h:∀a,B κ a₀ a->Sm au a lo (lo+n)->fm R (arrOf a) lo (lo+n)->Q true a):wpS (model prog w) A E s (binarySort' lo n S) Q au:=by
 rw[binarySort'_eq]
 refine bh (jh (iU (I:=λk c a=>c=(none,())/\B κ a₀ a/\Sm au a lo (lo+n)/\fm R (arrOf a) lo (lo+min k n))
  (Q:=λc a=>c=(none,())/\B κ a₀ a/\Sm au a lo (lo+n)/\fm R (arrOf a) lo (lo+n)) ?_ ?_ ?_) ?_)
 ·rintro k c a k1 H ⟨rfl,t,f,up1⟩;rw[lh (dL H)] at up1;have hz:=t.size;have U:lo+k<a₀.size:=dq (nZ H lo) hn
  refine bh (jh (iU (I:=λx c d=>d=a/\∃l r,c=(none,l,r)/\l<=r/\r<=k/\r-l<=k-x/\(∀i,i<l->kA R (arrOf a) (lo+i)<=kA R (arrOf a) (lo+k))/\(∀i,r<=i->i<k->kA R (arrOf a) (lo+k)<=kA R (arrOf a) (lo+i)))
   (Q:=λc d=>d=a/\∃l r,c=(none,l,r)/\l<=k/\(∀i,i<l->kA R (arrOf a) (lo+i)<=kA R (arrOf a) (lo+k))/\(∀i,l<=i->i<k->kA R (arrOf a) (lo+k)<=kA R (arrOf a) (lo+i))) ?_ ?_ ?_) ?_)
  ·rintro x c d x1 x2 ⟨rfl,l,r,rfl,v,o,y,P,J⟩;dsimp only;by_cases hge:l ≥ r
   ·rw[if_pos hge];have e:l=r:=km v hge;subst e;exact bu ⟨rfl,l,l,rfl,o,P,J⟩
   ·have hm:lo+(l+r)/2<lo+k:=nZ (dq (oS hge) o) lo;rw[if_neg hge];refine bh (rd O t U (sF hm U) ?_);by_cases c:kA R (arrOf d) (lo+k)<kA R (arrOf d) (lo+(l+r)/2)
    ·simp only[c,qo,h8];exact bu ⟨rfl,l,(l+r)/2,rfl,rM hge,ay (dL (oS hge)) o,Pv hge y,P,λi m g=>ay (dL c) (up1 _ _ (fM _ _) (ij m lo) (nZ g lo))⟩
    ·simp only[c,sD,ku,jm];exact bu ⟨rfl,(l+r)/2+1,r,rfl,oS hge,o,Pu hge y,λi m=>ay (up1 (lo+i) (lo+(l+r)/2) (fM _ _) (ij (jJ m) lo) hm) (fU c),J⟩
  ·rintro c d ⟨rfl,l,r,rfl,v,o,y,P,J⟩;have e:=Fp v y;subst e;exact⟨rfl,_,_,rfl,o,P,J⟩
  ·exact⟨rfl,0,k,rfl,iT _,bj _,bj _,λi hi=>absurd hi (Nat.not_lt_zero _),λi m g=>absurd g (mL m)⟩
  ·rintro c d ⟨rfl,l,r,rfl,v,o,y⟩;dsimp only;have hd:lo+k-(lo+k-(lo+l))=lo+l:=Nat.sub_sub_self (ij v lo);have X:lo+k<(arrOf d).size:=by rw[hz];exact U
   refine bh (Jd (bu ⟨rfl,t.set (bubble_perm _ _ _),⟨(ew.bubble X (mF _ _) (by rw[hd];exact fM _ _) (nZ H lo)).trans f.out,f.pend⟩,λi j m g G=>?_⟩));show kA R (bubble (arrOf d) (lo+k) (lo+k-(lo+l))) i<=kA R (bubble (arrOf d) (lo+k) (lo+k-(lo+l))) j;rw[Q8 X (mF _ _),Q8 X (mF _ _),hd];rw[lh H] at G;have p:j<=lo+k:=jJ G;have a0:∀q,lo<=q->q<lo+l->kA R (arrOf d) q<=kA R (arrOf d) (lo+k):=λq C T=>by
    have:=o (q-lo) (pI C T);rw[iC C] at this;exact this
   have Y:∀q,lo+l<=q->q<lo+k->kA R (arrOf d) (lo+k)<=kA R (arrOf d) q:=λq C T=>by
    have q0:=ay (fM _ _) C;have:=y (q-lo) (qG C) (pI q0 T);rw[iC q0] at this;exact this
   by_cases i1:i=lo+l
   ·rw[if_pos i1];by_cases j1:j=lo+l
    ·rw[if_pos j1];exact bj _
    ·have u:=jX (i1 ▸ g) (cJ j1);rw[if_neg j1,if_pos ⟨u,p⟩];exact Y _ (ln u) (sw u p)
   ·rw[if_neg i1];by_cases i2:lo+l<i/\i<=lo+k
    ·have u:=dq i2.1 g;rw[if_pos i2,if_neg (nS u),if_pos ⟨u,p⟩];exact up1 _ _ (ay (fM lo l) (ln i2.1)) (sU g 1) (sw u p)
    ·have il:i<lo+l:=jX (fU λz=>i2 ⟨z,ay g p⟩) i1;rw[if_neg i2];by_cases j1:j=lo+l
     ·rw[if_pos j1];exact a0 i m il
     ·rw[if_neg j1];by_cases j2:lo+l<j/\j<=lo+k
      ·rw[if_pos j2];exact up1 _ _ m (ln (sF il j2.1)) (sw j2.1 p)
      ·rw[if_neg j2];exact up1 _ _ m g (dq (jX (fU λz=>j2 ⟨z,p⟩) j1) (ij v lo))
 ·rintro c a ⟨rfl,t,f,up1⟩;rw[yW (Nat.le_max_right _ _)] at up1;exact⟨rfl,t,f,up1⟩
 ·refine⟨rfl,b,⟨ew.refl _ _ _,rfl⟩,λi j m g G=>up i j m g (dq G (ij (ay (u9 _ _) (ii (Nat.max_eq_left h1))) lo))⟩
 ·rintro c a ⟨rfl,t,f,up1⟩;exact bu (h a t f up1)
end
noncomputable def pT:Bool->Keyed->Array Keyed->Nat->Nat->Nat->StateT SortSt Sem (Option Nat):=sortPriv% PySem.Builtin.gallop
def ow(left:Bool) (R:Keyed->Nat) (a:Keyed) (b:Array Keyed) (base n h:Nat):Prop:=h<=n/\(∀i,i<h->if left then kA R b (base+i)<R a else kA R b (base+i)<=R a)/\(∀i,h<=i->i<n->if left then R a<=kA R b (base+i) else R a<kA R b (base+i))
def ahead(left:Bool) (R:Keyed->Nat) (a:Keyed) (b:Array Keyed) (base i:Nat):Bool:=if left then decide (kA R b (base+i)<R a) else decide (kA R b (base+i)<=R a)
section
variable {prog:Program}{w:World}{A:Around}{E:Value->Shared->Prop}{s:Shared}{κ:SortKind}{a₀:Array Keyed}{R:Keyed->Nat}
theorem vX{left:Bool}{a:Keyed}{b:Array Keyed}{base i:Nat}{au:SortSt}{Q:Option Bool->SortSt->Prop}(O:kP prog w A s κ a₀ R)(d:kindOf au=κ)(mk:a∈a₀.toList)(f:∃x,b[base+i]?=some x/\x∈a₀.toList)(h:Q (some (ahead left R a b base i)) au):
  wpS (model prog w) A E s (do
   let x ←elem' b (base+i)
   if left=true then lt' x a else do
    let y ←lt' a x
    pure (Option.map (λx=>!x) y)) Q au:=by
 obtain⟨x,e,m⟩:=f;refine bh (p9 e ?_);unfold ahead at h;rw[jf e] at h;cases left with
 |true=>
  rw[if_pos rfl] at h ⊢;exact w_lt O d m mk h
 |false=>
  rw[if_neg (by decide)] at h ⊢;refine bh (w_lt O d mk m (bu ?_));have q:(!decide (R a<R x))=decide (R x<=R a):=by
   by_cases c:R a<R x
   ·rw[eK c,dM (Nat.not_le_of_lt c)];rfl
   ·rw[dM c,eK (fU c)];rfl
  show Q (some (!decide (R a<R x))) au;rw[q];exact h
end
theorem Tz{R:Keyed->Nat}(b:fm R arr base (base+n))(a:i<=j)(c:j<n)(h:ahead left R key arr base j=true):ahead left R key arr base i=true:=by
 have:=b (base+i) (base+j) (fM _ _) (ij a _) (nZ c _);unfold ahead at h ⊢;cases left with
 |true=>rw[if_pos rfl] at h ⊢;exact eK (jL this (gU h))
 |false=>rw[if_neg (by decide)] at h ⊢;exact eK (ay this (gU h))
theorem xa{R:Keyed->Nat}(b:h<=n)(f:∀i,i<h->ahead left R key arr base i=true)(d:∀i,h<=i->i<n->ahead left R key arr base i=false):ow left R key arr base n h:=by
 refine⟨b,λi e=>?_,λi a c=>?_⟩
 ·have:=f i e;unfold ahead at this;cases left with
  |true=>rw[if_pos rfl] at this ⊢;exact gU this
  |false=>rw[if_neg (by decide)] at this ⊢;exact gU this
 ·have:=d i a c;unfold ahead at this;cases left with
  |true=>rw[if_pos rfl] at this ⊢;exact fU (of_decide_eq_false this)
  |false=>rw[if_neg (by decide)] at this ⊢;exact qv (of_decide_eq_false this)
theorem yd(c:¬a ≥ b):(b-a)/2<b-a:=Nat.div_lt_self (qB (qv c)) (bj 2)
theorem rO(c:¬a ≥ b):a+(b-a)/2<b:=n0 (yd c)
theorem k8(c:¬a ≥ b)(h:b<=n):a+(b-a)/2<n:=dq (rO c) h
theorem xq(h:b-a<=n-x):b-(a+(b-a)/2+1)<=n-(x+1):=ay (zA (pu (fM a _)) b) (sU h 1)
theorem xt(c:¬a ≥ b)(h:b-a<=n-x):a+(b-a)/2-a<=n-(x+1):=by
 rw[md];exact ay (ln (yd c)) (sU h 1)
theorem xf(o:Nat):o<2*o+1:=Nat.lt_succ_of_le (Nat.le_mul_of_pos_left o Dm)
theorem xc(h:x+1<=o):x+1+1<=2*o+1:=pu (ay h (Nat.le_mul_of_pos_left o Dm))
theorem xL{a b n:Nat}(h:a+b<n):b<n-a:=Nat.lt_sub_of_add_lt (Nat.add_comm a b ▸ h)
inductive GI (f:Nat->Bool) (n:Nat) (au:SortSt) (x:Nat):Option (Option Nat)×Nat×Nat->SortSt->Prop where
 |mk {a b:Nat}(q1:a<=b) (q2:b<=n) (q3:b-a<=n-x) (q4:∀i,i<a->f i=true) (q5:∀i,b<=i->i<n->f i=false):GI f n au x (none,a,b) au
inductive GE (f:Nat->Bool) (n:Nat) (au:SortSt):Option (Option Nat)×Nat×Nat->SortSt->Prop where
 |mk {b:Nat}(q2:b<=n) (q4:∀i,i<b->f i=true) (q5:∀i,b<=i->i<n->f i=false):GE f n au (none,b,b) au
inductive GU (f:Nat->Bool) (n hint:Nat) (P:Nat->Prop) (au:SortSt):Option (Option Nat)×Nat×Nat->SortSt->Prop where
 |mk {l o:Nat}(g1:l<o) (g2:hint+l<n) (g3:f (hint+l)=true) (g4:P o):GU f n hint P au (none,l,o) au
inductive GD (f:Nat->Bool) (hint:Nat) (P:Nat->Prop) (au:SortSt):Option (Option Nat)×Nat×Nat->SortSt->Prop where
 |mk {l o:Nat}(g1:l<o) (g2:l<=hint) (g3:f (hint-l)=false) (g4:P o):GD f hint P au (none,l,o) au
section
variable {prog:Program}{w:World}{A:Around}{E:Value->Shared->Prop}{s:Shared}{κ:SortKind}{a₀:Array Keyed}{R:Keyed->Nat}
theorem uN{left:Bool}{m:Keyed}{f:Array Keyed}{base n d:Nat}{au:SortSt}{Q:Option Nat->SortSt->Prop}(O:kP prog w A s κ a₀ R)(hk:kindOf au=κ)(mk:m∈a₀.toList)(ma:∀i,i<n->∃x,f[base+i]?=some x/\x∈a₀.toList)(U:d<n)
  (up:fm R f base (base+n))(h:∀k,ow left R m f base n k->Q (some k) au):wpS (model prog w) A E s (pT left m f base n d) Q au:=by
 have r:∀i j,i<=j->j<n->ahead left R m f base j=true->ahead left R m f base i=true:=λi j t H=>Tz up t H
 have q:∀i j,i<=j->j<n->ahead left R m f base i=false->ahead left R m f base j=false:=λi j t H e=>by
  cases c:ahead left R m f base j with
  |false=>rfl
  |true=>rw[r i j t H c] at e;cases e
 refine bh (vX O hk mk (ma d U) ?_);dsimp only;cases hr:ahead left R m f base d with
 |true=>
  rw[if_pos rfl];refine bh (jh (iU (I:=λx=>GU (ahead left R m f base) n d (x+1<=·) au) (Q:=GU (ahead left R m f base) n d (λo=>n-d<=o\/(d+o<n/\ahead left R m f base (d+o)=false)) au) ?_ ?_ ?_) ?_)
  ·rintro x c S x1 x2 @⟨l,o,y,u,G,C⟩;dsimp only;by_cases c:o ≥ n-d
   ·rw[if_pos c];exact bu (.mk y u G (.inl c))
   ·have c3:d+o<n:=n0 (qv c);rw[if_neg c];refine bh (vX O hk mk (ma (d+o) c3) ?_);dsimp only;cases c2:ahead left R m f base (d+o) with
    |true=>exact bu (.mk (xf o) c3 c2 (xc C))
    |false=>exact bu (.mk y u G (.inr ⟨c3,c2⟩))
  ·rintro c S @⟨l,o,y,u,G,C⟩;rw[Nat.zero_max] at C;exact .mk y u G (.inl (ay (mF _ _) (jW C)))
  ·exact .mk Nat.one_pos U hr (bj _)
  ·rintro c S @⟨l,o,y,u,G,C⟩;dsimp only;have f1:∀i,i<d+l+1->ahead left R m f base i=true:=λi J=>r i (d+l) (jJ J) u G
   have f2:∀i,d+min o (n-d)<=i->i<n->ahead left R m f base i=false:=λi t H=>by
    rcases C with g|⟨ga,gb⟩
    ·rw[yW g,iC (dL U)] at t;exact absurd H (mL t)
    ·rw[lh (dL (xL ga))] at t;exact q (d+o) i t H gb
   have X:d+l+1<=d+min o (n-d):=ij (Nat.le_min.mpr ⟨y,xL u⟩) d;have f4:d+min o (n-d)<=n:=ay (ij (ko _ _) d) (ii (iC (dL U)));generalize d+l+1=lo at f1 X ⊢;generalize d+min o (n-d)=J at f2 X f4 ⊢;refine bh (jh (iU (I:=GI (ahead left R m f base) n au) (Q:=GE (ahead left R m f base) n au) ?_ ?_ (.mk X f4 (ay (mF _ _) f4) f1 f2)) ?_)
   ·rintro x c P x1 x2 @⟨a,b,Y,p,T,z,v⟩;dsimp only;by_cases c:a ≥ b
    ·rw[if_pos c];have e:b=a:=km c Y;subst e;exact bu (.mk p z v)
    ·rw[if_neg c];refine bh (vX O hk mk (ma (a+(b-a)/2) (k8 c p)) ?_);dsimp only;cases c2:ahead left R m f base (a+(b-a)/2) with
     |true=>exact bu (.mk (rO c) p (xq T) (λi J=>r i (a+(b-a)/2) (jJ J) (k8 c p) c2) v)
     |false=>exact bu (.mk (fM _ _) (dL (k8 c p)) (xt c T) z λi t H=>q (a+(b-a)/2) i t H c2)
   ·rintro c P @⟨a,b,Y,p,T,z,v⟩;have e:=Fp Y T;subst e;exact .mk p z v
   ·rintro c P @⟨b,p,z,v⟩;exact bu (h b (xa p z v))
 |false=>
  rw[if_neg (by decide)];refine bh (jh (iU (I:=λx=>GD (ahead left R m f base) d (x+1<=·) au) (Q:=GD (ahead left R m f base) d (λo=>d+1<=o\/(o<=d/\ahead left R m f base (d-o)=true)) au) ?_ ?_ ?_) ?_)
  ·rintro x c S x1 x2 @⟨l,o,y,u,G,C⟩;dsimp only;by_cases c:o ≥ d+1
   ·rw[if_pos c];exact bu (.mk y u G (.inl c))
   ·rw[if_neg c];refine bh (vX O hk mk (ma (d-o) (jL (mF _ _) U)) ?_);dsimp only;cases c2:ahead left R m f base (d-o) with
    |true=>exact bu (.mk y u G (.inr ⟨jJ (qv c),c2⟩))
    |false=>exact bu (.mk (xf o) (jJ (qv c)) c2 (xc C))
  ·rintro c S @⟨l,o,y,u,G,C⟩;rw[Nat.zero_max] at C;exact .mk y u G (.inl (ay U (jW C)))
  ·exact .mk Nat.one_pos (iT _) hr (bj _)
  ·rintro c S @⟨l,o,y,u,G,C⟩;dsimp only;have f1:∀i,i<d+1-min o (d+1)->ahead left R m f base i=true:=λi J=>by
    rcases C with g|⟨ga,gb⟩
    ·rw[yW g,sE] at J;exact absurd J (Nat.not_lt_zero _)
    ·rw[lh (qA ga),Nat.succ_sub ga] at J;exact r i (d-o) (jJ J) (jL (mF _ _) U) gb
   have f2:∀i,d-l<=i->i<n->ahead left R m f base i=false:=λi t H=>q (d-l) i t H G
   have X:d+1-min o (d+1)<=d-l:=ay (zA (Nat.le_min.mpr ⟨y,pu u⟩) _) (ii (Nat.succ_sub_succ d l));have f4:d-l<=n:=ay (mF _ _) (dL U);generalize d+1-min o (d+1)=lo at f1 X ⊢;generalize d-l=J at f2 X f4 ⊢;refine bh (jh (iU (I:=GI (ahead left R m f base) n au) (Q:=GE (ahead left R m f base) n au) ?_ ?_ (.mk X f4 (ay (mF _ _) f4) f1 f2)) ?_)
   ·rintro x c P x1 x2 @⟨a,b,Y,p,T,z,v⟩;dsimp only;by_cases c:a ≥ b
    ·rw[if_pos c];have e:b=a:=km c Y;subst e;exact bu (.mk p z v)
    ·rw[if_neg c];refine bh (vX O hk mk (ma (a+(b-a)/2) (k8 c p)) ?_);dsimp only;cases c2:ahead left R m f base (a+(b-a)/2) with
     |true=>exact bu (.mk (rO c) p (xq T) (λi J=>r i (a+(b-a)/2) (jJ J) (k8 c p) c2) v)
     |false=>exact bu (.mk (fM _ _) (dL (k8 c p)) (xt c T) z λi t H=>q (a+(b-a)/2) i t H c2)
   ·rintro c P @⟨a,b,Y,p,T,z,v⟩;have e:=Fp Y T;subst e;exact .mk p z v
   ·rintro c P @⟨b,p,z,v⟩;exact bu (h b (xa p z v))
end
noncomputable abbrev Ord(R:Keyed->Nat) (l:List Keyed):Prop:=l.Pairwise λx y=>R x<=R y
structure jB (au st':SortSt):Prop where
 arr:arrOf st'=arrOf au
 pend:pendingOf st'=pendingOf au
 kind:kindOf st'=kindOf au
 failed:failedOf st'=failedOf au
theorem jB.refl(au:SortSt):jB au au:=⟨rfl,rfl,rfl,rfl⟩
theorem jB.trans(x:jB a b)(y:jB b c):jB a c:=⟨y.arr.trans x.arr,y.pend.trans x.pend,y.kind.trans x.kind,y.failed.trans x.failed⟩
noncomputable def nc:Array Keyed->Array Keyed->StateT SortSt Sem (Array Keyed):=sortPriv% PySem.Builtin.mergeLo
noncomputable def ng:Array Keyed->Array Keyed->StateT SortSt Sem (Array Keyed):=sortPriv% PySem.Builtin.mergeHi
structure ML (R:Keyed->Nat) (all out rest:List Keyed):Prop where
 perm:(out++rest).Perm all
 ord:Ord R out
 le:∀x∈out,∀y∈rest,R x<=R y
theorem ML.grow{R:Keyed->Nat}{a:List Keyed}(m:ML R all out a)(p:a.Perm (c++rest'))(o:Ord R c)(h:∀x∈c,∀y∈rest',R x<=R y):ML R all (out++c) rest':=by
 refine⟨?_,vo.mpr ⟨m.ord,o,λx hx y b=>m.le x hx y (p.mem_iff.mpr (vp _ b))⟩,λx hx y b=>?_⟩
 ·rw[eh];exact(zE out p.symm).trans m.perm
 ·rcases eO.mp hx with hx|hx
  ·exact m.le x hx y (p.mem_iff.mpr (gG _ b))
  ·exact h x hx y b
theorem ML.fin{R:Keyed->Nat}{b a:List Keyed}(m:ML R all out b)(p:a.Perm b)(o:Ord R a):(out++a).Perm all/\Ord R (out++a):=
 ⟨(zE out p).trans m.perm,vo.mpr ⟨m.ord,o,λx c y d=>m.le x c y (p.mem_iff.mp d)⟩⟩
theorem Ord.at{R:Keyed->Nat}(h:Ord R l){i j:Nat}(g:l[i]?=some x)(f:l[j]?=some y)(a:i<=j):R x<=R y:=by
 obtain⟨e,d⟩:=cn.mp g;obtain⟨k,b⟩:=cn.mp f;by_cases c:i=j
 ·subst c;rw[←d,←b];exact bj _
 ·rw[←d,←b];exact OO.mp h i j e k (jX a c)
theorem Ord.drop{R:Keyed->Nat}(h:Ord R l)(n:Nat):Ord R (l.drop n):=List.Pairwise.sublist (List.drop_sublist _ _) h
theorem Ord.take{R:Keyed->Nat}(h:Ord R l)(n:Nat):Ord R (l.take n):=List.Pairwise.sublist (DL _ _) h
theorem oQ{l:List Keyed}(h:y∈l.drop n):∃j,n<=j/\l[j]?=some y:=by
 obtain⟨i,a,e⟩:=pE h;refine⟨n+i,fM _ _,?_⟩;rw[←e,List.getElem_drop];exact dr _
theorem kj{l:List Keyed}(h:y∈l.take n):∃j,j<n/\l[j]?=some y:=by
 obtain⟨i,b,e⟩:=pE h;have a:i<n/\i<l.length:=by rw[fj] at b;exact Nat.lt_min.mp b
 refine⟨i,a.1,?_⟩;rw[←e,List.getElem_take];exact dr _
theorem RY{l:List Keyed}{i:Nat}{x:Keyed}(h:l[i]?=some x):l.drop i=x::l.drop (i+1):=by
 obtain⟨a,rfl⟩:=cn.mp h;exact jY a
theorem Rx(l:List Keyed)(i k:Nat):l.drop i=(l.drop i).take k++l.drop (i+k):=by
 rw[←N7,kx]
structure gx (R:Keyed->Nat) (la lb:List Keyed):Prop where
 oa:Ord R la
 ob:Ord R lb
 last:∀x,la[la.length-1]?=some x->∀y∈lb,R y<=R x
def Fin(R:Keyed->Nat) (a b:List Keyed) (r:Array Keyed):Prop:=r.toList.Perm (a++b)/\Ord R r.toList
section
variable {la:List Keyed}{lb:List Keyed}{out:Array Keyed}{ia:Nat}{ib:Nat}
theorem ML.pushB{R:Keyed->Nat}{all:List Keyed}(T:gx R la lb)(m:ML R all out.toList (la.drop ia++lb.drop ib)){y:Keyed}(b:lb[ib]?=some y)(h:∀z∈la.drop ia,R y<=R z):ML R all (out.push y).toList (la.drop ia++lb.drop (ib+1)):=by
 rw[qz];refine m.grow ?_ (OG _ _) λx a z hz=>?_
 ·rw[RY b];exact List.perm_middle
 ·simp at a;subst a
  rcases eO.mp hz with hz|hz
  ·exact h z hz
  ·obtain⟨j,c,e⟩:=oQ hz;exact T.ob.at b e (jW c)
end
section
variable {w:World}{la:List Keyed}{lb:List Keyed}{out:Array Keyed}{ia:Nat}{ib:Nat}
theorem ML.pushA{R:Keyed->Nat}{all:List Keyed}(T:gx R la lb)(m:ML R all out.toList (la.drop ia++lb.drop ib)){x:Keyed}(a:la[ia]?=some x)(h:∀z∈lb.drop ib,R x<=R z):ML R all (out.push x).toList (la.drop (ia+1)++lb.drop ib):=by
 rw[qz];refine m.grow ?_ (OG _ _) λw b z hz=>?_
 ·rw[RY a];exact .refl _
 ·simp at b;subst b
  rcases eO.mp hz with hz|hz
  ·obtain⟨j,c,e⟩:=oQ hz;exact T.oa.at a e (jW c)
  ·exact h z hz
end
theorem kU(a:Array Keyed)(i j:Nat):(a.extract i j).toList=(a.toList.drop i).take (j-i):=by
 rw[Array.toList_extract,List.extract_eq_take_drop]
theorem B4(a:Array Keyed)(i:Nat):(a.extract i).toList=a.toList.drop i:=by
 rw[kU];exact vw (by simp)
theorem iR{R:Keyed->Nat}{a:Array Keyed}(h:a.toList[i]?=some x):kA R a i=R x:=jf (by rw[←iW];exact h)
section
variable {R:Keyed->Nat}{a:Array Keyed}{b:Array Keyed}{out:Array Keyed}{ia:Nat}{ib:Nat}{k:Nat}
theorem ML.galA(T:gx R a.toList b.toList)(m:ML R all out.toList (a.toList.drop ia++b.toList.drop ib))(o:b.toList[ib]?=some y)(c:ow false R y a ia (a.size-ia) k):ML R all (out++a.extract ia (ia+k)).toList (a.toList.drop (ia+k)++b.toList.drop ib)/\∀z∈a.toList.drop (ia+k),R y<=R z:=by
 have n:∀z∈a.toList.drop (ia+k),R y<=R z:=λz d=>by
  obtain⟨j,f,e⟩:=oQ d;have i:j<a.size:=by have:=(cn.mp e).1;simpa using this
  have l:=ay (fM _ _) f;have:=c.2.2 (j-ia) (qG f) (pG l i);rw[iC l,iR e] at this;exact dL this
 have h:∀z∈(a.toList.drop ia).take k,R z<=R y:=λz d=>by
  obtain⟨j,f,e⟩:=kj d;rw[qC] at e;have:=c.2.1 j f;rw[iR e] at this;exact this
 refine⟨?_,n⟩;rw[l4,kU,md];refine m.grow ?_ ((T.oa.drop ia).take k) λz d v hv=>?_
 ·conv=>lhs;rw[Rx a.toList ia k]
  rw[eh]
 ·rcases eO.mp hv with hv|hv
  ·exact ay (h z d) (n v hv)
  ·obtain⟨j,f,e⟩:=oQ hv;exact ay (h z d) (T.ob.at o e f)
theorem ML.galB(T:gx R a.toList b.toList)(m:ML R all out.toList (a.toList.drop ia++b.toList.drop ib))(o:a.toList[ia]?=some x)(c:ow true R x b ib (b.size-ib) k):ML R all (out++b.extract ib (ib+k)).toList (a.toList.drop ia++b.toList.drop (ib+k))/\∀z∈b.toList.drop (ib+k),R x<=R z:=by
 have n:∀z∈b.toList.drop (ib+k),R x<=R z:=λz d=>by
  obtain⟨j,f,e⟩:=oQ d;have i:j<b.size:=by have:=(cn.mp e).1;simpa using this
  have l:=ay (fM _ _) f;have:=c.2.2 (j-ib) (qG f) (pG l i);rw[iC l,iR e] at this;exact this
 have h:∀z∈(b.toList.drop ib).take k,R z<=R x:=λz d=>by
  obtain⟨j,f,e⟩:=kj d;rw[qC] at e;have:=c.2.1 j f;rw[iR e] at this;exact dL this
 refine⟨?_,n⟩;rw[l4,kU,md];refine m.grow ?_ ((T.ob.drop ib).take k) λz d v hv=>?_
 ·conv=>lhs;rw[Rx b.toList ib k]
  rw[←eh,←eh];exact DY _ zD
 ·rcases eO.mp hv with hv|hv
  ·obtain⟨j,f,e⟩:=oQ hv;exact ay (h z d) (T.oa.at o e f)
  ·exact ay (h z d) (n v hv)
end
theorem ML.done{R:Keyed->Nat}{a:Array Keyed}{b:Array Keyed}{c:Array Keyed}{d:Nat}{e:Nat}(T:gx R a.toList b.toList)(m:ML R (a.toList++b.toList) c.toList (a.toList.drop d++b.toList.drop e))(h:d=a.size\/e=b.size):Fin R a.toList b.toList (c++a.extract d++b.extract e):=by
 unfold Fin;rw[l4,l4,B4,B4,eh];refine m.fin (.refl _) ?_;rcases h with rfl|rfl
 ·rw[DX (by simp),u8];exact T.ob.drop _
 ·rw[DX (as:=b.toList) (by simp),kn];exact T.oa.drop _
theorem ML.lastA{R:Keyed->Nat}{a:Array Keyed}{b:Array Keyed}{c:Array Keyed}{f:Nat}{g:Nat}(T:gx R a.toList b.toList)(m:ML R (a.toList++b.toList) c.toList (a.toList.drop f++b.toList.drop g))(h:f+1=a.size):Fin R a.toList b.toList (c++b.extract g++a.extract f):=by
 unfold Fin;rw[l4,l4,B4,B4,eh];refine m.fin zD (vo.mpr ⟨T.ob.drop _,T.oa.drop _,λv l z i=>?_⟩);obtain⟨j,k,e⟩:=oQ i;have d:j<a.size:=by have:=(cn.mp e).1;simpa using this
 have:j=a.toList.length-1:=km (ln (by rw[gF];exact d)) (by rw[gF,←h];exact k);subst this;exact T.last z e v (pF l)
noncomputable def zV:Nat->StateT SortSt Sem Unit:=sortPriv% PySem.Builtin.setMinGallop
section
variable {prog:Program}{w:World}{A:Around}{E:Value->Shared->Prop}{s:Shared}
theorem BY{g:Nat}{au:SortSt}{Q:Unit->SortSt->Prop}(h:∀a,jB au a->Q () a):wpS (model prog w) A E s (zV g) Q au:=
 mD (h _ ⟨rfl,rfl,rfl,rfl⟩)
end
section
variable {prog:Program}{w:World}{A:Around}{E:Value->Shared->Prop}{s:Shared}{y:Keyed}{x:Keyed}
theorem wT{a:Type}{K:Nat->StateT SortSt Sem a}{Q:a->SortSt->Prop}{au:SortSt}(h:∀v,wpS (model prog w) A E s (K v) Q au):∀y x:Nat,wpS (model prog w) A E s (if y > 1 then K x else K y) Q au:=λy x=>by
 by_cases e:y > 1
 ·rw[if_pos e];exact h x
 ·rw[if_neg e];exact h y
end
section
variable {prog:Program}{w:World}{A:Around}{E:Value->Shared->Prop}{s:Shared}
theorem wR{d:Type}{c a:Prop}[Decidable c][Decidable a]{X Y b:StateT SortSt Sem d}{Q:d->SortSt->Prop}{au:SortSt}(g:¬c->b=Y)(h:c->a->wpS (model prog w) A E s X Q au)(f:(c->¬a)->wpS (model prog w) A E s Y Q au):wpS (model prog w) A E s (if c then(if a then X else Y) else b) Q au:=by
 by_cases e:c
 ·rw[if_pos e];by_cases e2:a
  ·rw[if_pos e2];exact h e e2
  ·rw[if_neg e2];exact f λ_=>e2
 ·rw[if_neg e,g e];exact f λz=>absurd z e
theorem xO{f:Type}{c b a:Prop}[Decidable c][Decidable b][Decidable a]{X g Y d:StateT SortSt Sem f}{Q:f->SortSt->Prop}{au:SortSt}(j:¬c->d=Y)(i:c->b->wpS (model prog w) A E s X Q au)(k:c->a->wpS (model prog w) A E s g Q au)(h:(c->¬b/\¬a)->wpS (model prog w) A E s Y Q au):wpS (model prog w) A E s (if c then(if b then X else if a then g else Y) else d) Q au:=by
 by_cases e:c
 ·rw[if_pos e];by_cases e2:b
  ·rw[if_pos e2];exact i e e2
  ·rw[if_neg e2];by_cases e3:a
   ·rw[if_pos e3];exact k e e3
   ·rw[if_neg e3];exact h λ_=>⟨e2,e3⟩
 ·rw[if_neg e,j e];exact h λz=>absurd z e
theorem wS{b:Type}{c a:Prop}[Decidable c][Decidable a]{X d Y:StateT SortSt Sem b}{Q:b->SortSt->Prop}{au:SortSt}(h:c->wpS (model prog w) A E s X Q au)(g:a->wpS (model prog w) A E s d Q au)(f:¬c->¬a->wpS (model prog w) A E s Y Q au):wpS (model prog w) A E s (if c then X else if a then d else Y) Q au:=by
 by_cases e:c
 ·rw[if_pos e];exact h e
 ·rw[if_neg e];by_cases e2:a
  ·rw[if_pos e2];exact g e2
  ·rw[if_neg e2];exact f e e2
theorem fN{a:Type}{c:Prop}[Decidable c]{X Y:StateT SortSt Sem a}{Q:a->SortSt->Prop}{au:SortSt}(b:c->wpS (model prog w) A E s X Q au)(d:¬c->wpS (model prog w) A E s Y Q au):wpS (model prog w) A E s (if c then X else Y) Q au:=by
 by_cases e:c
 ·rw[if_pos e];exact b e
 ·rw[if_neg e];exact d e
theorem fk{b:Type}{a:Array Keyed}{i:Nat}{x:Keyed}{f:Keyed->StateT SortSt Sem b}{Q:b->SortSt->Prop}{au:SortSt}(e:a[i]?=some x)(h:wpS (model prog w) A E s (f x) Q au):wpS (model prog w) A E s (elem' a i >>= f) Q au:=bh (p9 e h)
end
section
variable {prog:Program}{w:World}{A:Around}{E:Value->Shared->Prop}{s:Shared}{κ:SortKind}{a₀:Array Keyed}{R:Keyed->Nat}
theorem xP{a:Type}{x y:Keyed}{f:Option Bool->StateT SortSt Sem a}{Q:a->SortSt->Prop}{au:SortSt}(O:kP prog w A s κ a₀ R)(b:kindOf au=κ)(g:x∈a₀.toList)(e:y∈a₀.toList)(d:R x<R y->wpS (model prog w) A E s (f (some true)) Q au)(h:R y<=R x->wpS (model prog w) A E s (f (some false)) Q au):wpS (model prog w) A E s (lt' x y >>= f) Q au:=by
 refine bh (w_lt O b g e ?_);by_cases c:R x<R y
 ·rw[eK c];exact d c
 ·rw[dM c];exact h (fU c)
end
inductive Dn {β:Type}(R:Keyed->Nat) (a b:Array Keyed) (au:SortSt):Option (Array Keyed)×β->SortSt->Prop where
 |mk {r:Array Keyed}{z:β}{st':SortSt}(sm:jB au st') (f:Fin R a.toList b.toList r):Dn R a b au (some r,z) st'
section
variable {out:Array Keyed}{ia:Nat}{ib:Nat}
inductive L1 (R:Keyed->Nat) (a b:Array Keyed) (au:SortSt) (x:Nat):Option (Array Keyed)×Array Keyed×Nat×Nat×Nat->SortSt->Prop where
 |mk {out:Array Keyed}{ia ib g:Nat}{st':SortSt}(sm:jB au st') (m:ML R (a.toList++b.toList) out.toList (a.toList.drop ia++b.toList.drop ib)) (ha:ia+1<a.size) (hb:ib<b.size) (hx:x<ia+ib):L1 R a b au x (none,out,ia,ib,g) st'
inductive PZ (R:Keyed->Nat) (a b:Array Keyed) (au:SortSt) (x:Nat):Option (Array Keyed)×Array Keyed×Nat×Nat×Nat×Nat->SortSt->Prop where
 |mk {out:Array Keyed}{ia ib ac bc:Nat}{st':SortSt}(sm:jB au st') (m:ML R (a.toList++b.toList) out.toList (a.toList.drop ia++b.toList.drop ib)) (ha:ia+1<a.size) (hb:ib<b.size) (hx:x<=ia+ib):PZ R a b au x (none,out,ia,ib,ac,bc) st'
inductive L3 (R:Keyed->Nat) (a b:Array Keyed) (au:SortSt) (x:Nat):Option (Array Keyed)×Array Keyed×Nat×Nat×Nat×Nat×Nat->SortSt->Prop where
 |mk {out:Array Keyed}{ia ib g ac bc:Nat}{st':SortSt}(sm:jB au st') (m:ML R (a.toList++b.toList) out.toList (a.toList.drop ia++b.toList.drop ib)) (ha:ia+1<a.size) (hb:ib<b.size) (hx:x<=ia+ib):L3 R a b au x (none,out,ia,ib,g,ac,bc) st'
end
section
variable {prog:Program}{w:World}{A:Around}{E:Value->Shared->Prop}{s:Shared}{κ:SortKind}{a₀:Array Keyed}{R:Keyed->Nat}{a:Array Keyed}{b:Array Keyed}{out:Array Keyed}{ia:Nat}{ib:Nat}{k:Nat}{y:Keyed}{x:Keyed}
theorem Tt{au:SortSt}{Q:Array Keyed->SortSt->Prop}(O:kP prog w A s κ a₀ R)(hk:kindOf au=κ)(ma:∀x∈a.toList,x∈a₀.toList)(mb:∀x∈b.toList,x∈a₀.toList)(T:gx R a.toList b.toList)(ha:1<=a.size)(hb:1<=b.size)
  (b6:∀y,b.toList[0]?=some y->∀x∈a.toList,R y<=R x)(h:∀r C,jB au C->Fin R a.toList b.toList r->Q r C):wpS (model prog w) A E s (nc a b) Q au:=by
 have u:∀(i:Nat) (J:i<a.size),a[i]?=some a[i]/\a.toList[i]?=some a[i]/\a[i]∈a₀.toList:=λi J=>⟨getElem?_pos a i J,by rw[iW];exact getElem?_pos a i J,ma _ (by simp)⟩
 have o:∀(i:Nat) (J:i<b.size),b[i]?=some b[i]/\b.toList[i]?=some b[i]/\b[i]∈a₀.toList:=λi J=>⟨getElem?_pos b i J,by rw[iW];exact getElem?_pos b i J,mb _ (by simp)⟩
 have b8:∀i,fm R a i (i+(a.size-i)):=λi p q a1 a2 a3=>by
  have hq:q<a.size:=by lia
  have e1:=(u p (by lia)).2.1;have e2:=(u q hq).2.1;rw[iR e1,iR e2];exact T.oa.at e1 e2 a2
 have b7:∀i,fm R b i (i+(b.size-i)):=λi p q a1 a2 a3=>by
  have hq:q<b.size:=by lia
  have e1:=(o p (by lia)).2.1;have e2:=(o q hq).2.1;rw[iR e1,iR e2];exact T.ob.at e1 e2 a2
 obtain⟨y0,f0,f1⟩:∃x,b[0]?=some x/\b.toList[0]?=some x:=⟨_,(o 0 hb).1,(o 0 hb).2.1⟩
 have start:ML R (a.toList++b.toList) (#[y0]:Array Keyed).toList (a.toList.drop 0++b.toList.drop 1):=by
  have z:ML R (a.toList++b.toList) (#[]:Array Keyed).toList (a.toList.drop 0++b.toList.drop 0):=⟨by simp,List.Pairwise.nil,by simp⟩
  exact z.pushB T f1 λx hx=>b6 y0 f1 x (pF hx)
 refine bh (qm (lW ⟨rfl,bh (p9 f0 (wS (λc1=>?_) (λc2=>?_) λc1 c2=>?_))⟩))
 ·exact bu (h _ _ (.refl _) (start.done T (.inr (by simpa using c1))))
 ·exact bu (h _ _ (.refl _) (start.lastA T (by simpa using c2)))
 simp only[mE] at c1 c2;refine bh (lf ?_);refine bh (jh (iU (I:=L1 R a b au) (Q:=Dn R a b au) ?_ ?_ (.mk (.refl _) start (by lia) (by lia) (by lia))) ?_)
 ·rintro x c a4 x1 x2 @⟨out,ia,ib,g,a4,a5,m,b5,b1,hx⟩;dsimp only;refine bh (jh (iU (I:=λ_=>PZ R a b au (ia+ib)) (Q:=λc C=>Dn R a b au c C\/PZ R a b au (ia+ib) c C) ?_ ?_ (.mk a5 m b5 b1 (bj _))) ?_)
  ·rintro x' c a0 _ _ @⟨out,l,ib',ac,bc,a0,t,m,n,d,hp⟩;dsimp only;have ea:=(u l (pz n)).1;have P:=(u l (pz n)).2.1;have a7:=(u l (pz n)).2.2;have eb:=(o ib' d).1;have H:=(o ib' d).2.1;have a6:=(o ib' d).2.2;refine fk eb (fk ea (xP O (t.kind.trans hk) a6 a7 (λcw=>fk eb ?_) λcw=>fk ea ?_))
   ·skip
    have m2:=m.pushB T H λz hz=>by
     obtain⟨j,hj,e⟩:=oQ hz;exact ay (dL cw) (T.oa.at P e hj)
    refine fN (λc5=>bu (.inl (.mk t (m2.done T (.inr (eq_of_beq c5)))))) λc5=>?_
    rw[mE] at c5;have a9:ib'+1<b.size:=jX d c5;have X:ia+ib<=l+(ib'+1):=qA hp;exact fN (λ_=>bu (.inr (.mk t m2 n a9 X))) λ_=>bu (.mk t m2 n a9 X)
   ·skip
    have m2:=m.pushA T P λz hz=>by
     obtain⟨j,hj,e⟩:=oQ hz;exact ay cw (T.ob.at H e hj)
    refine fN (λc5=>bu (.inl (.mk t (m2.lastA T (eq_of_beq c5))))) λc5=>?_
    rw[mE] at c5;have b4:l+1+1<a.size:=jX n c5;have X:ia+ib<=l+1+ib':=Nat.succ_add l ib' ▸ qA hp
    exact fN (λ_=>bu (.inr (.mk t m2 b4 d X))) λ_=>bu (.mk t m2 b4 d X)
  ·exact λc a0 k=>.inr k
  ·rintro c a0 (⟨t,f⟩|@⟨out,l,ib',ac,bc,a0,t,m,n,d,hp⟩)
   ·exact bu (.mk t f)
   ·dsimp only;refine bh (qm (lW ⟨rfl,?_⟩));refine bh (jh (iU (I:=λx'=>L3 R a b au (ia+ib+x')) (Q:=λc C=>Dn R a b au c C\/L3 R a b au (ia+ib+1) c C) ?_ ?_ (.mk t m n d hp)) ?_)
    ·rintro x' c a8 _ d1 @⟨out,l,ib',g',ac,bc,a8,G,m,n,d,hp⟩;dsimp only;have eb:=(o ib' d).1;have H:=(o ib' d).2.1;have a6:=(o ib' d).2.2;generalize g'-1=g1;generalize g'=y;revert g1;revert y
     refine wT ?_;intro gg;refine bh (BY λc0 sg=>?_);have v:=G.trans sg;refine fk eb (bh (uN O (v.kind.trans hk) a6 (λi J=>⟨_,(u (l+i) (n0 J)).1,(u (l+i) (n0 J)).2.2⟩) (qB (pz n)) (b8 l) λk1 S=>?_));have m5:=(m.galA T H S).1;have u5:=(m.galA T H S).2;have d0:=S.1;dsimp only;refine xO (λc6=>?_) (λc6 c7=>?_) (λc6 c8=>?_) λhh=>?_
     ·have z:k1=0:=Nat.le_zero.mp (fU c6);subst z;simp only[uY,OR (u9 _ _),Op]
     ·exact bu (.inl (.mk v (m5.lastA T (eq_of_beq c7))))
     ·exact bu (.inl (.mk v (m5.done T (.inl (eq_of_beq c8)))))
     have Y:l+k1+1<a.size:=by
      by_cases c6:k1 > 0
      ·have:=hh c6;simp at this;lia
      ·lia
     have b9:ia+ib+x'<=l+k1+ib':=ay hp (Nat.add_le_add_right (fM _ _) _);clear hh;generalize l+k1=ia5 at m5 u5 Y b9 ⊢;generalize out++a.extract l ia5=out5 at m5 ⊢;have m6:=m5.pushB T H u5;have ea:=(u _ (pz Y)).1;have P:=(u _ (pz Y)).2.1;have a7:=(u _ (pz Y)).2.2;refine fk eb (fN (λc9=>bu (.inl (.mk v (m6.done T (.inr (eq_of_beq c9)))))) λc9=>fk ea ?_);rw[mE] at c9;refine bh (uN O (v.kind.trans hk) a7 (λi J=>⟨_,(o (ib'+1+i) (n0 J)).1,(o (ib'+1+i) (n0 J)).2.2⟩) (qB (jX d c9)) (b7 (ib'+1)) λk2 U=>?_);have m7:=(m6.galB T P U).1;have u7:=(m6.galB T P U).2;have c4:=U.1;dsimp only;refine wR (λd6=>?_) (λd6 d7=>?_) λhh=>?_
     ·have z2:k2=0:=Nat.le_zero.mp (fU d6);subst z2;simp only[uY,OR (u9 _ _),Op]
     ·exact bu (.inl (.mk v (m7.done T (.inr (eq_of_beq d7)))))
     have c3:ib'+1+k2≠b.size:=by
      by_cases d6:k2 > 0
      ·have:=hh d6;simp at this;lia
      ·lia
     have m8:=m7.pushA T P u7;refine fk ea (fN (λd8=>bu (.inl (.mk v (m8.lastA T (eq_of_beq d8))))) λd8=>?_);rw[mE] at d8;have b3:ia5+1+1<a.size:=jX Y d8;have b0:ib'+1+k2<b.size:=by lia
     have b2:ia+ib+(x'+1)<=ia5+1+(ib'+1+k2):=by lia
     exact fN (λ_=>bu (.inr (.mk v m8 b3 b0 (ay (ij (N9 1 x') _) b2)))) λ_=>bu (.mk v m8 b3 b0 b2)
    ·rintro c a8 ⟨G,m,n,d,hp⟩;exact .inr (.mk G m n d (by lia))
    ·rintro c a8 (⟨G,f⟩|⟨G,m,n,d,hp⟩)
     ·exact bu (.mk G f)
     ·exact bh (BY λc0 sg=>bu (.mk (G.trans sg) m n d (dq (Nat.succ_lt_succ hx) hp)))
 ·rintro c a4 ⟨a5,m,b5,b1,hx⟩;lia
 ·rintro c a4 ⟨a5,f⟩;exact bu (h _ a4 a5 f)
end
structure MH (R:Keyed->Nat) (all out rest:List Keyed):Prop where
 perm:(rest++out.reverse).Perm all
 ord:Ord R out.reverse
 le:∀x∈rest,∀y∈out,R x<=R y
theorem MH.grow{R:Keyed->Nat}{a c:List Keyed}(m:MH R all out a)(p:a.Perm (rest'++c.reverse))(o:Ord R c.reverse)(h:∀x∈rest',∀y∈c,R x<=R y):MH R all (out++c) rest':=by
 refine⟨?_,?_,λx b y hy=>?_⟩
 ·rw[Os,←eh];exact(DY _ p.symm).trans m.perm
 ·rw[Os];exact vo.mpr ⟨o,m.ord,λx b y hy=>m.le x (p.mem_iff.mpr (gG _ b)) y (Dz.mp hy)⟩
 ·rcases eO.mp hy with hy|hy
  ·exact m.le x (p.mem_iff.mpr (vp _ b)) y hy
  ·exact h x b y hy
theorem MH.fin{R:Keyed->Nat}{b a:List Keyed}(m:MH R all out b)(p:a.Perm b)(o:Ord R a):(a++out.reverse).Perm all/\Ord R (a++out.reverse):=
 ⟨(DY _ p).trans m.perm,vo.mpr ⟨o,m.ord,λx c y d=>m.le x (p.mem_iff.mp c) y (Dz.mp d)⟩⟩
theorem R4{l:List Keyed}{i:Nat}{x:Keyed}(h:l[i]?=some x):l.take (i+1)=l.take i++[x]:=by
 obtain⟨a,rfl⟩:=cn.mp h;exact OT a
structure j9 (R:Keyed->Nat) (la lb:List Keyed):Prop where
 oa:Ord R la
 ob:Ord R lb
 first:∀y,lb[0]?=some y->∀x∈la,R y<=R x
section
variable {R:Keyed->Nat}{la:List Keyed}{lb:List Keyed}{all:List Keyed}{out:Array Keyed}{na:Nat}{nb:Nat}
theorem MH.pushB(T:j9 R la lb)(m:MH R all out.toList (la.take na++lb.take (nb+1))){y:Keyed}(b:lb[nb]?=some y)(h:∀z∈la.take na,R z<=R y):MH R all (out.push y).toList (la.take na++lb.take nb):=by
 rw[qz];refine m.grow ?_ (by simp) λz hz w a=>?_
 ·rw[R4 b];simp
 ·simp at a;subst a
  rcases eO.mp hz with hz|hz
  ·exact h z hz
  ·obtain⟨j,c,e⟩:=kj hz;exact T.ob.at e b (by lia)
theorem MH.pushA(T:j9 R la lb)(m:MH R all out.toList (la.take (na+1)++lb.take nb)){x:Keyed}(a:la[na]?=some x)(h:∀z∈lb.take nb,R z<=R x):MH R all (out.push x).toList (la.take na++lb.take nb):=by
 rw[qz];refine m.grow ?_ (by simp) λz hz w b=>?_
 ·rw[R4 a];simp only[List.reverse_singleton,eh];exact zE _ zD
 ·simp at b;subst b
  rcases eO.mp hz with hz|hz
  ·obtain⟨j,c,e⟩:=kj hz;exact T.oa.at e a (by lia)
  ·exact h z hz
end
theorem Qh(l:List Keyed) (h:k<=n):l.take n=l.take k++(l.drop k).take (n-k):=by
 conv=>lhs;rw[show n=k+(n-k) by lia,List.take_add]
section
variable {R:Keyed->Nat}{a:Array Keyed}{b:Array Keyed}{out:Array Keyed}{na:Nat}{nb:Nat}{k:Nat}
theorem MH.galA(T:j9 R a.toList b.toList)(m:MH R all out.toList (a.toList.take na++b.toList.take (nb+1)))(i:b.toList[nb]?=some y)(n:na<=a.size)(c:ow false R y a 0 na k):MH R all (out++(a.extract k na).reverse).toList (a.toList.take k++b.toList.take (nb+1))/\∀z∈a.toList.take k,R z<=R y:=by
 have g:∀z∈a.toList.take k,R z<=R y:=λz d=>by
  obtain⟨j,h,e⟩:=kj d;have:=c.2.1 j h;rw[jI,iR e] at this;exact this
 have l:∀z∈(a.toList.drop k).take (na-k),R y<=R z:=λz d=>by
  obtain⟨j,h,e⟩:=kj d;rw[qC] at e;have:=c.2.2 (k+j) (by lia) (by lia);rw[jI,iR e] at this;exact dL this
 refine⟨?_,g⟩;rw[l4,DR,kU];refine m.grow ?_ (by rw[zB];exact(T.oa.drop k).take _) λv hv z d=>?_
 ·rw[zB,Qh a.toList c.1,eh,eh];exact zE _ zD
 ·have d:=l z (Dz.mp d);rcases eO.mp hv with hv|hv
  ·exact ay (g v hv) d
  ·obtain⟨j,h,e⟩:=kj hv;exact ay (T.ob.at e i (by lia)) d
theorem MH.galB(T:j9 R a.toList b.toList)(m:MH R all out.toList (a.toList.take (na+1)++b.toList.take nb))(i:a.toList[na]?=some x)(n:nb<=b.size)(c:ow true R x b 0 nb k):MH R all (out++(b.extract k nb).reverse).toList (a.toList.take (na+1)++b.toList.take k)/\∀z∈b.toList.take k,R z<=R x:=by
 have g:∀z∈b.toList.take k,R z<=R x:=λz d=>by
  obtain⟨j,h,e⟩:=kj d;have:=c.2.1 j h;rw[jI,iR e] at this;exact dL this
 have l:∀z∈(b.toList.drop k).take (nb-k),R x<=R z:=λz d=>by
  obtain⟨j,h,e⟩:=kj d;rw[qC] at e;have:=c.2.2 (k+j) (by lia) (by lia);rw[jI,iR e] at this;exact this
 refine⟨?_,g⟩;rw[l4,DR,kU];refine m.grow ?_ (by rw[zB];exact(T.ob.drop k).take _) λv hv z d=>?_
 ·rw[zB,Qh b.toList c.1,eh]
 ·have d:=l z (Dz.mp d);rcases eO.mp hv with hv|hv
  ·obtain⟨j,h,e⟩:=kj hv;exact ay (T.oa.at e i (by lia)) d
  ·exact ay (g v hv) d
end
theorem Cr(a:Array Keyed)(n:Nat):(a.extract 0 n).toList=a.toList.take n:=by
 rw[kU,N6,Nat.sub_zero]
theorem MH.done{R:Keyed->Nat}{a:Array Keyed}{b:Array Keyed}{c:Array Keyed}{d:Nat}{nb:Nat}(T:j9 R a.toList b.toList)(m:MH R (a.toList++b.toList) c.toList (a.toList.take d++b.toList.take nb))(h:d=0\/nb=0):Fin R a.toList b.toList (a.extract 0 d++b.extract 0 nb++c.reverse):=by
 unfold Fin;rw[l4,l4,Cr,Cr,DR];refine m.fin (.refl _) ?_;rcases h with rfl|rfl
 ·rw[List.take_zero,u8];exact T.ob.take _
 ·rw[List.take_zero,kn];exact T.oa.take _
theorem MH.firstB{R:Keyed->Nat}{a:Array Keyed}{b:Array Keyed}{c:Array Keyed}{d:Nat}{nb:Nat}(T:j9 R a.toList b.toList)(m:MH R (a.toList++b.toList) c.toList (a.toList.take d++b.toList.take nb))(h:nb=1):Fin R a.toList b.toList (b.extract 0 nb++a.extract 0 d++c.reverse):=by
 unfold Fin;rw[l4,l4,Cr,Cr,DR];refine m.fin zD (vo.mpr ⟨T.ob.take _,T.oa.take _,λv g z f=>?_⟩);obtain⟨j,i,e⟩:=kj g;have:j=0:=by lia
 subst this;exact T.first v e z (l5 f)
section
variable {out:Array Keyed}{na:Nat}{nb:Nat}
inductive H1 (R:Keyed->Nat) (a b:Array Keyed) (au:SortSt) (x:Nat):Option (Array Keyed)×Nat×Nat×Array Keyed×Nat->SortSt->Prop where
 |mk {na nb:Nat}{out:Array Keyed}{g:Nat}{st':SortSt}(sm:jB au st') (m:MH R (a.toList++b.toList) out.toList (a.toList.take na++b.toList.take nb)) (a1:1<=na) (a2:na<=a.size) (b1:2<=nb) (b2:nb<=b.size) (hx:x+na+nb<a.size+b.size):H1 R a b au x (none,na,nb,out,g) st'
inductive H2 (R:Keyed->Nat) (a b:Array Keyed) (au:SortSt) (x:Nat):Option (Array Keyed)×Nat×Nat×Array Keyed×Nat×Nat->SortSt->Prop where
 |mk {na nb:Nat}{out:Array Keyed}{ac bc:Nat}{st':SortSt}(sm:jB au st') (m:MH R (a.toList++b.toList) out.toList (a.toList.take na++b.toList.take nb)) (a1:1<=na) (a2:na<=a.size) (b1:2<=nb) (b2:nb<=b.size) (hx:na+nb<=x):H2 R a b au x (none,na,nb,out,ac,bc) st'
inductive H3 (R:Keyed->Nat) (a b:Array Keyed) (au:SortSt) (x y:Nat):Option (Array Keyed)×Nat×Nat×Array Keyed×Nat×Nat×Nat->SortSt->Prop where
 |mk {na nb:Nat}{out:Array Keyed}{g ac bc:Nat}{st':SortSt}(sm:jB au st') (m:MH R (a.toList++b.toList) out.toList (a.toList.take na++b.toList.take nb)) (a1:1<=na) (a2:na<=a.size) (b1:2<=nb) (b2:nb<=b.size) (hx:y+na+nb<=x):H3 R a b au x y (none,na,nb,out,g,ac,bc) st'
end
section
variable {prog:Program}{w:World}{A:Around}{E:Value->Shared->Prop}{s:Shared}{κ:SortKind}{a₀:Array Keyed}{R:Keyed->Nat}{a:Array Keyed}{b:Array Keyed}{out:Array Keyed}{na:Nat}{nb:Nat}{k:Nat}{y:Keyed}{x:Keyed}
theorem Ts{au:SortSt}{Q:Array Keyed->SortSt->Prop}(O:kP prog w A s κ a₀ R)(hk:kindOf au=κ)(ma:∀x∈a.toList,x∈a₀.toList)(mb:∀x∈b.toList,x∈a₀.toList)(T:j9 R a.toList b.toList)(ha:1<=a.size)(hb:1<=b.size)
  (b7:∀x,a.toList[a.size-1]?=some x->∀y∈b.toList,R y<=R x)(h:∀r v,jB au v->Fin R a.toList b.toList r->Q r v):wpS (model prog w) A E s (ng a b) Q au:=by
 have d:∀(i:Nat) (hi:i<a.size),a[i]?=some a[i]/\a.toList[i]?=some a[i]/\a[i]∈a₀.toList:=λi hi=>⟨getElem?_pos a i hi,by rw[iW];exact getElem?_pos a i hi,ma _ (by simp)⟩
 have o:∀(i:Nat) (hi:i<b.size),b[i]?=some b[i]/\b.toList[i]?=some b[i]/\b[i]∈a₀.toList:=λi hi=>⟨getElem?_pos b i hi,by rw[iW];exact getElem?_pos b i hi,mb _ (by simp)⟩
 have b9:∀n,n<=a.size->fm R a 0 (0+n):=λn hn p q a1 a2 X=>by
  have hq:q<a.size:=dq X (ay (ii (jI n)) hn);have e1:=(d p (jL a2 hq)).2.1;have e2:=(d q hq).2.1;rw[iR e1,iR e2];exact T.oa.at e1 e2 a2
 have b8:∀n,n<=b.size->fm R b 0 (0+n):=λn hn p q a1 a2 X=>by
  have hq:q<b.size:=dq X (ay (ii (jI n)) hn);have e1:=(o p (jL a2 hq)).2.1;have e2:=(o q hq).2.1;rw[iR e1,iR e2];exact T.ob.at e1 e2 a2
 obtain⟨x0,f0,f1⟩:∃x,a[a.size-1]?=some x/\a.toList[a.size-1]?=some x:=⟨_,(d (a.size-1) (pc ha Nat.one_pos)).1,(d (a.size-1) (pc ha Nat.one_pos)).2.1⟩
 have start:MH R (a.toList++b.toList) (#[x0]:Array Keyed).toList (a.toList.take (a.size-1)++b.toList.take b.size):=by
  have z:MH R (a.toList++b.toList) (#[]:Array Keyed).toList (a.toList.take (a.size-1+1)++b.toList.take b.size):=by
   refine⟨?_,List.Pairwise.nil,by simp⟩;rw[vh ha,vw (by simp),vw (by simp)];simp
  exact z.pushA T f1 λy hy=>b7 x0 f1 y (l5 hy)
 refine bh (qm (lW ⟨rfl,bh (p9 f0 (wS (λc1=>?_) (λc2=>?_) λc1 c2=>?_))⟩))
 ·exact bu (h _ _ (.refl _) (start.done T (.inl (by simpa using c1))))
 ·exact bu (h _ _ (.refl _) (start.firstB T (by simpa using c2)))
 simp only[mE] at c1 c2;refine bh (lf ?_);refine bh (jh (iU (I:=H1 R a b au) (Q:=Dn R a b au) ?_ ?_ (.mk (.refl _) start (by lia) (by lia) (by lia) (bj _) (by lia))) ?_)
 ·rintro x c a9 x1 x2 @⟨na,nb,out,g,a9,b0,m,a1,a2,b1,b2,hx⟩;dsimp only;refine bh (jh (iU (I:=λ_=>H2 R a b au (na+nb)) (Q:=λc v=>Dn R a b au c v\/H2 R a b au (na+nb) c v) ?_ ?_ (.mk b0 m a1 a2 b1 b2 (bj _))) ?_)
  ·rintro x' c a7 _ _ @⟨na',C,out,ac,bc,a7,l,m,Y,G,U,t,hp⟩;obtain⟨p,rfl⟩:∃p,na'=p+1:=⟨na'-1,(vh Y).symm⟩
   obtain⟨q,rfl⟩:∃q,C=q+1:=⟨C-1,(vh (jW U)).symm⟩
   dsimp only;have ea:=(d p G).1;have S:=(d p G).2.1;have b4:=(d p G).2.2;have eb:=(o q t).1;have P:=(o q t).2.1;have b3:=(o q t).2.2;refine fk eb (fk ea (xP O (l.kind.trans hk) b3 b4 (λcw=>fk ea ?_) λcw=>fk eb ?_))
   ·skip
    have m2:=m.pushA T S λz hz=>by
     obtain⟨j,hj,e⟩:=kj hz;exact ay (T.ob.at e P (jJ hj)) (dL cw)
    refine fN (λc5=>bu (.inl (.mk l (m2.done T (.inl (eq_of_beq c5)))))) λc5=>?_
    rw[mE] at c5;have X:1<=p:=Oo c5;have a4:p<=a.size:=jW G;have a5:p+(q+1)<=na+nb:=ay (Nat.add_le_add_right (uV p) _) hp;exact fN (λ_=>bu (.inr (.mk l m2 X a4 U t a5))) λ_=>bu (.mk l m2 X a4 U t a5)
   ·skip
    have m2:=m.pushB T P λz hz=>by
     obtain⟨j,hj,e⟩:=kj hz;exact ay (T.oa.at e S (jJ hj)) cw
    refine fN (λc5=>bu (.inl (.mk l (m2.firstB T (eq_of_beq c5))))) λc5=>?_
    rw[mE] at c5;have X:2<=q:=jX (Nat.le_of_succ_le_succ U) (cJ c5);have a4:q<=b.size:=jW t;have a5:p+1+q<=na+nb:=jW hp;exact fN (λ_=>bu (.inr (.mk l m2 Y G X a4 a5))) λ_=>bu (.mk l m2 Y G X a4 a5)
  ·exact λc a7 k=>.inr k
  ·rintro c a7 (⟨l,f⟩|@⟨na',C,out,ac,bc,a7,l,m,Y,G,U,t,hp⟩)
   ·exact bu (.mk l f)
   ·dsimp only;refine bh (qm (lW ⟨rfl,?_⟩));refine bh (jh (iU (I:=H3 R a b au (na+nb)) (Q:=λc v=>Dn R a b au c v\/H3 R a b au (na+nb) 1 c v) ?_ ?_ (.mk l m Y G U t (by rw[jI];exact hp))) ?_)
    ·rintro x' c a8 _ c8 @⟨na',C,out,g',ac,bc,a8,H,m,Y,G,U,t,hp⟩;obtain⟨q,rfl⟩:∃q,C=q+1:=⟨C-1,(vh (jW U)).symm⟩
     dsimp only;have eb:=(o q t).1;have P:=(o q t).2.1;have b3:=(o q t).2.2;generalize g'-1=Y;generalize g'=y;revert Y;revert y
     refine wT ?_;intro gg;refine bh (BY λc3 sg=>?_);have u:=H.trans sg;refine fk eb (bh (uN O (u.kind.trans hk) b3 (λi hi=>⟨_,(d (0+i) (by lia)).1,(d (0+i) (by lia)).2.2⟩) (by lia) (b9 na' G) λk1 J=>?_));have m5:=(m.galA T P G J).1;have u5:=(m.galA T P G J).2;have b6:=J.1;dsimp only;refine wR (λc6=>?_) (λc6 c7=>?_) λhh=>?_
     ·have z:k1=na':=by lia
      subst z;rw[show out++(a.extract k1 k1).reverse=out by simp[u9]]
     ·exact bu (.inl (.mk u (m5.done T (.inl (eq_of_beq c7)))))
     have g5:1<=k1:=by
      by_cases c6:na'-k1 > 0
      ·have:=hh c6;simp at this;lia
      ·lia
     have g6:k1<=a.size:=ay b6 G;have c4:x'+k1+(q+1)<=na+nb:=by lia
     clear hh b6 J;generalize out++(a.extract k1 na').reverse=out5 at m5 ⊢;obtain⟨p,rfl⟩:∃p,k1=p+1:=⟨k1-1,(vh g5).symm⟩
     simp only[Nat.add_sub_cancel];have m6:=m5.pushB T P u5;have ea:=(d p g6).1;have S:=(d p g6).2.1;have b4:=(d p g6).2.2;refine fk eb (fN (λc9=>bu (.inl (.mk u (m6.firstB T (eq_of_beq c9))))) λc9=>fk ea ?_);rw[mE] at c9;refine bh (uN O (u.kind.trans hk) b4 (λi hi=>⟨_,(o (0+i) (by lia)).1,(o (0+i) (by lia)).2.2⟩) (by lia) (b8 q (jW t)) λk2 a0=>?_);have m7:=(m6.galB T S (jW t) a0).1;have u7:=(m6.galB T S (jW t) a0).2;have c0:=a0.1;dsimp only;refine xO (λd6=>?_) (λd6 d7=>?_) (λd6 d9=>?_) λhh=>?_
     ·have z2:k2=q:=by lia
      subst z2;simp only[OR (ay (u9 _ _) (bj _)),Array.reverse_empty,Op]
     ·exact bu (.inl (.mk u (m7.firstB T (eq_of_beq d7))))
     ·exact bu (.inl (.mk u (m7.done T (.inr (eq_of_beq d9)))))
     have b5:2<=k2:=by
      by_cases d6:q-k2 > 0
      ·have:=hh d6;simp at this;lia
      ·lia
     have m8:=m7.pushA T S u7;refine fk ea (fN (λd8=>bu (.inl (.mk u (m8.done T (.inl (eq_of_beq d8)))))) λd8=>?_);rw[mE] at d8;have X:1<=p:=Oo d8;have a4:p<=a.size:=jW g6;have a5:k2<=b.size:=ay c0 (jW t);have a6:x'+1+p+k2<=na+nb:=by lia
     exact fN (λ_=>bu (.inr (.mk u m8 X a4 b5 a5 (by lia)))) λ_=>bu (.mk u m8 X a4 b5 a5 a6)
    ·rintro c a8 ⟨H,m,Y,G,U,t,hp⟩;exact .inr (.mk H m Y G U t (by lia))
    ·rintro c a8 (⟨H,f⟩|@⟨na',C,out,g',ac,bc,a8,H,m,Y,G,U,t,hp⟩)
     ·exact bu (.mk H f)
     ·have h9:x+1+na'+C<a.size+b.size:=by lia
      exact bh (BY λc3 sg=>bu (.mk (H.trans sg) m Y G U t h9))
 ·rintro c a9 ⟨b0,m,a1,a2,b1,b2,hx⟩;lia
 ·rintro c a9 ⟨b0,f⟩;exact bu (h _ a9 b0 f)
end
theorem EJ:∀(l:List Keyed) (n b:Nat) (d:Array Keyed),b+n+l.length<=d.size->∀i,((l.zipIdx n).foldl (λa p=>a.setIfInBounds (b+p.2) p.1) d)[i]?=if b+n<=i/\i<b+n+l.length then l[i-(b+n)]? else d[i]?
 |[],n,b,d,h,i=>by
  rw[if_neg (by simp)]
  rfl
 |x::l,n,b,d,h,i=>by
  rw[List.zipIdx_cons,sN];rw[dN] at h;have e:b+(n+1)+l.length=b+n+(l.length+1):=Nat.succ_add_eq_add_succ (b+n) l.length;rw[EJ l (n+1) b _ (by rw[Array.size_setIfInBounds];exact ay (ii e) h) i];rw[dN];by_cases c:b+(n+1)<=i/\i<b+(n+1)+l.length
  ·rw[if_pos c,if_pos ⟨jW c.1,sT c.2 e⟩,show i-(b+n)=i-(b+(n+1))+1 from(vh (qB c.1)).symm,zI]
  ·rw[if_neg c];by_cases c2:i=b+n
   ·rw[if_pos ⟨ii c2.symm,jL (ii c2) (D2 (Nat.succ_pos _))⟩,c2,sE,OF];exact Array.getElem?_setIfInBounds_self_of_lt (dq (D2 (Nat.succ_pos l.length)) h)
   ·rw[if_neg λz=>c ⟨jX z.1 (cJ c2),sT z.2 e.symm⟩];exact Array.getElem?_setIfInBounds_ne (λz=>c2 z.symm)
theorem MW{m b:Array Keyed}(h:off+m.size<=b.size):(m.toList.zipIdx.foldl (λa p=>a.setIfInBounds (off+p.2) p.1) b).toList=b.toList.take off++m.toList++b.toList.drop (off+m.size):=by
 apply DJ;intro i;rw[iW,EJ m.toList 0 off b (by simpa using h) i];simp only[uY,gF];have d:(b.toList.take off).length=off:=by rw[fj,gF];exact lh (ay (fM _ _) h)
 by_cases c:off<=i/\i<off+m.size
 ·rw[if_pos c,eh,me (ay (ii d) c.1),d,eR (by rw[gF];exact pI c.1 c.2)]
 ·rw[if_neg c];by_cases c2:i<off
  ·rw[eh,eR (sT c2 d.symm),List.getElem?_take,if_pos c2,iW]
  ·have e:off+m.size<=i:=fU λz=>c ⟨fU c2,z⟩
   rw[me (by rw[cx,d,gF];exact e),qC];simp only[cx,d,gF];rw[iC e,iW]
theorem yw{R:Keyed->Nat}(d:fm R xs i j)(e:j<=xs.size):Ord R (xs.extract i j).toList:=by
 rw[kU];refine OO.mpr λp q c b a=>?_
 simp only[fj,py,gF] at c b;simp only[List.getElem_take,List.getElem_drop,Array.getElem_toList];have:=d (i+p) (i+q) (fM _ _) (ij (dL a) i) (n0 (dq b (u9 _ _)));rw[jf (getElem?_pos xs (i+p) (n0 (dq c (ko _ _)))),jf (getElem?_pos xs (i+q) (n0 (dq b (ko _ _))))] at this;exact this
theorem uC{a:Array Keyed}(h:x∈(a.extract i j).toList):∃q,i<=q/\q<j/\a[q]?=some x:=by
 rw[kU] at h;obtain⟨q,b,e⟩:=kj h;rw[qC,iW] at e;exact⟨i+q,fM _ _,n0 b,e⟩
theorem xi{a:Array Keyed}(h:q<j-i):(a.extract i j).toList[q]?=a[i+q]?:=by
 rw[kU,List.getElem?_take,if_pos h,qC,iW]
structure Mg (R:Keyed->Nat) (xs ys:Array Keyed) (lo hi:Nat):Prop where
 perm:ys.Perm xs
 out:ew ys xs lo hi
 up:fm R ys lo hi
theorem NU{R:Keyed->Nat}{d:Array Keyed}{b sb ea k nb':Nat}(Y:sb<=ea)(s:ea<=d.size)(w:b+k<sb)(n:sb+nb'<=ea)(a6:1<=nb')(H:fm R d b sb)(E:fm R d sb ea)
  (e0:d[sb]?=some y0)(el:d[sb-1]?=some xl)(U:ow false R y0 d b (sb-b) k)(c2:ow true R xl d sb (ea-sb) nb')
  (f:Fin R (d.extract (b+k) sb).toList (d.extract sb (sb+nb')).toList m):Mg R d (m.toList.zipIdx.foldl (λa p=>a.setIfInBounds (b+k+p.2) p.1) d) b ea:=by
 have lx:(d.extract (b+k) sb).toList.length=sb-(b+k):=by rw[kU,fj,py,gF];exact lh (sU (ay Y s) _)
 have ly:(d.extract sb (sb+nb')).toList.length=nb':=by rw[kU,fj,py,gF,md];exact lh (qG (ay n s))
 have P:m.size=sb+nb'-(b+k):=by
  have:=f.1.length_eq;rw[cx,lx,ly,gF] at this;exact this.trans (Nat.sub_add_comm (dL w)).symm
 have he:b+k+m.size=sb+nb':=by rw[P];exact iC (ay (dL w) (fM _ _))
 have A:b+k+m.size<=d.size:=by rw[he];exact ay n s
 have I:=ln w;have s1:sb-1<sb:=pc (DK w) Nat.one_pos;have g:∀i,(m.toList.zipIdx.foldl (λa p=>a.setIfInBounds (b+k+p.2) p.1) d)[i]?=if b+k<=i/\i<sb+nb' then m.toList[i-(b+k)]? else d[i]?:=λi=>by
  have:=EJ m.toList 0 (b+k) d (by simpa using A) i;simp only[uY,gF] at this;rw[he] at this;exact this
 have J:∀v∈m.toList,R y0<=R v/\R v<=R xl:=λv hv=>by
  rcases eO.mp (f.1.mem_iff.mp hv) with hv|hv
  ·obtain⟨q,x,C,e⟩:=uC hv;have S:=ay (fM _ _) x;have r:=U.2.2 (q-b) (qG x) (pG S C);rw[iC S,jf e] at r;have t:=H q (sb-1) S (ln C) s1;rw[jf e,jf el] at t;have a5:R y0<R v:=r;exact⟨dL a5,t⟩
  ·obtain⟨q,x,C,e⟩:=uC hv;have r:=E sb q (bj _) x (dq C n);rw[jf e,jf e0] at r;have t:=c2.2.1 (q-sb) (pI x C);rw[iC x,jf e] at t;have a4:R v<R xl:=t;exact⟨r,dL a4⟩
 have a0:∀i,b<=i->i<b+k->kA R d i<=R y0:=λi o l=>by
  have:=U.2.1 (i-b) (pI o l);rw[iC o] at this;exact this
 have G:∀i,sb+nb'<=i->i<ea->R xl<=kA R d i:=λi o l=>by
  have i0:=ay (fM _ _) o;have:=c2.2.2 (i-sb) (qG o) (pG i0 l);rw[iC i0] at this;exact this
 have kk:∀i,kA R (m.toList.zipIdx.foldl (λa p=>a.setIfInBounds (b+k+p.2) p.1) d) i=if b+k<=i/\i<sb+nb' then kA R m (i-(b+k)) else kA R d i:=λi=>by
  have:=g i;split
  ·rename_i c;rw[if_pos c,iW] at this;exact oH this
  ·rename_i c;rw[if_neg c] at this;exact oH this
 have X:∀i,i<m.size->∃v,m.toList[i]?=some v/\v∈m.toList:=λi hi=>⟨m.toList[i]'(by simpa using hi),dr _,l0 _⟩
 refine⟨?_,λi hi=>?_,λi j o l T=>?_⟩
 ·refine zK.mpr ?_;rw[MW A,he];have split:d.toList=d.toList.take (b+k)++((d.extract (b+k) sb).toList++(d.extract sb (sb+nb')).toList)++d.toList.drop (sb+nb'):=by
   rw[kU,kU];rw[md]
   conv=>lhs;rw[←kx (b+k) d.toList,←kx (sb-(b+k)) (d.toList.drop (b+k)),N7,iC (dL w),←kx nb' (d.toList.drop sb),N7]
   simp only[eh]
  conv=>rhs;rw[split]
  exact DY _ (zE _ f.1)
 ·rw[g i,if_neg λz=>hi.elim (λh=>mL (ay (fM b k) z.1) h) λh=>mL h (dq z.2 n)]
 ·rw[kk,kk];by_cases ci:b+k<=i/\i<sb+nb'
  ·rw[if_pos ci];obtain⟨v,ev,mv⟩:=X (i-(b+k)) (by rw[P];exact pG ci.1 ci.2);rw[iR ev];by_cases cj:b+k<=j/\j<sb+nb'
   ·rw[if_pos cj];obtain⟨u,Q,mu⟩:=X (j-(b+k)) (by rw[P];exact pG cj.1 cj.2);rw[iR Q];exact f.2.at ev Q (sU l _)
   ·rw[if_neg cj];exact ay (J v mv).2 (G j (fU λz=>cj ⟨ay ci.1 l,z⟩) T)
  ·rw[if_neg ci];by_cases ci2:i<b+k
   ·have r:=a0 i o ci2;by_cases cj:b+k<=j/\j<sb+nb'
    ·rw[if_pos cj];obtain⟨u,Q,mu⟩:=X (j-(b+k)) (by rw[P];exact pG cj.1 cj.2);rw[iR Q];exact ay r (J u mu).1
    ·rw[if_neg cj];by_cases cj2:j<b+k
     ·exact H i j o l (sF cj2 w)
     ·have t:=G j (fU λz=>cj ⟨fU cj2,z⟩) T;have h3:R y0<=R xl:=by
       have s0:=ay (fM _ _) I;have h4:=U.2.2 (sb-1-b) (qG I) (pG s0 s1);rw[iC s0,jf el] at h4;exact dL h4
      exact ay r (ay h3 t)
   ·have y:sb+nb'<=i:=fU λz=>ci ⟨fU ci2,z⟩
    rw[if_neg λz=>mL (ay y l) z.2];exact E i j (ay (fM _ _) y) l T
section
variable {prog:Program}{w:World}{A:Around}{E:Value->Shared->Prop}{s:Shared}
theorem GK{x au:SortSt}{Q:Unit->SortSt->Prop}(h:Q () x):wpS (model prog w) A E s (set x:StateT SortSt Sem PUnit) Q au:=by
 unfold wpS;rw[StateT.run_set];exact aq ⟨rfl,h⟩
end
section
variable {prog:Program}{w:World}{A:Around}{E:Value->Shared->Prop}{s:Shared}{κ:SortKind}{a₀:Array Keyed}{R:Keyed->Nat}
theorem Tr{i d S pw sb nb b1:Nat}{au:SortSt}{Q:Bool->SortSt->Prop}(O:kP prog w A s κ a₀ R)(b:B κ a₀ au)(p1:(pendingOf au)[i]?=some (d,S,pw))(p2:(pendingOf au)[i+1]?=some (sb,nb,b1))(l:sb=d+S)(a9:1<=S)(a6:1<=nb)(hz:sb+nb<=a₀.size)
  (t:fm R (arrOf au) d sb)(o:fm R (arrOf au) sb (sb+nb))
  (h:∀u,B κ a₀ u->pendingOf u=((pendingOf au).setIfInBounds i (d,S+nb,pw)).eraseIdxIfInBounds (i+1)->ew (arrOf u) (arrOf au) d (sb+nb)->fm R (arrOf u) d (sb+nb)->Q true u):wpS (model prog w) A E s (mergeAt' i) Q au:=by
 have a4:=b.size;have bs:sb<a₀.size:=dq (D2 a6) hz;refine bh (lf ?_);dsimp only;have J:(sortPriv% PySem.Builtin.SortState.pending) au=pendingOf au:=rfl;rw[J,p1,p2];dsimp only;refine bh (GK ?_);obtain⟨y0,e0,b0⟩:=b.mem (i:=sb) bs;have v:∀q,q<a₀.size->∃x,(arrOf au)[q]?=some x/\x∈a₀.toList:=λq hq=>b.mem hq
 refine bh (p9 e0 ?_);refine bh (uN O b.kind b0 (λq hq=>v (d+q) (sF (sT (nZ hq d) l.symm) bs)) a9 (by rw[←l];exact t) λk c1=>?_);dsimp only;have hk:=c1.1;have b5:ow false R y0 (arrOf au) d (sb-d) k:=by rw[show sb-d=S from by rw[l,md]];exact c1
 by_cases d1:S-k=0
 ·rw[if_pos (by simpa using d1)];refine bu (h _ ⟨b.perm,b.kind,b.failed⟩ rfl (ew.refl _ _ _) λp q G r H=>?_);by_cases z1:q<sb
  ·exact t p q G r z1
  ·by_cases z2:p<sb
   ·have h1:=c1.2.1 (p-d) (dq (pI G (sT z2 l)) (Nat.le_of_sub_eq_zero d1));rw[iC G] at h1;have h2:=o sb q (bj _) (fU z1) H;rw[jf e0] at h2;exact ay h1 h2
   ·exact o p q (fU z2) r H
 ·rw[if_neg (by simpa using d1)];have j:d+k<sb:=sT (nZ (qv λz=>d1 (Nat.sub_eq_zero_of_le z)) d) l.symm;have s1:sb-1<sb:=pc (DK j) Nat.one_pos;obtain⟨xl,el,b3⟩:=v (sb-1) (sF s1 bs);have b2:(arrOf au)[d+k+(S-k)-1]?=some xl:=by rw[Nat.add_assoc,iC hk,←l];exact el
  refine bh (p9 b2 ?_);refine bh (uN O b.kind b3 (λq hq=>v (sb+q) (dq (nZ hq sb) hz)) (pc a6 Nat.one_pos) o λnb' c2=>?_);dsimp only;have a8:=c2.1;have b4:ow true R xl (arrOf au) sb (sb+nb-sb) nb':=by rw[md];exact c2
  by_cases d2:nb'=0
  ·rw[if_pos (by simpa using d2)];refine bu (h _ ⟨b.perm,b.kind,b.failed⟩ rfl (ew.refl _ _ _) λp q G r H=>?_);subst d2;by_cases z1:q<sb
   ·exact t p q G r z1
   ·by_cases z2:p<sb
    ·have h1:=t p (sb-1) G (ln z2) s1;rw[jf el] at h1;have h2:=c2.2.2 (q-sb) (iT _) (pI (fU z1) H);rw[iC (fU z1)] at h2;exact ay h1 h2
    ·exact o p q (fU z2) r H
  ·rw[if_neg (by simpa using d2)];have P:1<=nb':=Oo d2;have a5:sb<=(arrOf au).size:=by rw[a4];exact dL bs
   have Y:sb+nb<=(arrOf au).size:=by rw[a4];exact hz
   have C:sb+nb'<=sb+nb:=ij a8 sb;have oa:Ord R ((arrOf au).extract (d+k) sb).toList:=yw (λp q G r H=>t p q (ay (fM _ _) G) r H) a5;have ob:Ord R ((arrOf au).extract sb (sb+nb')).toList:=yw (λp q G r H=>o p q G r (dq H C)) (ay C Y);have ma:∀x∈((arrOf au).extract (d+k) sb).toList,x∈a₀.toList:=λx n=>by
    obtain⟨q,J,U,e⟩:=uC n;obtain⟨x',e',m'⟩:=v q (sF U bs);rw[e] at e';cases e';exact m'
   have mb:∀x∈((arrOf au).extract sb (sb+nb')).toList,x∈a₀.toList:=λx n=>by
    obtain⟨q,J,U,e⟩:=uC n;obtain⟨x',e',m'⟩:=v q (dq U (ay C hz));rw[e] at e';cases e';exact m'
   have sx:((arrOf au).extract (d+k) sb).size=sb-(d+k):=by rw[Array.size_extract,lh a5]
   have sy:((arrOf au).extract sb (sb+nb')).size=nb':=by rw[Array.size_extract,lh (ay C Y),md]
   have a7:∀y,((arrOf au).extract sb (sb+nb')).toList[0]?=some y->∀x∈((arrOf au).extract (d+k) sb).toList,R y<=R x:=λy hy x n=>by
    rw[xi (by rw[md];exact P),uY,e0] at hy;cases hy;obtain⟨q,J,U,e⟩:=uC n;have q0:=ay (fM _ _) J;have:=c1.2.2 (q-d) (qG J) (pI q0 (sT U l));rw[iC q0,jf e] at this;exact dL this
   have a0:∀x,((arrOf au).extract (d+k) sb).toList[sb-(d+k)-1]?=some x->∀y∈((arrOf au).extract sb (sb+nb')).toList,R y<=R x:=λx n y hy=>by
    rw[xi (pc (qB j) Nat.one_pos),show d+k+(sb-(d+k)-1)=sb-1 from by rw[←Nat.add_sub_assoc (qB j),iC (dL j)],el] at n;cases n;obtain⟨q,J,U,e⟩:=uC hy;have:=c2.2.1 (q-sb) (pI J U);rw[iC J,jf e] at this;exact dL this
   have T:∀m g,jB au g\/True->Fin R ((arrOf au).extract (d+k) sb).toList ((arrOf au).extract sb (sb+nb')).toList m->Mg R (arrOf au) (m.toList.zipIdx.foldl (λa p=>a.setIfInBounds (d+k+p.2) p.1) (arrOf au)) d (sb+nb):=λm _ _ f=>
    NU (fM _ _) Y j C P t o e0 el b5 b4 f
   by_cases d3:S-k<=nb'
   ·rw[if_pos d3];refine bh (Tt O b.kind ma mb ⟨oa,ob,λx n=>a0 x (by rw[gF,sx] at n;exact n)⟩ (by show 1<=((arrOf au).extract (d+k) sb).size;rw[sx];exact qB j) (by show 1<=((arrOf au).extract sb (sb+nb')).size;rw[sy];exact P) a7 λm g I f=>?_);have X:=T m g (.inr trivial) f;refine bh (mD (bh (lf ?_)));have r:arrOf g=arrOf au:=I.arr;have f2:failedOf g=none:=I.failed.trans b.failed;refine bu (?_:Q ((failedOf g).isNone) (setArr g (m.toList.zipIdx.foldl (λa p=>a.setIfInBounds (d+k+p.2) p.1) (arrOf g))));rw[f2,r];exact h _ ⟨X.perm.trans b.perm,I.kind.trans b.kind,f2⟩ I.pend X.out X.up
   ·rw[if_neg d3];refine bh (Ts O b.kind ma mb ⟨oa,ob,a7⟩ (by show 1<=((arrOf au).extract (d+k) sb).size;rw[sx];exact qB j) (by show 1<=((arrOf au).extract sb (sb+nb')).size;rw[sy];exact P) (λx n=>a0 x (by rw[sx] at n;exact n)) λm g I f=>?_);have X:=T m g (.inr trivial) f;refine bh (mD (bh (lf ?_)));have r:arrOf g=arrOf au:=I.arr;have f2:failedOf g=none:=I.failed.trans b.failed;refine bu (?_:Q ((failedOf g).isNone) (setArr g (m.toList.zipIdx.foldl (λa p=>a.setIfInBounds (d+k+p.2) p.1) (arrOf g))));rw[f2,r];exact h _ ⟨X.perm.trans b.perm,I.kind.trans b.kind,f2⟩ I.pend X.out X.up
end
def bw(R:Keyed->Nat) (a:Array Keyed):Nat->List (Nat×Nat×Nat)->Nat->Prop
 |s,[],e=>s=e
 |s,p::r,e=>p.1=s/\1<=p.2.1/\fm R a s (s+p.2.1)/\bw R a (s+p.2.1) r e
theorem bw.le{R:Keyed->Nat}:∀{l:List (Nat×Nat×Nat)}{s e:Nat},bw R xs s l e->s+l.length<=e
 |[],s,e,h=>by cases h;simp
 |p::r,s,e,h=>by
  have:=bw.le h.2.2.2;have:=h.2.1;simp;lia
theorem bw.append{R:Keyed->Nat}:∀{l m:List (Nat×Nat×Nat)}{s e:Nat},bw R xs s (l++m) e↔∃k,bw R xs s l k/\bw R xs k m e
 |[],m,s,e=>⟨λh=>⟨s,rfl,h⟩,λ⟨k,a,b⟩=>by cases a;exact b⟩
 |p::r,m,s,e=>by
  constructor
  ·rintro⟨a,b,d,c⟩;obtain⟨k,g,f⟩:=bw.append.mp c;exact⟨k,⟨a,b,d,g⟩,f⟩
  ·rintro⟨k,⟨a,b,d,c⟩,f⟩;exact⟨a,b,d,bw.append.mpr ⟨k,c,f⟩⟩
theorem fm.same{R:Keyed->Nat}(h:fm R xs a b)(e:∀i,a<=i->i<b->ys[i]?=xs[i]?):fm R ys a b:=λi j f d c=>by
 rw[oH (e i f (jL d c)),oH (e j (ay f d) c)];exact h i j f d c
theorem bw.same{R:Keyed->Nat}:∀{l:List (Nat×Nat×Nat)}{s e:Nat},bw R xs s l e->(∀i,s<=i->i<e->ys[i]?=xs[i]?)->bw R ys s l e
 |[],s,e,h,_=>h
 |p::r,s,e,h,k=>by
  have:=bw.le h.2.2.2;exact⟨h.1,h.2.1,h.2.2.1.same λi b a=>k i b (dq a (ay (fM _ _) this)),bw.same h.2.2.2 λi b a=>k i (ay (fM _ _) b) a⟩
theorem bw.power{R:Keyed->Nat}:∀{l m:List (Nat×Nat×Nat)},l.map (λp=>(p.1,p.2.1))=m.map (λp=>(p.1,p.2.1))->bw R xs s l e->bw R xs s m e:=by
 intro l
 induction l generalizing s with
 |nil=>intro m h k;cases m with
  |nil=>exact k
  |cons=>cases h
 |cons p r ih=>intro m h k;cases m with
  |nil=>cases h
  |cons q t=>
   rw[cf,cf] at h;obtain⟨d,j⟩:=List.cons.inj h;obtain⟨f,i⟩:=Prod.mk.inj d;obtain⟨g,b,c,a⟩:=k;rw[i] at b c a;exact⟨f.symm.trans g,b,c,ih j a⟩
theorem Mm{l:List (Nat×Nat×Nat)}(h:i+1<l.length):∃b p q a,l=b++p::q::a/\b.length=i:=by
 refine⟨l.take i,l[i],l[i+1],l.drop (i+2),?_,by rw[fj];exact lh (dL (pz h))⟩
 conv=>lhs;rw[←kx i l,jY (pz h),jY h]
section
variable {prog:Program}{w:World}{A:Around}{E:Value->Shared->Prop}{s:Shared}{κ:SortKind}{a₀:Array Keyed}{R:Keyed->Nat}
theorem sY{i e:Nat}{au:SortSt}{Q:Bool->SortSt->Prop}(O:kP prog w A s κ a₀ R)(b:B κ a₀ au)(v:bw R (arrOf au) 0 (pendingOf au).toList e)(he:e<=a₀.size)(hi:i+1<(pendingOf au).size)
  (h:∀a,B κ a₀ a->bw R (arrOf a) 0 (pendingOf a).toList e->(pendingOf a).size+1=(pendingOf au).size->(∀k,e<=k->(arrOf a)[k]?=(arrOf au)[k]?)->Q true a):wpS (model prog w) A E s (mergeAt' i) Q au:=by
 obtain⟨t,p,q,post,m,g⟩:=Mm (l:=(pendingOf au).toList) (i:=i) (by simpa using hi);obtain⟨d,f,C⟩:=p;obtain⟨r,nb,o⟩:=q;rw[m] at v;obtain⟨k,x,g2⟩:=bw.append.mp v;obtain⟨P,J,y,n,I,H,u⟩:=g2;dsimp only at P J y n I H u;subst P;have l7:=bw.le u;have l1:=bw.le x;have U:(pendingOf au)[i]?=some (d,f,C):=by rw[←iW,m,me (ii g),g,sE];rfl
 have S:(pendingOf au)[i+1]?=some (r,nb,o):=by rw[←iW,m,me (ay (ii g) (fM i 1)),g,md];rfl
 refine Tr O b U S n J I (by lia) (by rw[n];exact y) (by rw[n];exact H) λa Y pe ou up=>?_
 have z:(pendingOf a).toList=t++(d,f+nb,C)::post:=by
  rw[pe];rw[Array.toList_eraseIdxIfInBounds,Array.toList_setIfInBounds,m];rw[List.set_append_right _ _ (ii g),g,sE,List.set_cons_zero,List.eraseIdx_append_of_length_le (ay (ii g) (fM i 1)),g,md]
  rfl
 have c:∀j,j<d\/r+nb<=j->(arrOf a)[j]?=(arrOf au)[j]?:=ou
 refine h a Y ?_ ?_ λj hj=>c j (.inr (by lia))
 ·rw[z];refine bw.append.mpr ⟨d,x.same λj a1 G=>c j (.inl G),rfl,by show 1<=f+nb;lia,?_,?_⟩
  ·show fm R (arrOf a) d (d+(f+nb));rw[show d+(f+nb)=r+nb by lia];exact up
  ·show bw R (arrOf a) (d+(f+nb)) post e;rw[show d+(f+nb)=d+f+nb by lia];exact u.same λj a1 G=>c j (.inr (by lia))
 ·have T:(pendingOf a).size=(pendingOf a).toList.length:=by simp
  have X:(pendingOf au).size=(pendingOf au).toList.length:=by simp
  rw[T,X,z,m];simp only[cx,dN];lia
end
theorem HP [Decidable c] (d:a+1<n)(e:b+1<n):(if c then a else b)+1<n:=by split<;>assumption
theorem ym(h:∀x,g (f x)=g x):∀(l:List (Nat×Nat×Nat)) (i:Nat),(l.modify i f).map g=l.map g
 |[],i=>by simp
 |x::l,0=>by simp[h]
 |x::l,i+1=>by simp[ym h l i]
theorem bw.mod{R:Keyed->Nat}(h:bw R xs s l e)(i c:Nat):bw R xs s (l.modify i λx=>(x.1,x.2.1,c)) e:=
 h.power (ym (g:=λp=>(p.1,p.2.1)) (f:=λx=>(x.1,x.2.1,c)) (λ_=>rfl) l i).symm
section
variable {prog:Program}{w:World}{A:Around}{E:Value->Shared->Prop}{s:Shared}{κ:SortKind}{a₀:Array Keyed}{R:Keyed->Nat}
theorem Je{au:SortSt}{Q:Unit->SortSt->Prop}(O:kP prog w A s κ a₀ R)(b:B κ a₀ au)(pe:pendingOf au=#[])(h2:2<=a₀.size)
  (h:∀a,B κ a₀ a->fm R (arrOf a) 0 a₀.size->Q () a):wpS (model prog w) A E s sortRuns' Q au:=by
 have hz:=b.size;rw[sortRuns'_eq];refine bh (lf ?_);dsimp only;rw[hz]
 refine bh (jh (iU (I:=λx c a=>∃lo,c=(none,lo)/\B κ a₀ a/\bw R (arrOf a) 0 (pendingOf a).toList lo/\lo<=a₀.size/\x<=lo)
  (Q:=λc a=>c=(none,a₀.size)/\B κ a₀ a/\bw R (arrOf a) 0 (pendingOf a).toList a₀.size) ?_ ?_ ⟨0,rfl,b,by rw[pe];rfl,by lia,by lia⟩) ?_)
 ·rintro x c X x1 x2 ⟨lo,rfl,J,v,G,hx⟩;dsimp only;by_cases c1:lo ≥ a₀.size
  ·rw[if_pos c1];have:lo=a₀.size:=by lia
   subst this;exact bu ⟨rfl,J,v⟩
  rw[if_neg c1];refine bh (Lh O J (by lia) (by lia) λm g m1 m2 z T P=>?_);dsimp only;have e:bw R (arrOf g) 0 (pendingOf g).toList lo:=by
   rw[T.pend];exact v.same λi U S=>T.out i (.inl S)
  by_cases c2:m<minRun' a₀.size a₀.size 0
  ·rw[if_pos c2];refine bh (qm (lW ⟨rfl,?_⟩));refine bh (GJ O z (by lia) m1 (by lia) P λk y C l=>?_);have o:bw R (arrOf k) 0 (pendingOf k).toList lo:=by
    rw[C.pend];exact e.same λi U S=>C.out i (.inl S)
   have t:1<=min (a₀.size-lo) (minRun' a₀.size a₀.size 0):=by lia
   have q:lo+min (a₀.size-lo) (minRun' a₀.size a₀.size 0)<=a₀.size:=by lia
   simp only[Bool.not_true,ku,jm];generalize min (a₀.size-lo) (minRun' a₀.size a₀.size 0)=n at l t q C ⊢;refine bh (lf ?_);cases hb:(pendingOf k).back? with
   |none=>
    dsimp only;refine bh (mD (bu ⟨lo+n,rfl,⟨y.perm,y.kind,y.failed⟩,?_,q,by lia⟩));show bw R (arrOf k) 0 ((pendingOf k).push (lo,n,0)).toList (lo+n);rw[qz];exact bw.append.mpr ⟨lo,o,rfl,t,l,rfl⟩
   |some p=>
    obtain⟨s1,n1,p1⟩:=p;dsimp only;refine bh (jh (iU (I:=λ_ c a=>c=(none,())/\B κ a₀ a/\bw R (arrOf a) 0 (pendingOf a).toList lo/\fm R (arrOf a) lo (lo+n)) (Q:=λc a=>c=(none,())/\B κ a₀ a/\bw R (arrOf a) 0 (pendingOf a).toList lo/\fm R (arrOf a) lo (lo+n)) ?_ (λ_ _ hh=>hh) ⟨rfl,y,o,l⟩) ?_)
    ·rintro x' c d _ _ ⟨rfl,u,j,f⟩;refine bh (lf ?_);by_cases hs:(pendingOf d).size > 1
     ·rw[if_pos hs,getElem?_pos (pendingOf d) ((pendingOf d).size-2) (by lia)];obtain⟨s2,n2,p2⟩:=(pendingOf d)[(pendingOf d).size-2]'(by lia);dsimp only;split
      ·exact bu ⟨rfl,u,j,f⟩
      ·refine bh (sY O u j G (by lia) λa0 b5 H _ k5=>?_);exact bu ⟨rfl,b5,H,f.same λi U S=>k5 i U⟩
     ·rw[if_neg hs];exact bu ⟨rfl,u,j,f⟩
    ·rintro c d ⟨rfl,u,j,f⟩;dsimp only;refine bh (mD (bh (mD (bu ⟨lo+n,rfl,⟨u.perm,u.kind,u.failed⟩,?_,q,by lia⟩))));refine(?_:bw R (arrOf d) 0 (((pendingOf d).modify ((pendingOf d).size-1) λx=>(x.1,x.2.1,_)).push (lo,n,0)).toList (lo+n));rw[qz,Array.toList_modify];exact bw.append.mpr ⟨lo,j.mod _ _,rfl,t,f,rfl⟩
  ·rw[if_neg c2];have y:=z;have o:=e;have l:=P;have t:=m1;have q:lo+m<=a₀.size:=by lia
   generalize g=k at y o l ⊢;generalize m=n at l t q ⊢;refine bh (lf ?_);cases hb:(pendingOf k).back? with
   |none=>
    dsimp only;refine bh (mD (bu ⟨lo+n,rfl,⟨y.perm,y.kind,y.failed⟩,?_,q,by lia⟩));show bw R (arrOf k) 0 ((pendingOf k).push (lo,n,0)).toList (lo+n);rw[qz];exact bw.append.mpr ⟨lo,o,rfl,t,l,rfl⟩
   |some p=>
    obtain⟨s1,n1,p1⟩:=p;dsimp only;refine bh (jh (iU (I:=λ_ c a=>c=(none,())/\B κ a₀ a/\bw R (arrOf a) 0 (pendingOf a).toList lo/\fm R (arrOf a) lo (lo+n)) (Q:=λc a=>c=(none,())/\B κ a₀ a/\bw R (arrOf a) 0 (pendingOf a).toList lo/\fm R (arrOf a) lo (lo+n)) ?_ (λ_ _ hh=>hh) ⟨rfl,y,o,l⟩) ?_)
    ·rintro x' c d _ _ ⟨rfl,u,j,f⟩;refine bh (lf ?_);by_cases hs:(pendingOf d).size > 1
     ·rw[if_pos hs,getElem?_pos (pendingOf d) ((pendingOf d).size-2) (by lia)];obtain⟨s2,n2,p2⟩:=(pendingOf d)[(pendingOf d).size-2]'(by lia);dsimp only;split
      ·exact bu ⟨rfl,u,j,f⟩
      ·refine bh (sY O u j G (by lia) λa0 b5 H _ k5=>?_);exact bu ⟨rfl,b5,H,f.same λi U S=>k5 i U⟩
     ·rw[if_neg hs];exact bu ⟨rfl,u,j,f⟩
    ·rintro c d ⟨rfl,u,j,f⟩;dsimp only;refine bh (mD (bh (mD (bu ⟨lo+n,rfl,⟨u.perm,u.kind,u.failed⟩,?_,q,by lia⟩))));refine(?_:bw R (arrOf d) 0 (((pendingOf d).modify ((pendingOf d).size-1) λx=>(x.1,x.2.1,_)).push (lo,n,0)).toList (lo+n));rw[qz,Array.toList_modify];exact bw.append.mpr ⟨lo,j.mod _ _,rfl,t,f,rfl⟩
 ·rintro c X ⟨lo,rfl,J,v,G,hx⟩;have:lo=a₀.size:=by lia
  subst this;exact⟨rfl,J,v⟩
 ·rintro c X ⟨rfl,J,v⟩;dsimp only
  refine bh (jh (iU (I:=λx c a=>c=(none,())/\B κ a₀ a/\bw R (arrOf a) 0 (pendingOf a).toList a₀.size/\(pendingOf a).size+x<=a₀.size)
   (Q:=λc a=>c=(none,())/\B κ a₀ a/\bw R (arrOf a) 0 (pendingOf a).toList a₀.size/\(pendingOf a).size<=1) ?_ ?_ ⟨rfl,J,v,by have:=v.le;simp at this;lia⟩) ?_)
  ·rintro x c g x1 x2 ⟨rfl,z,e,hp⟩;refine bh (lf ?_);by_cases c1:(pendingOf g).size<=1
   ·rw[if_pos c1];exact bu ⟨rfl,z,e,c1⟩
   rw[if_neg c1];refine bh (sY O z e (bj _) ?_ λk y o p3 _=>bu ⟨rfl,y,o,by lia⟩);exact HP (by lia) (by lia)
  ·rintro c g ⟨rfl,z,e,hp⟩;exact⟨rfl,z,e,by lia⟩
  ·rintro c g ⟨rfl,z,e,hp⟩;refine bu (h g z ?_);cases hl:(pendingOf g).toList with
   |nil=>rw[hl] at e;have:0=a₀.size:=e;lia
   |cons p r=>
    have:r=[]:=by
     have e2:(pendingOf g).size=(pendingOf g).toList.length:=by simp
     rw[e2,hl,dN] at hp;exact OE.mp (by lia)
    subst this;rw[hl] at e;obtain⟨_,_,g3,g4⟩:=e;have Y:0+p.2.1=a₀.size:=g4;rw[Y] at g3;exact g3
end
end TS
namespace Srt
open PySem.W PyProof.Rows
theorem UD{i n:Type}(f:i->n):∀{l d:List n},l.Perm d->∀m:List i,d=m.map f->∃p:List i,p.Perm m/\l=p.map f:=by
 intro l d h
 induction h with
 |nil=>exact λm e=>⟨[],by rw[List.map_eq_nil_iff.mp e.symm],rfl⟩
 |cons x _ ih=>
  intro m e;cases m with
  |nil=>cases e
  |cons y m=>
   rw[cf] at e;injection e with g c
   obtain⟨p,k,j⟩:=ih m c;exact⟨y::p,k.cons y,by rw[cf,←j,g]⟩
 |swap x y l=>
  intro m e
  match m,e with
  |a::b::m,e=>
   rw[cf,cf] at e;injection e with g c
   injection c with c o
   exact⟨b::a::m,.swap _ _ _,by rw[cf,cf,g,c,o]⟩
 |trans _ _ ih1 ih2=>
  intro m e;obtain⟨p,k,j⟩:=ih2 m e;obtain⟨q,r,s⟩:=ih1 p j;exact⟨q,r.trans k,s⟩
noncomputable def vC(r:Nat->Nat) (a:List Value):Prop:=∀i j,i<a.length->j<a.length->a.getD i Value.none=a.getD j Value.none->r i=r j
open Classical in
noncomputable def kB(r:Nat->Nat) (a:List Value) (x:Keyed):Nat:=if h:∃i,i<a.length/\a.getD i Value.none=x.1 then r h.choose else 0
theorem E6(a:vC r xs) (b:i<xs.length)(e:xs.getD i Value.none=x.1):kB r xs x=r i:=by
 have h:∃i,i<xs.length/\xs.getD i Value.none=x.1:=⟨i,b,e⟩
 unfold kB;rw[dif_pos h];exact a _ _ h.choose_spec.1 b (h.choose_spec.2.trans e.symm)
theorem QL(a:List Value):(a.toArray.zip a.toArray).toList=(List.range a.length).map λi=>((a.getD i Value.none,a.getD i Value.none):Keyed):=by
 rw[Array.toList_zip];apply List.ext_getElem
 ·simp
 ·intro i d c;have b:i<a.length:=by simpa using c
  simp[dO,b]
theorem Mn{xs:List Value}(J:2<=xs.length)(f:vC r xs)
  (n:∀i j C,i<xs.length->j<xs.length->C (lt r i j) sg->kas_ask P w B κ xs i j C sg):
  wpAny (model P w) B ((sortRuns').run (SortSt.mk' κ (xs.toArray.zip xs.toArray) #[] 7 none)) (λy z=>∃p:Array Nat,(p.Perm (List.toArray (List.range xs.length))/\Up r p xs.length)/\(arrOf y.2).map (·.2)=dz xs p/\failedOf y.2=none/\z=sg) E sg:=by
 have v:(xs.toArray.zip xs.toArray).size=xs.length:=by simp
 have O:TS.kP P w B sg κ (xs.toArray.zip xs.toArray) (kB r xs):=λx H y u C A=>by
  rw[QL] at H u;obtain⟨i,t,rfl⟩:=cP.mp H;obtain⟨j,g,rfl⟩:=cP.mp u;rw[bT] at t g;rw[E6 f t rfl,E6 f g rfl] at A;exact n i j C t g A
 have run:=TS.Je (E:=E) (Q:=λ_ y=>∃p:Array Nat,(p.Perm (List.toArray (List.range xs.length))/\Up r p xs.length)/\(arrOf y).map (·.2)=dz xs p/\failedOf y=none) O (au:=SortSt.mk' κ (xs.toArray.zip xs.toArray) #[] 7 none) ⟨.refl _,rfl,rfl⟩ rfl (by rw[v];exact J) λy b I=>by
  obtain⟨l,q,G⟩:=UD (λi=>((xs.getD i Value.none,xs.getD i Value.none):Keyed)) (zK.mp b.perm) _ (QL xs);have S:l.length=xs.length:=by rw[q.length_eq,qy]
  have s:∀k,(m:k<l.length)->l[k]<xs.length:=λk m=>bT.mp (q.mem_iff.mp (l0 m))
  have h:∀k,k<xs.length->TS.kA (kB r xs) (arrOf y) k=At r l.toArray k:=λk m=>by
   have d:k<l.length:=by lia
   have e:(arrOf y)[k]?=some (xs.getD l[k] Value.none,xs.getD l[k] Value.none):=by
    rw[←iW,G,fq,dr d]
    rfl
   rw[TS.jf e,E6 f (s k d) rfl];unfold At;simp[d]
  refine⟨l.toArray,⟨?_,λi j o g=>?_⟩,?_,b.failed⟩
  ·exact zK.mpr (by simpa using q)
  ·rw[←h i (by lia),←h j g];exact I i j (iT _) o (by rw[v];exact g)
  ·unfold dz;apply Array.toList_inj.mp;rw[Array.toList_map,G,gi]
   rfl
 exact iA run (λy z R=>by
  obtain⟨rfl,p,a,b,c⟩:=R
  exact⟨p,a,b,c,rfl⟩) λ_ _ x=>x
theorem RF{au:Shared}(r:Nat->Nat) {a:List Value}{W:Fin->Shared->Prop}(q:au.heap.get? d=some (seqObj "list" a.toArray k))(b:a.length<=sizeLine)(n:vC r a)
  (ask:2<=a.length->Answers P w B r a {au with heap:=ff au.heap d a})
  (g:∀p:Array Nat,p.Perm (List.toArray (List.range a.length))->Up r p a.length->W (.done (.ret .none)) {au with heap:=sortedHeap au.heap d a (dz a p)}):
  wpAny (model P w) B (Builtin.«list.sort» ⟨[.ref d],[]⟩) W E au:=by
 obtain⟨c,A⟩:∃ c,(au.heap.update d (Obj.mapSeq λ_=>(#[]:Array Value))).get? d=some (seqObj "list" #[] c):=⟨_,get?_update_seq q λ_=>#[]⟩
 have h:(ff au.heap d a).get? d=some (seqObj "list" #[] c):=cg _ (cg _ A)
 have e:a.toArray.size=a.length:=dR;rw[list_sort_plain];refine ab (listItems_at q rfl (ab (listUpdate_at q rfl (ab (seqEpoch_at A rfl (ab (wpAny_newTuple (ab (wpAny_newList (iV ?_) (iT _))) (b))))) (by rw[e];exact b) (iT _))));show wpAny (model P w) B _ W E {au with heap:=ff au.heap d a};dsimp only;by_cases two:a.toArray.size<2
 ·rw[if_pos two,if_pos two];rw[e] at two;have u:((arrOf (SortSt.mk' general' (a.toArray.zip a.toArray) #[] 7 none)).map (·.2))=dz a (List.toArray (List.range a.length)):=Ti two
  refine ab (aq (by
   rw[StateT.run_pure];refine ab (aq (ab (seqEpoch_at h rfl (ab (listUpdate_at h rfl ?_ (iT _) ?_)))))
   ·rw[if_neg (by simp)];refine aq ?_;rw[u];exact g _ (.refl _) λi j C I=>ii (congrArg (At r _) (by lia))
   ·rw[u];refine qA (ay (ii ?_) (b));unfold dz
    simp))
 ·rw[if_neg two,if_neg two];rw[e] at two;obtain⟨v,H,m⟩:=ask (by lia);refine ab (iA (H (λf z=>f=v/\z={au with heap:=ff au.heap d a}) ⟨rfl,rfl⟩) (λf z s=>?_) λ_ _ x=>x.elim);obtain⟨rfl,rfl⟩:=s;have run:=Mn (E:=E) (r:=r) (xs:=a) (κ:=f) (sg:={au with heap:=ff au.heap d a}) (by lia) n m;refine ab (iA run (λG z s=>?_) λ_ _ x=>x);obtain⟨⟨⟩,y⟩:=G;obtain⟨p,o,l,t,rfl⟩:=s;dsimp only at l t ⊢;refine ab (seqEpoch_at h rfl (ab (listUpdate_at h rfl ?_ (iT _) ?_)))
  ·rw[t,if_neg (by simp),l];exact aq (g p o.1 o.2)
  ·rw[l];refine qA (ay (ii ?_) (b));unfold dz;rw[dR,az,gF,o.1.size_eq];simp
theorem UZ{B:Around}{au:Shared}(r:Nat->Nat) {a:List Value}{W:Value->Shared->Prop}(i:au.heap.IsList d a.toArray)(c:a.length<=sizeLine)(h:vC r a)
  (ask:2<=a.length->∀g:Heap,(∀b ob,au.heap.get? b=some ob->g.get? b=some ob)->Answers P w B.in1.in1 r a {au with heap:=g})
  (j:∀p:Array Nat,p.Perm (List.toArray (List.range a.length))->Up r p a.length->W (.ref (au.heap.objs.size+1)) {au with heap:=sortedAll au.heap a (dz a p)}):
  wpAny (model P w) B (call (.builtin "sorted") [.ref d]) W E au:=by
 let g0:Heap:=(au.heap.push (seqObj "list" #[] 0)).update au.heap.objs.size (Obj.mapSeq (·++a.toArray))
 have l:g0.objs.size=au.heap.objs.size+1:=(Heap.size_update ..).trans (size_push' _ _);have f:(g0.push (seqObj "list" a.toArray 0)).get? (au.heap.objs.size + 1)=some (seqObj "list" a.toArray 0):=by
  have z:=ez g0 (o:=seqObj "list" a.toArray 0) rfl
  rw[l] at z;exact z
 have k:∀ b ob,au.heap.get? b=some ob->(g0.push (seqObj "list" a.toArray 0)).get? b=some ob:=λb ob e=>by
  have lt:=cu e;exact cg _ ((Heap.get?_update_ne _ _ _ _ (dF lt)).trans (cg _ e))
 have q:argsOk "sorted" ⟨[.ref d],[]⟩:=args_sorted1 _
 refine Calls.call_function_entry kind_sorted plain_sorted entry_sorted q ?_;unfold Builtin.«sorted»;refine ab (m:=checkCount "sorted" 1 1 _) (aq (ab (collect_list i (ab (wpAny_newList ?_ (c))) (c))))
 show wpAny _ _ _ _ _ { au with heap:=g0.push (seqObj "list" a.toArray 0) }
 have n:(Value.ref g0.objs.size)=Value.ref (au.heap.objs.size+1):=by rw[l]
 rw[show((au.heap.push (seqObj "list" #[] 0)).update au.heap.objs.size (Obj.mapSeq (·++a.toArray))).objs.size=au.heap.objs.size + 1 from l]
 refine ab (iV (li slot_list_sort ⟨_,f,rfl⟩ entry_list_sort (RF r (au:={ au with heap:=g0.push (seqObj "list" a.toArray 0) }) f c h (λtwo=>?_) λp t s=>⟨_,rfl,aq ⟨_,rfl,j p t s⟩⟩) (args_list_sort _)))
 exact ask two _ λb ob e=>RQ (dF (yX (cu e))) (k b ob e)
theorem UF{B:Around}{au:Shared}{T:String}{It:Nat->Value->Prop}(S:KdlSrc P w T a d n It OK)(C:B.handled=none)(z:OK au.heap)(l:n<=sizeLine){W:Value->Shared->Prop}
  (ask:∀o:List Value,o.length=n->(∀(j:Nat) (v:Value),o[j]?=some v->It j v)->∃r:Nat->Nat,vC r o/\(2<=n->∀(g:Heap) (i:Nat),(∀b ob,au.heap.get? b=some ob->g.get? b=some ob)->Answers P w B.in1.in1 r o {au with heap:=g,toks:=i}) /\
   ∀(p:Array Nat) (q:Addr) (g:Heap) (i c:Nat),p.Perm (List.toArray (List.range o.length))->Up r p o.length->(∀ b ob,au.heap.get? b=some ob->g.get? b=some ob)->(∀ b ob,au.heap.get? b=some ob->b≠q)->g.get? q=some (seqObj "list" (dz o p) c)->W (.ref q) { au with heap:=g,toks:=i }):
  wpAny (model P w) B (call (.builtin "sorted") [.ref a]) W E au:=by
 have y:argsOk "sorted" ⟨[.ref a],[]⟩:=args_sorted1 _
 refine Calls.call_function_entry kind_sorted plain_sorted entry_sorted y ?_;unfold Builtin.«sorted»;refine ab (m:=checkCount "sorted" 1 1 _) (aq (ab (kdu_collect (A:=B.in1) S C z (l) λg i f k h=>?_)))
 have len:f.toList.length=n:=by rw[gF];exact h.1
 obtain⟨r,u,H,x⟩:=ask f.toList len (λj v e=>h.2 j v (by rw[←iW];exact e));refine ab (wpAny_newList ?_ (by rw[len];exact l));have s:(g.push (seqObj "list" f.toList.toArray 0)).get? g.objs.size=some (seqObj "list" f.toList.toArray 0):=ez g rfl
 have t:∀ b ob,au.heap.get? b=some ob->(g.push (seqObj "list" f.toList.toArray 0)).get? b=some ob:=λb ob e=>cg _ (k b ob e)
 have lt:∀b ob,au.heap.get? b=some ob->b≠g.objs.size:=λb ob e=>dF (cu (k b ob e))
 show wpAny _ _ _ _ _ { au with heap:=g.push (seqObj "list" f.toList.toArray 0),toks:=i }
 refine ab (iV (li slot_list_sort ⟨_,s,rfl⟩ entry_list_sort (RF r (au:={ au with heap:=g.push (seqObj "list" f.toList.toArray 0),toks:=i }) s (by rw[len]; exact l) u (λtwo=>?_) λp J I=>⟨_,rfl,aq ⟨_,rfl,?_⟩⟩) (args_list_sort _)))
 ·exact H (by lia) _ i λb ob e=>RQ (lt b ob e) (t b ob e)
 ·obtain⟨c,G⟩:=sortedHeap_at (n:=0) (vs:=f.toList) (out:=dz f.toList p) s;refine x p g.objs.size _ i c J I (λb ob e=>?_) ?_ G
  ·rw[sortedHeap_old (lt b ob e) (cu (t b ob e))];exact t b ob e
  ·exact lt
end Srt
namespace L2
open Spec PyProof.Rows PySem.W
theorem eA(h:n<=1000000):n<=sizeLine:=ay h (by rw[jo];lia)
theorem RO:∀{c:List Value}{a b:List Int},IntsAre c a->IntsAre c b->a=b
 |_,_,_,.nil,.nil=>rfl
 |_,_,_,.cons x t r,.cons _ _ r'=>by rw[RO r r']
theorem Qe(a:fP g ps):Srt.vC (Srt.fO (ps.map (·.2))) (ps.map λp=>Value.ref p.1):=λi j k h e=>by
 rw[az] at k h;have m:ps[i]?=some ps[i]:=dr k;have l:ps[j]?=some ps[j]:=dr h;rw[zn (λp:Addr×List Int=>Value.ref p.1) _ m,zn (λp:Addr×List Int=>Value.ref p.1) _ l] at e;injection e with e
 obtain⟨us,o,n,u,c,v,b⟩:=a _ (l0 k);obtain⟨f,w,x,t,q,y,s⟩:=a _ (l0 h);rw[e,q] at c;injection c with c
 subst c;rw[s] at b;injection b with b _
 have r:f=us:=by simpa using b
 subst r;have d:=RO u t;unfold Srt.fO;rw[zn (λp:Addr×List Int=>p.2) _ m,zn (λp:Addr×List Int=>p.2) _ l,d]
def f7(K:Fg):List V->Hp->VK->Prop:=λe H Q=>∃(l:Addr) (c:List (Addr×List Int)),e=[.ref l]/\du K H l (c.map λp=>V.ref p.1)/\c.length<=1000000/\tZ K H c /\
 ∀(q:Addr) (d:List (Addr×List Int)),H q=none->d.Perm c->(d.map (·.2)).Pairwise (λa b=>HT.lexLt b a=false)->Q (.ref q) (ar H q (.lst (d.map λp=>V.ref p.1)))
def fA:List V->Hp->VK->Prop:=λe H Q=>∃(a:Addr) (b:List (List cI×V)) (d:List (List Int)),e=[.ref a]/\Rd H a (.dT b)/\b.map (·.1)=d.map (λf=>f.map Sum.inl)/\d.length<=1000000 /\
 ∀(q:Addr) (c:List (Addr×List Int)),H q=none->(c.map (·.2)).Perm d->(c.map (·.2)).Pairwise (λx y=>HT.lexLt y x=false)->(∀p∈c,H p.1=some (.tup (p.2.map V.int)))->Q (.ref q) (ar H q (.lst (c.map λp=>V.ref p.1)))
theorem U1{X:Cx}(hu:X.A.units + 64<cLine):bV X (.builtin "sorted") (f7 X.K):=by
 intro aW s σ H xs C Q I r h;obtain⟨l,ps,rfl,Y,k,J,q⟩:=h;obtain⟨u,rfl,P⟩:=vals1 r;cases P;obtain⟨i,A,E,hz⟩:=I.list Y;have f:i=ps.map λp=>Value.ref p.1:=by
  have e:(ps.map λp=>V.ref p.1)=(ps.map (·.1)).map V.ref:=by rw[gi];rfl
  rw[e] at A;rw[Ro A,gi]
  rfl
 subst f;have d:∀g:Heap,(∀b o,s.heap.get? b=some o->g.get? b=some o)->fP g ps:=λg c p U=>by
  obtain⟨C,j,⟨o,S,R,n,T⟩,_⟩:=I.tuple (J p U);exact⟨C,o,n,uR j,c _ _ S,R,T⟩
 refine Srt.UZ (Srt.fO (ps.map (·.2))) E.isList (by rw[az];exact eA k) (Qe (d s.heap λ_ _ z=>z)) (λx g c=>xS (by show X.A.units+1+1<cLine;lia) (by rw[az] at x;exact x) (d g c)) (λp t m=>?_);rw[az] at t m;obtain⟨y,v,G,q3⟩:=Qu t m;obtain⟨e,w⟩:=sortedAll_at s.heap (ps.map λp=>Value.ref p.1) (Srt.dz (ps.map λp=>Value.ref p.1) p);rw[q3] at w ⊢;refine⟨.ref (s.heap.objs.size+1),_,I.laid (a:=s.heap.objs.size+1) (o:=.lst (y.map λp=>V.ref p.1)) (t':=s.toks) (λ_ _ z=>sortedAll_old z) (uV _) ⟨?_,_,e,R5 y,w⟩,rfl,q _ _ (I.hok.fresh (uV _)) v G⟩;rw[az,v.length_eq];exact eA (by lia)
theorem Va{X:Cx}(hc:X.calm=true)(hu:X.A.units + 64<cLine):bV X (.builtin "sorted") fA:=by
 intro aW s σ H xs E Q I r h;obtain⟨a,m,ks,rfl,hd,ek,a0,q⟩:=h;obtain⟨u,rfl,ru⟩:=vals1 r;cases ru;obtain⟨z,ns,ys,k,ob,j,ep,e1,e2,e3,e4,e5⟩:=(show ax X.prog X.w H s.heap a (.dT m) from hd.ok I.hok)
 obtain⟨ps,U,R,a3⟩:=FD (P:=X.prog) (w:=X.w) k ek;have a5:ps.length=ks.length:=by rw[←U,az]
 have f:j.toList.map (·.key)=ps.map λp=>Value.ref p.1:=by rw[e4,gi];exact a3
 have a4:j.size=ps.length:=by
  have:=congrArg List.length f;rw[az,az,gF] at this;exact this
 have e:∀g:Heap,(∀b o,s.heap.get? b=some o->g.get? b=some o)->fP g ps:=λg d p v=>by
  obtain⟨E,rv,⟨o,b2,b3,n,b4⟩,_⟩:=I.tuple (bH.of (R p v));exact⟨E,o,n,uR rv,d _ _ b2,b3,b4⟩
 refine Srt.UF (Dct.K1 ns j ep) (I.ok.hd hc) ⟨ob,e1,e2,e3⟩ (eA (by lia)) λA hl hv=>?_
 have y:A=ps.map λp=>Value.ref p.1:=by
  rw[←f];apply DJ;intro i;by_cases hi:i<j.size
  ·have Y:A[i]?=some A[i]:=dr (by lia);obtain⟨en,S,h3⟩:=hv i _ Y;rw[Y,h3,fq,iW,S]
   rfl
  ·rw[zC (by lia),zC (by rw[az,gF];lia)]
 subst y;refine⟨Srt.fO (ps.map (·.2)),Qe (e s.heap λ_ _ z=>z),λS g tk d=>xS (by show X.A.units+1+1<cLine;lia) (by lia) (e g d),λp t g tk c J G d C T=>?_⟩;rw[az] at J G;obtain⟨x,l,q2,q3⟩:=Qu J G;rw[q3] at T;refine⟨.ref t,_,I.laidN (o:=.lst (x.map λp=>V.ref p.1)) d C ⟨?_,_,c,R5 x,T⟩,rfl,q t x (I.away C) ((l.map _).trans (by rw[U])) q2 λp v=>R p (l.mem_iff.mp v)⟩;rw[az,l.length_eq];exact eA (by lia)
end L2
namespace L2
open Spec PyProof.Rows
theorem RZ{b c:Type}[DecidableEq b]{k:b}:∀{a:List (b×c)}{j:Nat}{p:c},(a.map (·.1)).Nodup->a[j]?=some (k,p)->a.eraseIdx j=a.filter λx=>decide (x.1≠k)
 |[],_,_,_,e=>by simp at e
 |x::r,0,p,nd,e=>by
  simp at e;subst e;rw[cf,iB] at nd;rw[List.eraseIdx_cons_zero,l9 (by simp)]
  symm
  rw[Oq];intro y f;refine eK λz=>nd.1 ?_
  rw[←z];exact cP.mpr ⟨y,f,rfl⟩
 |x::r,j+1,p,nd,e=>by
  rw[cf,iB] at nd;have d:r[j]?=some (k,p):=by simpa using e
  have g:x.1≠k:=λz=>nd.1 (by rw[z];exact cP.mpr ⟨_,db d,rfl⟩)
  rw[D5,l8 (by simpa using g),RZ nd.2 d]
theorem Q3{a b:Type}(f:a->b):∀(l:List a) (j:Nat),(l.map f).eraseIdx j=(l.eraseIdx j).map f
 |[],_=>rfl
 |_::_,0=>rfl
 |x::l,j+1=>by rw[cf,D5,D5,cf,Q3 f l j]
section
variable {κ:Type}[DecidableEq κ]
section
variable {prog:Program}{w:World}{knd:HeapKind prog w κ}{A:Around}{E:Value->Shared->Prop}{s:Shared}{d:Addr}{a:Addr}{k:κ}{xs:List (κ×Addr×Value)}{p:Addr×Value}
theorem Tl{W:Option DictEntry->Shared->Prop}(y:knd.room A)(b:knd.is s.heap k a)(G:s.heap.DictOfH knd d xs)(u:atKey xs k=some p)(I:xs.length<=sizeLine)
  (t:∀e r,e.val=p.2->r.DictOfH knd d (xs.filter λx=>decide (x.1≠k))->Heap.SameBut d s.heap r->W (some e) {s with heap:=r,toks:=s.toks+knd.draws k}):
  wpAny (model prog w) A (Builtin.Dict.takeOut d (.ref a)) W E s:=by
 obtain⟨o,C,J,f,H,c,i,g,h⟩:=G;unfold Builtin.Dict.takeOut;refine iV ?_;refine ab (knd.pyHash y b ?_);refine ab (wpAny_dictFind_heap (s:={s with toks:=s.toks+knd.draws k}) y b f c i g h (λz=>?_) λj q m=>?_)
 ·rw[atKey_none_of_get z] at u;cases u
 ·have P:q=p:=by
   have z:=atKey_of_get h m;rw[u] at z;exact(fW z).symm
  subst P;refine ab (vf (s:={s with toks:=s.toks+knd.draws k}) f c ?_);rw[entry_at i j,m];have n:C.size<=sizeLine:=by have:=size_of_entries i;lia
  refine ab (wpAny_updateDictKeys (hz:=n) (s:={s with toks:=s.toks+knd.draws k}) f c (aq (t _ _ rfl ⟨_,_,J+1,lq _ f (Obj.isFreed_of_dict (Obj.data_mapDictKeys c _)),H.mapDictKeys _,Obj.data_mapDictKeys c _,?_,λx Q=>?_,?_⟩ (qE ..))))
  ·rw[←RZ h m];obtain⟨l⟩:=C;have v:l=xs.map (entryOfKey knd):=i;subst v;simp[Q3]
  ·exact knd.keeps (g x (fH.mp Q).1) f c (qE ..)
  ·exact List.Sublist.nodup (List.Sublist.map (λx:κ×Addr×Value=>x.1) DN) h
end
theorem MS{b:HeapKind prog w κ}{A:Around}{s:Shared}{W:Value->Shared->Prop}(t:b.room A.in1)(f:b.is s.heap k a)(h:s.heap.DictOfH b d xs)(m:atKey xs k=some p)(i:xs.length<=sizeLine)
  (l:∀c,c.DictOfH b d (xs.filter λx=>decide (x.1≠k))->Heap.SameBut d s.heap c->W p.2 {s with heap:=c,toks:=s.toks+b.draws k}):
  wpAny (model prog w) A (call (.builtin "dict.pop") [.ref d,.ref a]) W E s:=by
 have M:MeetsIn prog w (Builtin.«dict.pop» ⟨[.ref d,.ref a],[]⟩) (λB R g=>B=A/\g=s/\∀c,c.DictOfH b d (xs.filter λx=>decide (x.1≠k))->Heap.SameBut d s.heap c->R (.ok (.ret p.2)) {s with heap:=c,toks:=s.toks+b.draws k}):=
  .of_wp λB R g j=>by
   obtain⟨C,u,q⟩:=j;subst C u;unfold Builtin.«dict.pop» Builtin.Dict.keyAndDefault;refine ab (ab (wpAny_notOrdered_dict h.typeIs (aq ?_)));obtain⟨o,G,U,v,T,H,P,I,S⟩:=id h;have n:G.isEmpty=false:=by
    have:=size_of_entries P;cases xs with
    |nil=>cases m
    |cons x r=>
     rw[dN] at this;rw[Array.isEmpty_eq_false_iff];intro z;rw[z] at this;simp at this
   simp only[keyPart,Option.isSome_none,ku,jm];refine ab (vf v H (ab (aq ?_)));rw[n];simp only[ku,jm];refine ab (Tl t f h m i λe c J Q y=>?_);simp only[Option.isNone_some,ku,jm];exact ab (lX (aq ⟨e.val,rfl,by rw[J];exact q c Q y⟩))
 exact uW DV h.typeIs F.entry_dict_pop (F.args_dict_pop_2 _ _) M ⟨rfl,rfl,l⟩
end
theorem KT.drop(r:KT H kvs xs)(k:List cI):KT H (dA kvs k) (xs.filter λx=>decide (x.1≠k)):=by
 unfold dA
 induction r with
 |nil=>exact .nil
 |@cons p q ps qs h t ih=>
  by_cases e:p.1=k
  ·rw[l9 (by simp[e]),l9 (by simp[←h.1,e])];exact ih
  ·rw[l8 (by simp[e]),l8 (by simp[←h.1,e])];exact .cons h ih
theorem Hb{X:Cx}{k:List cI}(u:X.A.units+1<cLine)(I:Inv X aW σ H s)(e:H a=some (.dT kvs))(x:H b=some (.tup (k.map kV)))(l:cy kvs k=some v)
  (h:∀ w' t,Inv X aW σ (ar H a (.dT (dA kvs k))) t->RelV v w'->Q w' t):wpAny (model X.prog X.w) X.A (call (.builtin "dict.pop") [.ref a,.ref b]) Q E s:=by
 obtain⟨z,G,m,d,R⟩:=wE I.hok e;obtain⟨w',f,g⟩:=fF.some_of (v:=v) (o:=(atKey m k).map (·.2)) (by rw[←l];exact d.val k);cases hp:atKey m k with
 |none=>rw[hp] at f;cases f
 |some p=>
  rw[hp] at f;have j:p.2=w':=fW f;subst j;refine MS (yZ u) (uo I.hok x) R hp (by rw[←sH d];exact z) λU i y=>h _ _ ?_ g
  obtain⟨q,C,A,n,S,w,P,_,J⟩:=i;refine vK I (by rw[e];exact True.intro) y ⟨q,n⟩ ⟨ay (vr _ _) z,G,_,(d.drop k).keeps λc T r=>?_,q,C,A,n,S,w,P,J⟩;rw[zo (wK r e (λz=>nomatch z))];exact r
def tm(e f:TE):TE:=λd H Q=>e d H λx H1=>∃a,x=.ref a/\Ek H1 a/\f d H1 λy H2=>∃c k v b,H2 a=some (.dT c)/\y=.ref b/\H2 b=some (.tup (k.map kV))/\cy c k=some v/\Q v (ar H2 a (.dT (dA c k)))
theorem MK{X:Cx}(p:X.A.units + 1<cLine)(z:PE X o td)(Y:PE X e ty)(m:M1 X o "pop" apos e cpos):PE X (.Call (.Attribute o "pop" apos) [e] [] cpos) (tm td ty):=by
 intro i s g H Q I h;refine wpAny_Call_method m.base m.few m.line D4 DV F.type_dict_pop (bi (z i s g H _ I h) λu q f=>?_);obtain⟨x,H1,j,T,a,J,d,E⟩:=f;subst J;obtain rfl:u=Value.ref a:=T;obtain⟨S,U,_⟩:=xk j d;refine⟨S,U,?_⟩;rw[m.trees];refine DZ rfl (Ox (qD (bi (Y i q g H1 _ j E) λr s2 ⟨y,H2,C,R,G,k,v,b,t,P,A,l,w⟩=>sR ?_)));subst P;cases(show r=Value.ref b from R);exact Hb p C t A l λw' s3 n c=>⟨v,_,n,c,w⟩
def qO(K:Fg):R2:=λx y H Q=>∃a b c d,x=.ref a/\y=.ref b/\bH K H a c/\bH K H b d/\c.length+d.length<=sizeLine /\
 (c=[]->Q (.ref b) H)/\(c≠[]->d=[]->Q (.ref a) H)/\(c≠[]->d≠[]->∀p,H p=none->Q (.ref p) (ar H p (.tup (c++d))))
theorem Kx:dH X (binaryOp .Add) (qO X.K):=by
 intro aW s Y H x y v u Q I C w h;obtain⟨a,b,q,G,rfl,rfl,r,l,hz,E,T,P⟩:=h;by_cases hx:q=[]
 ·cases C;cases w;obtain⟨f,r1,R,_⟩:=I.tuple r;obtain⟨d,r2,J,_⟩:=I.tuple l;obtain⟨⟨U,dd,p,S⟩,o,m,n,t⟩:=id R;obtain⟨⟨A,j,data2,k⟩,c,g,n2,i⟩:=id J;simp only at m t g i;subst m t g i;have e:f=[]:=r1.nil_iff.mpr hx;exact concat_meets ⟨_,o,rfl⟩ ⟨_,c,rfl⟩ noFill_tuple_add seq_tuple_add OC OI (OL _ _)
   (tuple_addW0 a b f.toArray d.toArray n n2 dd j S k (by simp[e])) ⟨o,c,⟨.ref b,H,I,rfl,E hx⟩⟩
 ·exact Ky aW s Y H _ _ v u Q I C w ⟨a,b,q,G,rfl,rfl,r,l,hx,hz,λz=>T hx z,λz=>P hx z⟩
theorem Nw{s:Shared}{lo b:Option Int}{W:Value->Shared->Prop}(a:IsTup s.heap t its)(h:s.heap.IsSliceOf sl vl vu .none)(j:IsPart vl lo)(l:IsPart vu b)
  (i:HT.cb its.size 0 lo=0)(m:HT.cb its.size its.size b=its.size)(d:W (.ref t) s):wpAny (model prog w) A (getItem (.ref t) (.ref sl)) W E s:=by
 obtain⟨os,c,g,k⟩:=id h;unfold getItem
 try with_reducible refine iV ?_
 first|refine ab (aq ?_)|skip
 refine ab (wpAny_sequenceKey a.typeIs (by decide) ?_);refine ab (wpAny_callSpecial?_slot (name:=Str.ofString "__getitem__") a.typeIs DM (li DM a.typeIs entry_tuple_getitem ?_ (args_tuple_getitem _ _)))
 show wpAny _ _ (Builtin.Tuple.tupleItemsOf (.ref t) >>= _) _ _ s;refine ab (tupleItemsOf_ a ?_);have e:s.TypeIs (.ref sl) "slice":=⟨os,c,g⟩
 refine ab (yO e ?_);rw[if_pos (by decide)];refine ab (HT.Sl h j l ?_);have f:(((HT.cb its.size 0 lo:Nat):Int)==0&&(1:Int)==1&&(HT.cb its.size its.size b-HT.cb its.size 0 lo)==its.size)=true:=by
  rw[i,m];simp
 show wpAny _ _ (if(((HT.cb its.size 0 lo:Nat):Int)==0&&(1:Int)==1&&(HT.cb its.size its.size b-HT.cb its.size 0 lo)==its.size)=true then _ else _) _ _ s;rw[if_pos f];refine ab (?_:wpAny _ _ (Builtin.Tuple.tupleIsExact (.ref t)) _ _ s);unfold Builtin.Tuple.tupleIsExact;refine ab (yO a.typeIs (aq ?_));rw[if_pos (by decide)];exact ab (lW (aq ⟨_,rfl,aq d⟩))
def Pd(K:Fg):V->Option Int->Option Int->Hp->VK->Prop:=λx lo c H Q=>∃a b,x=.ref a/\bH K H a b/\(hU b lo c=b->Q (.ref a) H)/\∀p,H p=none->Q (.ref p) (ar H p (.tup (hU b lo c)))
theorem K6:qX X (Pd X.K):=by
 intro n s u H x v o m lo i p Q I e f k l h;obtain⟨a,c,rfl,j,q,t⟩:=h;by_cases hw:HT.cb c.length 0 lo=0/\HT.cb c.length c.length i=c.length
 ·cases e;obtain⟨d,r,g,w⟩:=I.tuple j;have b:d.toArray.size=c.length:=by rw[dR];exact r.length.symm
  refine⟨"tuple",_,DM.lookup,g.typeIs,?_⟩
  refine Nw g f k l (by rw[b];exact hw.1) (by rw[b];exact hw.2) ⟨.ref a,H,I,rfl,q ?_⟩;unfold hU;rw[hw.1,hw.2];simp
 ·exact IV n s u H _ v o m lo i p Q I e f k l ⟨a,c,rfl,j,hw,t⟩
theorem RT(a:List Int):∀k,k<=a.length->preSum (λi=>a.getD i 0) k=(a.take k).sum
 |0,_=>rfl
 |k+1,h=>by
  show preSum (λi=>a.getD i 0) k+a.getD k 0=_;rw[RT a k (by lia),OT (by lia),gQ,dO,dr (by lia)];simp
theorem vN:∀{a:List Int}{b:List Value}{i:Nat}{v:Value},aj (a.map V.int) b->b[i]?=some v->∃t,v=.int (a.getD i 0) t
 |[],_,_,_,.nil,e=>by simp at e
 |n::a,_,0,_,.cons r _,e=>by
  simp at e;subst e
  obtain⟨t,rfl⟩:=r;exact⟨t,rfl⟩
 |n::a,_,i+1,v,.cons _ t,e=>by
  have:=vN (i:=i) t (by simpa using e)
  simpa using this
def zX(K:Fg):List V->Hp->VK->Prop:=λc H Q=>∃(a:Addr) (b:List Int),c=[.ref a]/\(du K H a (b.map V.int)\/bH K H a (b.map V.int))/\Q (.int b.sum) H
theorem Fj{X:Cx}(hc:X.calm=true):bV X (.builtin "sum") (zX X.K):=by
 intro aW s σ H xs us Q I r h;obtain⟨a,ns,rfl,hs,q⟩:=h;obtain⟨u,rfl,ru⟩:=vals1 r;cases ru;have key:∀{its:List Value}(h':Heap) (tk:Nat) (t':Tok) (nn:Nat),nn=ns.length->(∀b o,b≠s.heap.objs.size->s.heap.get? b=some o->h'.get? b=some o) ->
   EP X aW σ Q (.int (preSum (λi=>ns.getD i 0) nn) t') {s with heap:=h',toks:=tk}:=λh' tk t' nn hn hk=>by
  subst hn;rw[RT ns _ (bj _),eQ];exact⟨.int ns.sum,H,I.kept (t':=tk) λb o e=>hk b o (dF (cu e)) e,⟨_,rfl⟩,q⟩
 refine call_sum_walkG ?_;rcases hs with hs|hs
 ·obtain⟨its,rv,pl,hz⟩:=I.list hs;have hlt:a<s.heap.objs.size:=by obtain⟨o,n,e,_⟩:=pl;exact cu e
  have hl:=rv.length;rw[az] at hl;refine DD pl.isList ?_;refine⟨s.heap.objs.size,_,[s.heap.objs.size],_,_,_,λi=>ns.getD i 0,rfl,Walks.list (A:=X.A.in1) (I.ok.hd hc) _ a (dF hlt) its.toArray,⟨⟨_,ez _ rfl,rfl,rfl⟩,pl.isList.push _⟩,?_,λi v e=>vN rv (by simpa using e),λh' tk t' hk=>?_⟩
  ·intro b hb;show b<(s.heap.push _).objs.size;rw[show ∀o:Obj,(s.heap.push o).objs.size=s.heap.objs.size+1 from λo=>by simp[Heap.push]];rcases bU.mp hb with rfl|hb
   ·exact ve _
   ·rcases bU.mp hb with rfl|hb
    ·exact yX hlt
    ·cases hb
  ·exact key (its:=its) h' tk t' _ (by simp[hl]) λb o hb e=>hk b o (by simpa using hb) (cg _ e)
 ·obtain⟨its,rv,pl,hz⟩:=I.tuple hs;have hlt:a<s.heap.objs.size:=pl.lt;have hl:=rv.length;rw[az] at hl;have pt:s.heap.IsTuple a its.toArray:=pl;refine sS pt ?_;refine⟨s.heap.objs.size,_,[s.heap.objs.size],_,_,_,λi=>ns.getD i 0,rfl,Walks.tuple (A:=X.A.in1) (I.ok.hd hc) _ a (dF hlt) its.toArray,⟨⟨_,ez _ rfl,rfl,rfl⟩,pt.push _⟩,?_,λi v e=>vN rv (by simpa using e),λh' tk t' hk=>?_⟩
  ·intro b hb;show b<(s.heap.push _).objs.size;rw[show ∀o:Obj,(s.heap.push o).objs.size=s.heap.objs.size+1 from λo=>by simp[Heap.push]];rcases bU.mp hb with rfl|hb
   ·exact ve _
   ·rcases bU.mp hb with rfl|hb
    ·exact yX hlt
    ·cases hb
  ·exact key (its:=its) h' tk t' _ (by simp[hl]) λb o hb e=>hk b o (by simpa using hb) (cg _ e)
theorem wa{A:Around}{s:Shared}(k:A.handled=none)(d:s.heap.IsTupleIter it t i)(q:s.heap.IsTuple t items)
  (r:∀x,items[i]?=some x->∀b,b.IsTupleIter it t (i+1)->Heap.SameBut it s.heap b->Q x {s with heap:=b})
  (h:items[i]?=none->∀ b e,Heap.ExtBut it s.heap b->(∃ o,b.get? e=some o/\o.cls=.type "StopIteration")->E (.ref e) { s with heap:=b }):wpAny (model prog w) A (Builtin.SmallTypes.nextOf (.ref it)) Q E s:=by
 rcases d with⟨o,a,f,c⟩
 rcases q with⟨u,j,_,n,l⟩
 refine ab (wpAny_callSpecial?_slot (name:=Str.ofString "__next__") ⟨o,a,f⟩ F.slot_tuple_iterator_next (li F.slot_tuple_iterator_next ⟨o,a,f⟩ F.entry_tuple_iterator_next ?_ (F.args_tuple_iterator_next_1 _)))
 have m:(#[Value.ref t,.int i 0]:Array Value)[0]?=some (.ref t):=rfl;have p:(#[Value.ref t,.int i 0]:Array Value)[1]?=some (.int i 0):=rfl
 wp_walk using jG a c m,jG a c p,pd j l
 rw[nW];cases hx:items[i]? with
 |some x=>
  exact ab (sJ a c (by simp) (aq ⟨x,rfl,aq (r x hx _ ⟨_,lq _ a (DU (vi c _)),(Oj ..).trans f,by rw[vi c];simp[rawInt]⟩ (.update ..))⟩))
 |none=>
  have g:A.in1.handled=none:=k
  wp_walk using sJ a c (by simp)
  unfold raiseNew;refine ab (wpAny_handled ?_);rw[g];exact ab (aq (wpAny_throw (h hx _ _ ((qE ..).extBut.push _ |>.push _) ⟨_,ez _ rfl,rfl⟩)))
theorem tR{A:Around}(p:A.handled=none)(f t:Addr)(k:t≠f)(c:Array Value):
  Draws prog w A f [f,t] (c.size+1) (λj v=>∃i,j=i+1/\c[i]?=some v) (λj h=>∃i,j=i+1/\h.IsTupleIter f t i/\h.IsTuple t c) where
 live:=λ_ _ ⟨_,_,⟨o,q,_⟩,_⟩=>⟨o,q⟩
 frame:=λ_ _ _ ⟨i,e,a,b⟩ n=>⟨i,e,a.at λo e=>n f (by simp) o e,b.at λo e=>n t (by simp) o e⟩
 item:=λj s Q E C l y=>by
  obtain⟨i,e,a,b⟩:=l;have G:i<c.size:=by lia
  refine wa p a b (λx m u d g=>?_) λz=>absurd z (by simp;lia)
  exact y _ u s.toks ⟨i,e,m⟩ ⟨i+1,by lia,d,b.extBut g.extBut k⟩ g
 done:=λs Q E ⟨i,e,a,b⟩ r=>wa p a b (λx m=>absurd m (by rw[OB (by lia)];simp)) λ_=>r
theorem tS{A:Around}(l:A.handled=none)(d t:Addr)(c:Array Value)(i:Nat)(n:c.size<=i):
  Draws prog w A d [d,t] (i+1) (λ_ _=>False) (λj h=>j=i+1/\h.IsTupleIter d t i/\h.IsTuple t c) where
 live:=λ_ _ ⟨_,⟨o,g,_⟩,_⟩=>⟨o,g⟩
 frame:=λ_ _ _ ⟨e,a,b⟩ f=>⟨e,a.at λo e=>f d (by simp) o e,b.at λo e=>f t (by simp) o e⟩
 item:=λj s Q E p ⟨e,_⟩ _=>absurd e (by lia)
 done:=λs Q E ⟨_,a,b⟩ k=>wa l a b (λx m=>absurd m (by rw[OB n];simp)) λ_=>k
theorem Inv.turned2{h':Heap}(I:Inv X g σ H s)(k:∀b o,b≠e->b≠it->s.heap.get? b=some o->h'.get? b=some o)(i:H it=none)(h:it≠X.env.locals)
  (R:it∈X.ex\/X.s₀.heap.objs.size<=it)(E:∀x c,X.env.cells.lookup x=some c->c≠it)(w:∀p∈X.pn++g,p.1≠it)(Q:H e=none)(gL:e≠X.env.locals)
  (t:e∈X.ex\/X.s₀.heap.objs.size<=e)(P:∀x c,X.env.cells.lookup x=some c->c≠e)(J:∀p∈X.pn++g,p.1≠e):Inv X g σ H {s with heap:=h',toks:=t'}:=by
 have d:∀b u,H b=some u->b≠it:=λb u e z=>by rw[z,i] at e;cases e
 have f:∀b u,H b=some u->b≠e:=λb u q z=>by rw[z,Q] at q;cases q
 refine I.step (g':=s.gens) (d':=s.drawn) (ch:=[e,it]) (λb l=>?_) (λb o _ _ a e _=>k b o (λz=>a (by simp[z])) (λz=>a (by simp[z])) e) (λb o _ _ a e _=>⟨o.slots,k b o (λz=>a (by simp[z])) (λz=>a (by simp[z])) e⟩) (λ_ _ _ _ n=>n)
  (λb o a e=>⟨o,k b o (λz=>a (by simp[z])) (λz=>a (by simp[z])) e⟩) (λ_ _ e=>e) (λ_ _ _ e=>e) (λb S e=>⟨#[],by rw[e];simp⟩) (λm j=>?_) (λb u e=>?_) I.bare
 ·rcases bU.mp l with z|z
  ·subst z;exact⟨t,gL,P,J⟩
  ·have G:b=it:=by simpa using z
   subst G;exact⟨R,h,E,w⟩
 ·obtain⟨o,C,A,y,r⟩:=j;exact⟨o,C,A,k _ o (cJ gL) (cJ h) y,r⟩
 ·refine(I.hok b u e).stay (λc v a q=>k c v ?_ ?_ q) (λ_ q=>q) λ_ _ q=>q
  ·rcases a with z|z
   ·rw[z];exact f b u e
   ·exact f c _ z
  ·rcases a with z|z
   ·rw[z];exact d b u e
   ·exact d c _ z
def SN(K:Fg) (a:Addr):It:=
 ⟨λi H=>∃b x,bH K H a b/\b[i]?=some x,λi H y c=>∃p,H p=none/\y=.ref p/\∀b x,bH K H a b->b[i]?=some x->c=ar H p (.tup [.int ((i+1:Nat):Int),x]),λi H=>∃b,bH K H a b/\b.length<=i⟩
theorem Uf{P:Program}{w:World}{K:Fg}{U:List Expr}{k:Nat}{T:Pos}(e it a:Addr)(R:e≠it):
  jc P w K (.Tuple U k T) (SN K a) [e,it] e (λi h=>(∃f,IsEnum h e it ((i+1:Nat):Int) f)/\h.IsTupleIter it a i) where
 mem:=by simp
 obj:=λi h m b hb=>by
  obtain⟨⟨f,l⟩,o,e',c,d⟩:=m;rcases bU.mp hb with rfl|hb
  ·exact⟨_,l,λv z=>by
    have z':Data.fields _=Data.cell v:=z
    cases z'⟩
  ·have:b=it:=by simpa using hb
   subst this;exact⟨o,e',λv z=>by rw[d] at z;cases z⟩
 keep:=λi h h' m k=>⟨let ⟨f,l⟩:=m.1;⟨f,k e (by simp) _ l⟩,m.2.at λo z=>k it (by simp) o z⟩
 item:=by
  intro X hP hw hK hc i aW s σ H E I hf m hg;subst hP hw hK;obtain⟨xs,x,hq,hx⟩:=hg;obtain⟨⟨f,l⟩,j⟩:=m;obtain⟨g,rv,p,hz⟩:=I.tuple hq;have Y:s.heap.IsTuple a g.toArray:=p;obtain⟨u,hu,ru⟩:=rv.get hx;have a4:a≠e:=λz=>by
   obtain⟨o,C,n,_⟩:=Y;rw[z,l] at C;cases C;simp at n
  have a7:a≠it:=λz=>by
   obtain⟨o,C,n,_⟩:=Y;obtain⟨o',t,a1,_⟩:=j;rw[z,t] at C;cases C;rw[a1] at n;simp at n
  have hi:i<g.length:=(cn.mp hu).1;have D:=tR (prog:=X.prog) (w:=X.w) (A:=X.A.in1) (I.ok.hd hc) it a a7 g.toArray;refine wpAny_pyNext_enum_itemD D (i:=i+1) l ⟨i,rfl,j,Y⟩ (by simp;lia) R (by simp;exact⟨R,λz=>a4 z.symm⟩) λS h' r hP C a3 hT a9 hk=>?_
  obtain⟨i',e1,e2⟩:=hP;cases(show i'=i by lia);have eu:S=u:=by
   rw[vq,hu] at e2;exact(fW e2).symm
  subst eu;refine⟨_,rfl,wpAny_letOwnedTupleGo_enum C λh2 a5 J=>?_⟩;obtain⟨f0,f1,f2,f3,f4,f5⟩:=hf e (by simp);obtain⟨g0,g1,g2,g3,g4,g5⟩:=hf it (by simp);have G:e<s.heap.objs.size:=cu l;have a2:it<s.heap.objs.size:=by obtain⟨o',t,_⟩:=j;exact cu t
  have I1:Inv X aW σ (ar H s.heap.objs.size (.tup [.int ((i + 1:Nat):Int),x])) { s with heap:=s.heap.push { cls:=.type "tuple",data:=.seq #[.int ((i + 1:Nat):Int) r,S] },toks:=s.toks }:=
   I.laid (λ_ _ q=>cg _ q) (bj _) ⟨by simp;decide,[.int ((i+1:Nat):Int) r,S],.cons ⟨r,rfl⟩ (.cons ru .nil),⟨_,ez _ rfl,rfl,_,rfl⟩⟩
  have T2:h2.get? s.heap.objs.size=some { cls:=.type "tuple",data:=.seq #[.int ((i + 1:Nat):Int) r,S] }:=(J.2 _ (nS G)).trans hT
  have I2:Inv X aW σ (ar H s.heap.objs.size (.tup [.int ((i+1:Nat):Int),x])) {s with heap:=h2,toks:=r+1}:=by
   refine Inv.turned2 (s:={ s with heap:=s.heap.push { cls:=.type "tuple",data:=.seq #[.int ((i + 1:Nat):Int) r,S] },toks:=s.toks }) (h':=h2) (t':=r + 1) (e:=e) (it:=it) I1 (λb o a0 a6 q=>?_) (by rw[zo (dF a2)]; exact g0) g1 g3 g4 g5 (by rw[zo (dF G)]; exact f0) f1 f3 f4 f5
   have q':(s.heap.push { cls:=.type "tuple",data:=.seq #[.int ((i + 1:Nat):Int) r,S] }).get? b=some o:=q
   rcases Heap.get?_push_cases q' with⟨z,z2⟩|z
   ·rw[z,z2];exact T2
   ·exact(J.2 _ a0).trans (hk b o a0 a6 z)
  refine⟨.ref s.heap.objs.size,_,I2,rfl,⟨s.heap.objs.size,I.fresh,rfl,λys y hy e'=>?_⟩,⟨⟨S,?_⟩,?_⟩,λb hb=>?_⟩
  ·rw[I.tuple_inj hy hq,hx] at e';cases e'
   rfl
  ·have:(((i+1+1:Nat)):Int)=(((i+1:Nat)):Int)+1:=by push_cast;rfl
   rw[this];exact a5
  ·obtain⟨i',e3,e4,_⟩:=a3;cases(show i'=i+1 by lia);exact e4.at λo q=>(J.2 it (cJ R)).trans q
  ·rcases bU.mp hb with rfl|hb
   ·rw[zo (dF G)];exact f0
   ·have:b=it:=by simpa using hb
    subst this;rw[zo (dF a2)];exact g0
 done:=by
  intro X hP hw hK hc i aW s σ H E I hf m hg;subst hP hw hK;obtain⟨xs,hq,hx⟩:=hg;obtain⟨⟨f,l⟩,j⟩:=m;obtain⟨g,rv,p,hz⟩:=I.tuple hq;have Y:s.heap.IsTuple a g.toArray:=p;have hl:=rv.length;obtain⟨g0,g1,g2,g3,g4,g5⟩:=hf it (by simp);have D:=tS (prog:=X.prog) (w:=X.w) (A:=X.A.in1) (I.ok.hd hc) it a g.toArray i (by simp;lia);exact wpAny_pyNext_enum_endD D l ⟨rfl,j,Y⟩ λh' a8=>⟨rfl,I.turned (t':=s.toks) (λb o hb e=>a8 b o hb e) g0 g1 g3 g4 g5⟩
 self:=λA i s Q E m h=>let ⟨f,l⟩:=m.1;wpAny_pyIter_enum l h
theorem NF(a:Addr)(e:Array Value)(n:Obj)(t:Tok):
  Meets (Builtin.«enumerate.__new__» ⟨[.type "enumerate",.ref a],[(Str.ofString "start",.int 1 t)]⟩) (λ_ R s=>s.heap.get? a=some n/\s.heap.IsTuple a e /\
   R (.ok (.ret (.ref (s.heap.objs.size+1))))
    { s with heap:=(s.heap.push { cls:=.type "tuple_iterator",data:=.fields #[.ref a,.int 0 0] }).push { cls:=.type "enumerate",data:=.fields #[.none,.bool false,.ref s.heap.objs.size,rawInt 1,.none,.none] } }):=by
 refine Meets.of_wp ?_;rintro l w A R ⟨k,g,d,o,os⟩ ⟨h,m,i⟩;have j:=sub_enumerate;have f:(k.push { cls:=.type "tuple_iterator",data:=.fields #[.ref a,.int 0 0] }).objs.size=k.objs.size + 1:=nU ..
 rw[←f] at i
 wp_walk using OJ h
 refine wpAny_stack_any λ_=>aq ?_
 split
 ·rename_i c _ _ _ _ _;generalize (c==Value.type "enumerate")=b
  cases b<;>(wp_walk using OJ h,sS m;exact⟨_,rfl,i⟩)
 ·wp_walk using OJ h,sS m
  exact⟨_,rfl,i⟩
theorem J6{T e:String}{b a:Value}{c:List Value}{k:Str×Value}{f:List (Str×Value)}(h:typeLookup (.type T) "__init__"=pure (some (.builtin "object.__init__")))(l:Bind.madeBy (.type T)=pure (some e))
  (j:(some e != some "object.__new__")=true):Meets (Builtin.«object.__init__» ⟨b::a::c,k::f⟩) (λ_ R s=>s.TypeIs b T/\R (.ok (.ret .none)) s):=
 .of_wp λ_ _ _ _ _ d=>by
  obtain⟨i,g⟩:=d
  repeat any_goals first|assumption|wp_step
  exact⟨_,rfl,g⟩
theorem Mr(a:Value)(t:Tok):checkBuiltinCall "enumerate.__new__" ⟨[.type "enumerate",a],[(Str.ofString "start",.int 1 t)]⟩=pure ():=by kernel_rfl
theorem Mz(o a:Value)(t:Tok):argsOk "object.__init__" ⟨[o,a],[(Str.ofString "start",.int 1 t)]⟩:=by kernel_rfl
theorem TF{d:Program}{w:World}{A:Around}{E:Value->Shared->Prop}{s:Shared}{a:Addr}{f:Array Value}{t:Tok}{Q:Value->Shared->Prop}(p:s.heap.IsTuple a f)
  (h:∀l,IsEnum l (s.heap.objs.size+1) s.heap.objs.size 1 .none->l.IsTupleIter s.heap.objs.size a 0->(∀b o,s.heap.get? b=some o->l.get? b=some o)->Q (.ref (s.heap.objs.size+1)) {s with heap:=l}):
  wpAny (model d w) A (call (.type "enumerate") [.ref a] [(Str.ofString "start",.int 1 t)]) Q E s:=by
 rcases id p with⟨v,k,_⟩
 have g:=F.called_enumerate;rcases g.mro with⟨c,J,I⟩
 have z:=g.made;have P:=g.sub;have H:=g.notType;have G:=g.canCreate;have u:=g.init.lookup;have i:(s.heap.push { cls:=.type "tuple_iterator",data:=.fields #[.ref a,.int 0 0] }).objs.size=s.heap.objs.size + 1:=nU ..
 have n:IsEnum ((s.heap.push { cls:=.type "tuple_iterator",data:=.fields #[.ref a,.int 0 0] }).push { cls:=.type "enumerate",data:=.fields #[.none,.bool false,.ref s.heap.objs.size,rawInt 1,.none,.none] }) (s.heap.objs.size + 1) s.heap.objs.size 1 .none:=by
  rw[←i];exact ez _ rfl
 have done:=h _ n ⟨_,cg _ (ez _ rfl),rfl,rfl⟩ λb o x=>cg _ (cg _ x)
 refine yM (codeAny_of_tree (aq ⟨Code.quiet_builtin _ (by decide +kernel),pi F.entry_type_call ?_⟩));rw[Around.under_plain (weight_type_call_type _ _ _) (units_type_call_type _ _ _)]
 repeat any_goals first|assumption|wp_step
 refine uX (DP g.plain F.entry_enumerate_new (nR (Mr _ t) (NF a f v t d w A.in1 (wants (λx m=>m.TypeIs x "enumerate"/\Q x m) E) s ⟨k,p,⟨_,n,rfl⟩,done⟩))) ?_
 clear done n i h p k;rintro(e|_|_|_|x) m j
 case ok.ret=>
  obtain⟨T,q⟩:=j;have C:=g.init.bind x
  repeat any_goals first|assumption|wp_step
  refine uX (DP g.init.plain F.entry_object_init (g.init.check _ _ _ _ _ _ _ _ T (Mz _ _ t) (J6 u z (by decide) d w A.in1 (wants (λy r=>y=.none/\Q x r) E) _ ⟨T,rfl,q⟩))) ?_;rintro(e|_|_|_|y) r j
  case ok.ret=>
   obtain⟨rfl,q⟩:=j
   repeat any_goals first|assumption|wp_step
  all_goals first|exact j|exact j.elim
 all_goals first|exact j|exact j.elim
theorem BE{M:Model}{T:String}{b:List (Bool×Sem Value)}{c:List (Option Str×Sem Value)}(f:b.any (·.1)=false)(e:c.any (·.1.isNone)=false)
  (h:wpAny M A (evalArgs (.type T) true b c) (λa d=>wpAny M A (call (.type T) (first++a.pos) a.kw) Q E d) E s):wpAny M A (callWith pos (.type T) first b c) Q E s:=by
 unfold callWith;refine ab (iV (iA h ?_ λ_ _=>id));intro a d k;rw[f,e];exact ab (Dr (ab (aq (ab (iA k (λ_ _ q=>ab (iV (wpAny_point (aq q)))) λ_ _=>id)))))
def tN(K:Fg) (c:TE):TI:=λd H R=>c d H λx H1=>∃a,x=.ref a/\(∃b,bH K H1 a b)/\R (SN K a) H1
theorem MP(y:Gl X "enumerate")(u:X.mg "enumerate"=none)(T:PE X l tl)
  (r:starEach [l] X.env=[(false,eval l X.env)]:=by rfl):
  PI X (.Tuple elts k tpos) (.Call (.Name "enumerate" p) [l] [⟨some "start",.Constant (.int 1) j cpos,kpos⟩] pos) (tN X.K tl):=by
 intro S s G H R I h;refine pB (lQ I y u PyProof.Rows.boot_enumerate ?_);refine BE (by rw[r];rfl) rfl ?_;rw[r];refine evalArgs_kwB rfl ?_;refine qD (bi (T S s G H _ I h) λv c g=>?_);obtain⟨x,H1,i,J,E⟩:=g;refine sR ?_;refine kws_cons ?_;refine Ol (kws_nil ?_);obtain⟨a,rfl,⟨U,Q⟩,q⟩:=E;cases J;have n:=i.tok (c.toks+1);obtain⟨A,rv,P,Y⟩:=n.tuple Q;refine TF (show _ from P) λo e f C=>?_
 refine wpAny_pyIter_enum e ?_;have t:=n.kept (h':=o) (t':=c.toks+1) C;refine⟨c.heap.objs.size+1,[c.heap.objs.size+1,c.heap.objs.size],_,_,H1,rfl,t,Uf _ c.heap.objs.size a (Nat.succ_ne_self _),⟨⟨_,e⟩,f⟩,λb w=>?_,q⟩;have d:c.heap.objs.size<=b:=by
  have m:b=c.heap.objs.size+1\/b=c.heap.objs.size:=by simpa using w
  cases m with
  |inl z=>exact z ▸ uV _
  |inr z=>exact z ▸ bj _
 exact i.fpOk d (i.hok.fresh d)
noncomputable def ce(gt:Bool) (n:Int) (a:List Int):Int:=a.foldl (λi j=>if(if gt then decide (j > i) else decide (j<i))=true then j else i) n
theorem Ck:∀(ns:List Int) (n:Int),ce true n ns∈n::ns/\∀a∈n::ns,a<=ce true n ns
 |[],n=>⟨by simp[ce],by simp[ce]⟩
 |m::ns,n=>by
  have e:ce true n (m::ns)=ce true (if m > n then m else n) ns:=by simp[ce]
  obtain⟨d,c⟩:=Ck ns (if m > n then m else n);rw[e];refine⟨?_,λa ha=>?_⟩
  ·rcases bU.mp d with z|z
   ·rw[z];split<;>simp
   ·simp[z]
  ·have b:=c _ dS;rcases bU.mp ha with rfl|ha
   ·refine Dp ?_ b;split<;>lia
   ·rcases bU.mp ha with rfl|ha
    ·refine Dp ?_ b;split<;>lia
    ·exact c a (cr _ ha)
theorem Rv{ns:List Int}(c:k=ns.length):(n::ns).getD (argBest (λi j=>decide ((n::ns).getD i 0 >(n::ns).getD j 0)) k) 0=ce true n ns:=by
 subst c;obtain⟨o,h⟩:=argBest_gt (λi=>(n::ns).getD i 0) ns.length;obtain⟨d,l⟩:=Ck ns n;have a:argBest (λi j=>decide ((n::ns).getD i 0 >(n::ns).getD j 0)) ns.length<(n::ns).length:=by rw[dN];lia
 obtain⟨j,b,f⟩:=pE d;have g:=h j (by simp at b;lia);have m:=l ((n::ns).getD (argBest (λi j=>decide ((n::ns).getD i 0 >(n::ns).getD j 0)) ns.length) 0) (by rw[dO,dr a];exact l0 a);have e:(n::ns).getD j 0=ce true n ns:=by rw[dO,dr b,f];rfl
 rw[e] at g;lia
theorem Tu{X:Cx}{k:List Int}{R:Value->Shared->Prop}(C:X.calm=true)(I:Inv X aW σ H s)(hs:du X.K H a (k.map V.int)\/bH X.K H a (k.map V.int))
  (h:∀G Q S P St m,Walks X.prog X.w X.A.in1 G Q S k.length P St->St 0 m.heap->(∀b∈Q,b<m.heap.objs.size)->(∀i v,P i v->∃t,v=.int (k.getD i 0) t) ->
   (∀f g,(∀b o,b∉S->m.heap.get? b=some o->f.get? b=some o)->Inv X aW σ H {m with heap:=f,toks:=g})->R (.ref G) m):
  wpAny (model X.prog X.w) X.A.in1 (pyIter (.ref a)) R E s:=by
 have x:∀(o:Obj) (f:Heap) (g:Nat),(∀b u,b∉[s.heap.objs.size]->(s.heap.push o).get? b=some u->f.get? b=some u)->Inv X aW σ H {s with heap:=f,toks:=g}:=λo f g l=>
  I.kept (t':=g) λb u e=>l b u (by simp;exact dF (cu e)) (cg _ e)
 have p:∀(o:Obj),a<s.heap.objs.size->∀b∈[s.heap.objs.size,a],b<(s.heap.push o).objs.size:=λo c b T=>by
  rw[nU];have y:b=s.heap.objs.size\/b=a:=by simpa using T
  rcases y with z|z
  ·rw[z];exact ve _
  ·rw[z];exact yX c
 rcases hs with hs|hs
 ·obtain⟨d,r,j,U⟩:=I.list hs;have c:a<s.heap.objs.size:=by obtain⟨o,n,e,_⟩:=j;exact cu e
  have q:=r.length;rw[az] at q;have W:=Walks.list (prog:=X.prog) (w:=X.w) (A:=X.A.in1) (I.ok.hd C) s.heap.objs.size a (dF c) d.toArray;rw[show d.toArray.size=k.length from by rw[dR];exact q.symm] at W;exact DD j.isList (h _ _ _ _ _ { s with heap:=s.heap.push { cls:=.type "list_iterator",data:=.fields #[.ref a,.int 0 0] } } W ⟨⟨_,ez _ rfl,rfl,rfl⟩,j.isList.push _⟩ (p _ c) (λi v e=>vN r (by simpa using e)) λf g l=>x _ f g l)
 ·obtain⟨d,r,j,U⟩:=I.tuple hs;have c:a<s.heap.objs.size:=j.lt;have q:=r.length;rw[az] at q;have J:s.heap.IsTuple a d.toArray:=j;have W:=Walks.tuple (prog:=X.prog) (w:=X.w) (A:=X.A.in1) (I.ok.hd C) s.heap.objs.size a (dF c) d.toArray;rw[show d.toArray.size=k.length from by rw[dR];exact q.symm] at W;exact sS J (h _ _ _ _ _ { s with heap:=s.heap.push { cls:=.type "tuple_iterator",data:=.fields #[.ref a,.int 0 0] } } W ⟨⟨_,ez _ rfl,rfl,rfl⟩,J.push _⟩ (p _ c) (λi v e=>vN r (by simpa using e)) λf g l=>x _ f g l)
section
variable {X:Cx}
theorem Inv.turnedL{f:List (Addr×Obj)}{i:St}{H:Hp}{s:Shared}{h':Heap}{t':Nat}{ch:List Addr}(I:Inv X f i H s)(k:∀b o,b∉ch->s.heap.get? b=some o->h'.get? b=some o)(h:∀b∈ch,ed X f H b):Inv X f i H {s with heap:=h',toks:=t'}:=by
 have d:∀b u,H b=some u->b∉ch:=λb u e z=>by have:=(h b z).1;rw[e] at this;cases this
 have g:X.env.locals∉ch:=λz=>(h _ z).2.1 rfl
 refine I.step (g':=s.gens) (d':=s.drawn) (ch:=ch) (λb t=>?_) (λb o _ _ a e _=>k b o a e) (λb o _ _ a e _=>⟨o.slots,k b o a e⟩) (λ_ _ _ _ n=>n)
  (λb o a e=>⟨o,k b o a e⟩) (λ_ _ e=>e) (λ_ _ _ e=>e) (λb G e=>⟨#[],by rw[e];simp⟩) (λm l=>?_) (λb u e=>?_) I.bare
 ·obtain⟨E,p,J,w,A,x⟩:=h b t;exact⟨w,p,A,x⟩
 ·obtain⟨o,C,y,j,r⟩:=l;exact⟨o,C,y,k _ o g j,r⟩
 ·refine(I.hok b u e).stay (λc v a q=>k c v ?_ q) (λ_ q=>q) λ_ _ q=>q
  rcases a with z|z
  ·rw[z];exact d b u e
  ·exact d c _ z
end
structure nA (z TI TO i1 i2 t1 t2:Addr):Prop where
 nd:[z,TI,TO,i1,i2].Nodup
 o1:t1∉[z,TI,TO,i1,i2]
 o2:t2∉[z,TI,TO,i1,i2]
structure vA (h:Heap) (z TI TO i1 i2 t1 t2:Addr) (f0:Value) (j:Nat):Prop where
 zip:IsZip h z TI TO f0
 its:IsPair h TI (.ref i1) (.ref i2)
 out:∃a b,IsPair h TO a b
 it1:h.IsTupleIter i1 t1 j
 it2:h.IsTupleIter i2 t2 j
theorem yI(a b c d e x:Addr)(h:[a,b,c,d,e].Nodup):a≠b/\a≠c/\a≠d/\a≠e/\b≠c/\b≠d/\b≠e/\c≠d/\c≠e/\d≠e:=by
 simp at h;obtain⟨⟨i,p,n,l⟩,⟨k,g,j⟩,⟨o,m⟩,f⟩:=h;exact⟨i,p,n,l,k,g,j,o,m,f⟩
section
variable {prog:Program}{w:World}{A:Around}{E:Value->Shared->Prop}{s:Shared}{z:Addr}{TI:Addr}{TO:Addr}{i1:Addr}{i2:Addr}{t1:Addr}{t2:Addr}{xs:Array Value}{ys:Array Value}{j:Nat}
theorem Nl{Q:Fin->Shared->Prop}(hh:A.handled=none)(R:nA z TI TO i1 i2 t1 t2)(Z:vA s.heap z TI TO i1 i2 t1 t2 .none j)(hx:s.heap.IsTuple t1 xs)(hy:s.heap.IsTuple t2 ys)
  (hQ:∀x y,xs[j]?=some x->ys[j]?=some y->∀g,vA g z TI TO i1 i2 t1 t2 (rawInt s.heap.objs.size) (j+1)->IsPair g s.heap.objs.size x y->g.objs.size=s.heap.objs.size+1 ->
   (∀c o,c∉[z,TO,i1,i2]->s.heap.get? c=some o->g.get? c=some o)->Q (.done (.ret (.ref s.heap.objs.size))) {s with heap:=g})
  (hE:xs[j]?=none\/ys[j]?=none->∀ g e,(∀ c o,c∉[z,TO,i1,i2]->s.heap.get? c=some o->g.get? c=some o)->(∃ o,g.get? e=some o/\o.cls=.type "StopIteration")->E (.ref e) { s with heap:=g }):wpAny (model prog w) A (Builtin.«zip.__next__» ⟨[.ref z],[]⟩) Q E s:=by
 obtain⟨n1,J,n3,n4,n5,n6,n7,n8,n9,H⟩:=yI z TI TO i1 i2 0 R.nd;have a1:=R.o1;have a2:=R.o2;simp only[bU,pq,o8,not_or] at a1 a2;obtain⟨p1,p2,p3,p4,p5⟩:=a1;obtain⟨q1,q2,q3,q4,q5⟩:=a2;obtain⟨hz,hI,⟨a,b,hO⟩,k1,k2⟩:=Z;refine(?_:wpAny _ _ (field (.ref z) 2 >>= _) Q E s);refine ab (jG hz rfl (x:=.bool false) rfl (?_:wpAny _ _ (field (.ref z) 3 >>= _) _ _ _));refine ab (jG hz rfl (x:=.ref TI) rfl (ab (pd hI rfl (?_:wpAny _ _ (Builtin.SmallTypes.ownedTupleIsFree (.ref z) >>= _) _ _ _))));refine ab (m:=Builtin.SmallTypes.ownedTupleIsFree (.ref z)) (show wpAny _ _ (field (.ref z) 0 >>= _) _ _ _ from ab (jG hz rfl (x:=.none) rfl (aq ?_)));simp only[h8];refine ab (lW (ab (jG hz rfl (x:=.ref TO) rfl (ab (yY hz (by simp) λg1 b1 n=>?_)))));have l:IsZip g1 z TI TO .ellipsis:=b1;simp only[Oa,List.zipIdx_cons,List.forIn_nil,List.zipIdx_nil];refine ab (ab (ab (wpAny_onRaise (?_:wpAny _ _ (Builtin.SmallTypes.nextOf (.ref i1) >>= _) _ _ _))));refine ab (wa hh (s:={s with heap:=g1}) (k1.extBut n.extBut (cJ n3)) (hx.extBut n.extBut p1) (λx v g2 k3 p=>aq ?_) λv g2 I T he=>?_)
 ·have Y:IsPair g2 TO a b:=p.extBut _ _ n8 (n.extBut _ _ (cJ J) hO);refine ab (pd Y rfl (ab (wpAny_updateSeq_pair (s:={s with heap:=g2}) Y λg3 a7 i=>ab (lX (aq ?_)))));have U:IsPair g3 TO x b:=a7;refine ab (ab (wpAny_onRaise (?_:wpAny _ _ (Builtin.SmallTypes.nextOf (.ref i2) >>= _) _ _ _)));refine ab (wa hh (s:={s with heap:=g3}) (((k2.extBut n.extBut (cJ n4)).extBut p.extBut (cJ H)).extBut i.extBut (cJ n9)) (((hy.extBut n.extBut q1).extBut p.extBut q4).extBut i.extBut q3) (λy C g4 k4 S=>aq ?_) λC g4 I T he=>?_)
  ·have G:IsPair g4 TO x b:=S.extBut _ _ n9 U;refine ab (pd G rfl (ab (wpAny_updateSeq_pair (s:={s with heap:=g4}) G λf a4 r=>ab (lX (aq (aq ?_))))));have u:IsPair f TO x y:=a4;refine ab (pd u rfl (ab (wpAny_newTuple ?_)));have sz:f.objs.size=s.heap.objs.size:=by rw[r.1,S.1,i.1,p.1,n.1]
   have P:IsZip f z TI TO .ellipsis:=r.extBut _ _ J (S.extBut _ _ n4 (i.extBut _ _ J (p.extBut _ _ n3 l)));have kp:∀c o,c∉[z,TO,i1,i2]->s.heap.get? c=some o->f.get? c=some o:=λc o d e=>by
    simp only[bU,pq,o8,not_or] at d;exact r.extBut _ _ d.2.1 (S.extBut _ _ d.2.2.2 (i.extBut _ _ d.2.1 (p.extBut _ _ d.2.2.1 (n.extBut _ _ d.1 e))))
   have m1:f.IsTupleIter i1 t1 (j+1):=((k3.extBut i.extBut (cJ n8)).extBut S.extBut H).extBut r.extBut (cJ n8);have m2:f.IsTupleIter i2 t2 (j+1):=k4.extBut r.extBut (cJ n9);have lz:z<f.objs.size:=cu P;have a6:IsZip (f.push { cls:=.type "tuple",data:=.seq #[x,y] }) z TI TO .ellipsis:=cg _ P
   refine ab (m:=Builtin.SmallTypes.ownedTupleHandOut (.ref z) (.ref f.objs.size)) (ab (yY a6 (by simp) λg7 a9 e7=>?_));have a0:IsZip g7 z TI TO (rawInt f.objs.size):=a9;refine yY a0 (by simp) λg8 b0 e8=>aq ?_
   have t:IsZip g8 z TI TO (rawInt f.objs.size):=b0;have up:∀c o,c≠z->f.get? c=some o->g8.get? c=some o:=λc o d e=>e8.extBut _ _ d (e7.extBut _ _ d (cg _ e))
   have hT:IsPair g8 f.objs.size x y:=e8.extBut _ _ (nS lz) (e7.extBut _ _ (nS lz) (ez _ rfl));have s8:g8.objs.size=f.objs.size+1:=by rw[e8.1,e7.1,nU]
   rw[sz] at t hT s8;have a8:IsPair f TI (.ref i1) (.ref i2):=kp _ _ (by simp[cJ n1,n5,n6,n7]) hI;have a5:=hQ x y v C g8 ⟨t,up _ _ (cJ n1) a8,⟨x,y,up _ _ (cJ J) u⟩,m1.at λo e=>up _ o (cJ n3) e,m2.at λo e=>up _ o (cJ n4) e⟩ hT s8 λc o d e=>up c o (λq=>d (by simp[q])) (kp c o d e)
   show Q (.done (.ret (.ref f.objs.size))) _;rw[sz];exact a5
  ·obtain⟨oe,h,k⟩:=he;have X:IsZip g4 z TI TO .ellipsis:=T _ _ n4 (i.extBut _ _ J (p.extBut _ _ n3 l));have nz:I≠z:=λq=>by rw[q,X] at h;cases h;simp at k
   refine yY X (by simp) λf _ r=>hE (.inr C) f I (λc o d e=>?_) ⟨oe,r.extBut _ _ nz h,k⟩
   simp only[bU,pq,o8,not_or] at d;exact r.extBut _ _ d.1 (T _ _ d.2.2.2 (i.extBut _ _ d.2.1 (p.extBut _ _ d.2.2.1 (n.extBut _ _ d.1 e))))
 ·obtain⟨oe,h,k⟩:=he;have a3:IsZip g2 z TI TO .ellipsis:=T _ _ n3 l;have nz:I≠z:=λq=>by rw[q,a3] at h;cases h;simp at k
  refine yY a3 (by simp) λg3 _ i=>hE (.inl v) g3 I (λc o d e=>?_) ⟨oe,i.extBut _ _ nz h,k⟩
  simp only[bU,pq,o8,not_or] at d;exact i.extBut _ _ d.1 (T _ _ d.2.2.1 (n.extBut _ _ d.1 e))
end
section
variable {prog:Program}{w:World}{A:Around}{E:Value->Shared->Prop}{s:Shared}{z:Addr}{TI:Addr}{TO:Addr}{i1:Addr}{i2:Addr}{t1:Addr}{t2:Addr}{xs:Array Value}{ys:Array Value}{j:Nat}
theorem QM{Q:Option Value->Shared->Prop}(i:A.handled=none)(R:nA z TI TO i1 i2 t1 t2)(Z:vA s.heap z TI TO i1 i2 t1 t2 .none j)(p:s.heap.IsTuple t1 xs)(m:s.heap.IsTuple t2 ys)
  (r:∀x y,xs[j]?=some x->ys[j]?=some y->∀g,vA g z TI TO i1 i2 t1 t2 (rawInt s.heap.objs.size) (j+1)->IsPair g s.heap.objs.size x y->g.objs.size=s.heap.objs.size+1 ->
   (∀c o,c∉[z,TO,i1,i2]->s.heap.get? c=some o->g.get? c=some o)->Q (some (.ref s.heap.objs.size)) {s with heap:=g})
  (h:xs[j]?=none\/ys[j]?=none->∀g,(∀c o,c∉[z,TO,i1,i2]->s.heap.get? c=some o->g.get? c=some o)->Q none {s with heap:=g}):wpAny (model prog w) A (pyNext (.ref z)) Q E s:=by
 have T:s.TypeIs (.ref z) "zip":=⟨_,Z.zip,rfl⟩
 unfold pyNext;refine ab (qt (wpAny_callSpecial?_slot (name:=Str.ofString "__next__") T F.slot_zip_next (li F.slot_zip_next T F.entry_zip_next (Nl i R Z p m (λx y a v g n q t d=>⟨_,rfl,aq (r x y a v g n q t d)⟩) λa g e k u=>?_) (F.args_zip_next_1 _))))
 obtain⟨o,f,l⟩:=u;exact ab (Dw (T:="StopIteration") (b:=true) ⟨o,f,l⟩ isSubtype_stop (aq (h a g k)))
end
def SM(K:Fg) (a b:Addr):It:=
 ⟨λi H=>∃c d x y,bH K H a c/\bH K H b d/\c[i]?=some x/\d[i]?=some y,
  λi H u e=>∃p,H p=none/\u=.ref p/\∀c d x y,bH K H a c->bH K H b d->c[i]?=some x->d[i]?=some y->e=ar H p (.tup [x,y]),
  λi H=>∃c d,bH K H a c/\bH K H b d/\(c.length<=i\/d.length<=i)⟩
theorem Nh{P:Program}{w:World}{K:Fg}{a1:List Expr}{k:Nat}{Y:Pos}{z TI TO p i2 a b:Addr}(R:nA z TI TO p i2 a b):
  jc P w K (.Tuple a1 k Y) (SM K a b) [z,TI,TO,p,i2] z (λi h=>vA h z TI TO p i2 a b .none i) where
 mem:=by simp
 obj:=λi h f c hc=>by
  obtain⟨u,v,G⟩:=f.out;obtain⟨o1,e1,_,d1⟩:=f.it1;obtain⟨o2,n,_,d2⟩:=f.it2;have d:c=z\/c=TI\/c=TO\/c=p\/c=i2:=by simpa using hc
  rcases d with rfl|rfl|rfl|rfl|rfl
  ·exact⟨_,f.zip,λv q=>by cases(show Data.fields _=Data.cell v from q)⟩
  ·exact⟨_,f.its,λv q=>by cases(show Data.seq _ _=Data.cell v from q)⟩
  ·exact⟨_,G,λv q=>by cases(show Data.seq _ _=Data.cell v from q)⟩
  ·exact⟨o1,e1,λv q=>by rw[d1] at q;cases q⟩
  ·exact⟨o2,n,λv q=>by rw[d2] at q;cases q⟩
 keep:=λi h h' f kk=>by
  obtain⟨u,v,G⟩:=f.out;exact⟨kk z (by simp) _ f.zip,kk TI (by simp) _ f.its,⟨u,v,kk TO (by simp) _ G⟩,f.it1.at λo e=>kk p (by simp) o e,f.it2.at λo e=>kk i2 (by simp) o e⟩
 item:=by
  intro X hP hw hK hc i aW s σ H E I hf f hg;subst hP hw hK;obtain⟨xs,ys,x,y,t,r,hx,hy⟩:=hg;obtain⟨l,J,p1,b0⟩:=I.tuple t;obtain⟨j,C,p2,a9⟩:=I.tuple r;obtain⟨u1,a0,b1⟩:=J.get hx;obtain⟨u2,a3,a6⟩:=C.get hy;refine QM (I.ok.hd hc) R f (show s.heap.IsTuple a l.toArray from p1) (show s.heap.IsTuple b j.toArray from p2) (λT U e1 n g Z hT a7 kp=>?_) λe=>?_
  ·have f1:T=u1:=by rw[vq,a0] at e1;exact(fW e1).symm
   have f2:U=u2:=by rw[vq,a3] at n;exact(fW n).symm
   subst f1 f2;refine⟨_,rfl,wpAny_letOwnedTupleGo_zip Z.zip λg2 a8 S=>?_⟩;have a4:∀c∈[z,TI,TO,p,i2],c<s.heap.objs.size:=λc d=>by
    obtain⟨uu,vv,G⟩:=f.out;obtain⟨o1,e1,_⟩:=f.it1;obtain⟨o2,n,_⟩:=f.it2;have a5:c=z\/c=TI\/c=TO\/c=p\/c=i2:=by simpa using d
    rcases a5 with rfl|rfl|rfl|rfl|rfl
    ·exact cu f.zip
    ·exact cu f.its
    ·exact cu G
    ·exact cu e1
    ·exact cu n
   have b2:=a4 z (by simp);have I1:Inv X aW σ (ar H s.heap.objs.size (.tup [x,y])) { s with heap:=s.heap.push { cls:=.type "tuple",data:=.seq #[T,U] },toks:=s.toks }:=
    I.laid (λ_ _ q=>cg _ q) (bj _) ⟨by simp;decide,[T,U],.cons b1 (.cons a6 .nil),⟨_,ez _ rfl,rfl,_,rfl⟩⟩
   have a2:∀c∈[z,TI,TO,p,i2],ed X aW (ar H s.heap.objs.size (.tup [x,y])) c:=λc d=>by
    obtain⟨f0,fr⟩:=hf c d;exact⟨by rw[zo (dF (a4 c d))];exact f0,fr⟩
   have I2:Inv X aW σ (ar H s.heap.objs.size (.tup [x,y])) {s with heap:=g2,toks:=s.toks}:=by
    refine Inv.turnedL (s:={ s with heap:=s.heap.push { cls:=.type "tuple",data:=.seq #[T,U] },toks:=s.toks }) (h':=g2) (t':=s.toks) (ch:=[z,TI,TO,p,i2]) I1 (λc o d q=>?_) a2
    have q':(s.heap.push { cls:=.type "tuple",data:=.seq #[T,U] }).get? c=some o:=q
    have cz:c≠z:=λe=>d (by simp[e])
    rcases Heap.get?_push_cases q' with⟨e1,n⟩|e1
    ·rw[e1,n];exact S.extBut _ _ (nS b2) hT
    ·exact S.extBut _ _ cz (kp c o (λm=>d (by simp at m ⊢;rcases m with m|m|m|m<;>simp[m])) e1)
   obtain⟨d1,d2,d3,d4,_⟩:=yI z TI TO p i2 0 R.nd;obtain⟨uu,vv,G⟩:=Z.out;refine⟨.ref s.heap.objs.size,_,I2,rfl,⟨s.heap.objs.size,I.fresh,rfl,λas bs x' y' ha hb ex ey=>?_⟩,⟨a8,S.extBut _ _ (cJ d1) Z.its,⟨uu,vv,S.extBut _ _ (cJ d2) G⟩,Z.it1.extBut S.extBut (cJ d3),Z.it2.extBut S.extBut (cJ d4)⟩,λc d=>(a2 c d).1⟩;rw[I.tuple_inj ha t,hx] at ex;rw[I.tuple_inj hb r,hy] at ey;cases ex;cases ey
   rfl
  ·rcases e with e|e
   ·rw[vq,a0] at e;cases e
   ·rw[vq,a3] at e;cases e
 done:=by
  intro X hP hw hK hc i aW s σ H E I hf f hg;subst hP hw hK;obtain⟨xs,ys,t,r,hl⟩:=hg;obtain⟨l,J,p1,b0⟩:=I.tuple t;obtain⟨j,C,p2,a9⟩:=I.tuple r;have l1:=J.length;have l2:=C.length;refine QM (I.ok.hd hc) R f (show s.heap.IsTuple a l.toArray from p1) (show s.heap.IsTuple b j.toArray from p2) (λT U e1 n g Z hT a7 kp=>?_) λ_ g kp=>⟨rfl,I.turnedL (t':=s.toks) (ch:=[z,TI,TO,p,i2]) (λc o d e=>kp c o (λm=>d (by simp at m ⊢;rcases m with m|m|m|m<;>simp[m])) e) hf⟩
  rw[vq] at e1 n;have g1:=(cn.mp e1).1;have g2:=(cn.mp n).1;lia
 self:=λA i s Q E f h=>wpAny_pyIter_zip f.zip h
noncomputable abbrev mR(l:Addr):Obj:={ cls:=.type "tuple_iterator",data:=.fields #[.ref l,.int 0 0] }
noncomputable abbrev two(a b:Value):Obj:={ cls:=.type "tuple",data:=.seq #[a,b] }
noncomputable abbrev wf(a b:Addr):Obj:={ cls:=.type "zip",data:=.fields #[.none,.bool false,.bool false,.ref a,.ref b] }
abbrev nl(h:Heap) (a:Addr):Heap:=h.push (mR a)
abbrev nk(h:Heap) (a b:Addr):Heap:=(nl h a).push (mR b)
abbrev nj(h:Heap) (a b:Addr):Heap:=(nk h a b).push (two (.ref h.objs.size) (.ref (nl h a).objs.size))
abbrev nh(h:Heap) (a b:Addr):Heap:=(nj h a b).push (two .none .none)
abbrev j7(h:Heap) (a b:Addr):Heap:=(nh h a b).push (wf (nk h a b).objs.size (nj h a b).objs.size)
theorem Nk(a b:Addr)(xs ys:Array Value):
  Meets (Builtin.«zip.__new__» ⟨[.type "zip",.ref a,.ref b],[]⟩) (λ_ R s=>s.heap.IsTuple a xs/\s.heap.IsTuple b ys/\R (.ok (.ret (.ref (nh s.heap a b).objs.size))) { s with heap:=j7 s.heap a b }):=
 .of_wp λj w A R s h=>by
  obtain⟨i,g,d,f,os⟩:=s;obtain⟨k,l,h⟩:=h;have sub:=sub_zip;have c:Heap.IsTuple (Shared.heap ⟨i,g,d,f,os⟩) a xs:=k;have e:Heap.IsTuple (Shared.heap ⟨i.push (mR a),g,d,f,os⟩) b ys:=l.push _
  wp_walk using sS c,sS e
  exact⟨_,rfl,h⟩
theorem Qx{n b a:Nat}(f:b<n)(e:a<n):nA (n+4) (n+2) (n+3) n (n+1) b a/\∀c∈[n+4,n+2,n+3,n,n+1],n<=c:=
 have q:∀{l:Nat},l<n->l∉[n+4,n+2,n+3,n,n+1]:=λ{l} h m=>by
  simp only[bU,pq,o8] at m;lia
 ⟨⟨by simp,q f,q e⟩,λc d=>by simp at d;lia⟩
theorem Nr{s:Shared}(p:s.heap.IsTuple l1 xs)(q:s.heap.IsTuple l2 ys)
  (h:∀g z TI TO i d,nA z TI TO i d l1 l2->vA g z TI TO i d l1 l2 .none 0->(∀c∈[z,TI,TO,i,d],s.heap.objs.size<=c) ->
   (∀ c o,s.heap.get? c=some o->g.get? c=some o)->Q (.ref z) { s with heap:=g }):wpAny (model prog w) A (call (.type "zip") [.ref l1,.ref l2]) Q E s:=by
 have b:l1<s.heap.objs.size:=by obtain⟨_,e,_⟩:=p;exact cu e
 have a:l2<s.heap.objs.size:=by obtain⟨_,e,_⟩:=q;exact cu e
 refine callType_new F.called_zip (by decide) (F.typeCall_zip_2 _ _) (F.newCall_zip_2 _ _) (λm=>F.args_object_init_3 m _ _) F.entry_zip_new (Nk l1 l2 xs ys) ⟨p,q,?_⟩;have k:(nl s.heap l1).objs.size=s.heap.objs.size+1:=nU ..
 have f:(nk s.heap l1 l2).objs.size=s.heap.objs.size+2:=(nU ..).trans (by rw[k]);have l:(nj s.heap l1 l2).objs.size=s.heap.objs.size+3:=(nU ..).trans (by rw[f]);have n:(nh s.heap l1 l2).objs.size=s.heap.objs.size+4:=(nU ..).trans (by rw[l]);have r:(j7 s.heap l1 l2).get? (nh s.heap l1 l2).objs.size=some _:=ez _ rfl;have t:(j7 s.heap l1 l2).get? (nj s.heap l1 l2).objs.size=some _:=cg _ (ez _ rfl);have u:(j7 s.heap l1 l2).get? (nk s.heap l1 l2).objs.size=some _:=cg _ (cg _ (ez _ rfl));have x:(j7 s.heap l1 l2).get? (nl s.heap l1).objs.size=some _:=cg _ (cg _ (cg _ (ez _ rfl)));have v:(j7 s.heap l1 l2).get? s.heap.objs.size=some _:=cg _ (cg _ (cg _ (cg _ (ez _ rfl))));have j:=h (j7 s.heap l1 l2) (nh s.heap l1 l2).objs.size (nk s.heap l1 l2).objs.size (nj s.heap l1 l2).objs.size s.heap.objs.size (nl s.heap l1).objs.size
  (by rw[n,l,f,k];exact(Qx b a).1) ⟨r,u,⟨_,_,t⟩,⟨_,v,rfl,rfl⟩,⟨_,x,rfl,rfl⟩⟩
  (by rw[n,l,f,k];exact(Qx b a).2) λc o e=>cg _ (cg _ (cg _ (cg _ (cg _ e))))
 exact⟨⟨_,r,rfl⟩,j⟩
def Pq(K:Fg) (d:TA):TI:=λf H R=>d f H λe H1=>∃a b,e=[.ref a,.ref b]/\(∃c,bH K H1 a c)/\(∃c,bH K H1 b c)/\R (SM K a b) H1
section
variable {X:Cx}
theorem IC{f:List Expr}{k:Nat}{d p l:Pos}{a b:Expr}{t:TA}(x:Gl X "zip")(v:X.mg "zip"=none)(T:PA X [a,b] t)
  (P:starEach [a,b] X.env=[(false,eval a X.env),(false,eval b X.env)]:=by rfl)(m:starEach [b] X.env=[(false,eval b X.env)]:=by rfl):
  PI X (.Tuple f k d) (.Call (.Name "zip" p) [a,b] [] l) (Pq X.K t):=by
 intro aW s S H R I h;refine Call_ (lQ I x v PyProof.Rows.boot_zip (sX (bi (T l aW s S H _ I h) λus r ⟨vs,H1,o,U,Q⟩=>?_) (by rw[P,m]) (by rw[m];rfl)));obtain⟨a,b,e,⟨xs,hx⟩,⟨ys,Y⟩,q⟩:=Q;subst e;obtain⟨u1,u2,rfl,A,G⟩:=vals2 U;cases A;cases G;obtain⟨i,a2,E,a0⟩:=o.tuple hx;obtain⟨j,C,y,a1⟩:=o.tuple Y;refine Nr (show r.heap.IsTuple a i.toArray from E) (show r.heap.IsTuple b j.toArray from y) λg z TI TO i1 J R Z n w=>?_
 refine wpAny_pyIter_zip Z.zip ?_;exact⟨z,[z,TI,TO,i1,J],_,_,H1,rfl,o.kept (t':=r.toks) w,Nh R,Z,λc u=>o.fpOk (n c u) (o.hok.fresh (n c u)),q⟩
end
end L2
namespace Dd
open L2
set_option genInjectivity true in
inductive D where
 |non|bl (b:Bool)|int (i:Int)|str (x:Str)|ty (n:String)|ref (n:Nat)|tup (ds:List D)|lst (ds:List D)|scr (ds:List D)|exn (c:Str) (l:List Int)
set_option genInjectivity true in
inductive O where
 |lst (xs:List D)|dT (kvs:List (List Int×D))|fT (kvs:List (List Int×D))|dead
 |dI (kvs:List (Int×D))
 |dP (ks:List (List (List Int)))
 |tab
noncomputable abbrev aa:=List O
structure SQ where
 cls:Str
 at_:List Int
set_option genInjectivity true in
inductive bJ (α:Type) where
 |ok (a:α) (au:aa)|exc (x:SQ) (au:aa)|stuck
def bJ.bind{c b:Type}:bJ c->(c->aa->bJ b)->bJ b
 |.ok a au,f=>f a au
 |.exc x au,_=>.exc x au
 |.stuck,_=>.stuck
@[simp] theorem zw {b c:Type}(a:b) (au:aa) (f:b->aa->bJ c):(bJ.ok a au).bind f=f a au:=rfl
@[simp] theorem VM {a b:Type}(x:SQ) (au:aa) (f:a->aa->bJ b):(bJ.exc x au:bJ a).bind f=.exc x au:=rfl
@[simp] theorem VV {a b:Type}(f:a->aa->bJ b):(bJ.stuck:bJ a).bind f=.stuck:=rfl
theorem za{e d:Type}{r:bJ e}{f:e->aa->bJ d}{b:d}{st':aa}(h:r.bind f=.ok b st'):∃a c,r=.ok a c/\f a c=.ok b st':=by
 cases r with
 |ok a c=>exact⟨a,c,rfl,h⟩
 |exc x c=>cases h
 |stuck=>cases h
noncomputable abbrev DS:=List (Option D)
abbrev SE:=DS->aa->bJ D
abbrev ST:=DS->aa->bJ Bool
abbrev SA:=DS->aa->bJ (List D)
set_option genInjectivity true in
inductive Fl where
 |nx (σ:DS)|ret (v:D)|brk (σ:DS)|ct (σ:DS)
abbrev SS:=DS->aa->bJ Fl
abbrev da:=List D->aa->bJ D
structure Loc where
 m:List (Option Addr)
 g:List Addr
def ew(b:Loc) (a:Addr):Prop:=some a∉b.m/\a∉b.g
def Ls(K:Fg) (d:Loc) (H:Hp) (a:Addr) (b:List V):Prop:=(Rd H a (.lst b)/\ew d a)\/∀c:Hp,du K c a b
def Ef(K:Fg) (e:Loc) (H:Hp) (c:Str) (l:List Int) (a:Addr):Prop:=∃C o,W.nsIn K mainGlobals c=some (some (.ref C))/\(H a=some (.frz o (.ext λ_=>True))/\ew e a)/\o.cls=.ref C/\(∃d,o.data=.fields d/\d[2]?=some .none) /\
 ((l=[]/\o.dict=none)\/∃ i b f,l=[i]/\o.dict=some b/\H b=some (.frz f (.xd [("at",.int i)]))/\ew e b)
theorem Ef.map{K:Fg}(h:Ef K ρ H c l a)(f:∀b j u,H b=some (.frz j u)->ew ρ b->H' b=some (.frz j u)/\ew ρ' b):Ef K ρ' H' c l a:=by
 obtain⟨C,o,n,k,s,r,d⟩:=h;refine⟨C,o,n,f _ _ _ k.1 k.2,s,r,?_⟩;rcases d with d|⟨i,t,q,m,p,e,g⟩
 ·exact .inl d
 ·exact .inr ⟨i,t,q,m,p,(f _ _ _ e g).1,(f _ _ _ e g).2⟩
mutual
inductive At (K:Fg) (ρ:Loc) (H:Hp):D->V->Prop
 |non:At K ρ H .non .non
 |bl (b:Bool):At K ρ H (.bl b) (.bl b)
 |int (i:Int):At K ρ H (.int i) (.int i)
 |str (x:Str):At K ρ H (.str x) (.str x)
 |ty (n:String):At K ρ H (.ty n) (.ty n)
 |ref {n:Nat}{v:V}:n < ρ.m.length->(∀a,ρ.m[n]?=some (some a)->v=.ref a)->At K ρ H (.ref n) v
 |tup {a:Addr}{ds:List D}{vs:List V}:H a=some (.tup vs)->ew ρ a->ae K ρ H ds vs->At K ρ H (.tup ds) (.ref a)
 |lst {a:Addr}{ds:List D}{vs:List V}:H a=some (.lst vs)->ew ρ a->ae K ρ H ds vs->At K ρ H (.lst ds) (.ref a)
 |scr {a:Addr}{ds:List D}{vs:List V}:Ls K ρ H a vs->ae K ρ H ds vs->At K ρ H (.scr ds) (.ref a)
 |exn {c:Str}{l:List Int}{a:Addr}:Ef K ρ H c l a->At K ρ H (.exn c l) (.ref a)
inductive ae (K:Fg) (ρ:Loc) (H:Hp):List D->List V->Prop
 |nil:ae K ρ H [] []
 |cons {d:D}{ds:List D}{v:V}{vs:List V}:At K ρ H d v->ae K ρ H ds vs->ae K ρ H (d::ds) (v::vs)
end
structure Mv (ρ:Loc) (H:Hp) (ρ':Loc) (H':Hp):Prop where
 out:∀{a:Addr}{o:HO},H a=some o->ew ρ a->H' a=some o/\ew ρ' a
 len:ρ.m.length<=ρ'.m.length
 old:∀(n:Nat) (a:Addr),n < ρ.m.length->ρ'.m[n]?=some (some a)->ρ.m[n]?=some (some a)
theorem Ls.mv{K:Fg}(x:Mv ρ H ρ' H')(h:Ls K ρ H a vs):Ls K ρ' H' a vs:=by
 rcases h with⟨h|⟨o,h⟩,n⟩|h
 ·exact .inl ⟨.inl (x.out h n).1,(x.out h n).2⟩
 ·exact .inl ⟨.inr ⟨o,(x.out h n).1⟩,(x.out h n).2⟩
 ·exact .inr h
theorem At.mv{K:Fg}(x:Mv ρ H ρ' H') (h:At K ρ H d v):At K ρ' H' d v:=
 At.rec (motive_1:=λd v _=>At K ρ' H' d v) (motive_2:=λd v _=>ae K ρ' H' d v) .non .bl .int .str .ty (λh e=>.ref (dq h x.len) λa q=>e a (x.old _ a h q)) (λh n _ c=>.tup (x.out h n).1 (x.out h n).2 c) (λh n _ c=>.lst (x.out h n).1 (x.out h n).2 c) (λh _ c=>.scr (h.mv x) c) (λh=>.exn (h.map λ_ _ _ e n=>x.out e n)) .nil (λ_ _ a b=>.cons a b) h
theorem ae.mv{K:Fg}(x:Mv ρ H ρ' H') (h:ae K ρ H d v):ae K ρ' H' d v:=
 ae.rec (motive_1:=λ_ _ _=>True) (motive_2:=λd v _=>ae K ρ' H' d v) trivial (λ_=>trivial) (λ_=>trivial) (λ_=>trivial) (λ_=>trivial) (λ_ _=>trivial) (λ_ _ _ _=>trivial) (λ_ _ _ _=>trivial) (λ_ _ _=>trivial) (λ_=>trivial) .nil (λa _ _ b=>.cons (a.mv x) b) h
structure bp (ρ:Loc) (H:Hp) (ρ':Loc) (H':Hp):Prop where
 len:ρ.m.length<=ρ'.m.length
 old:∀(n:Nat) (a:Addr),n < ρ.m.length->ρ'.m[n]?=some (some a)->ρ.m[n]?=some (some a)
 keep:∀a o,H a=some o->some a∉ρ.m->H' a=some o/\some a∉ρ'.m
 gho:ρ'.g=ρ.g
 frz:∀a ob u,H a=some (.frz ob u)->H' a=some (.frz ob u)
theorem bp.out(x:bp ρ H ρ' H') (h:H a=some o)(n:ew ρ a):H' a=some o/\ew ρ' a:=
 ⟨(x.keep a o h n.1).1,(x.keep a o h n.1).2,by rw[x.gho];exact n.2⟩
theorem bp.mv(x:bp ρ H ρ' H'):Mv ρ H ρ' H':=⟨λh n=>x.out h n,x.len,x.old⟩
theorem Ls.sq{K:Fg}(h:Ls K ρ H a vs):du K H a vs:=by
 rcases h with h|h
 ·exact .inl h.1
 ·exact h H
theorem bp.refl(a:Loc)(H:Hp):bp a H a H:=⟨bj _,λ_ _ _ e=>e,λ_ _ e n=>⟨e,n⟩,rfl,λ_ _ _ e=>e⟩
theorem bp.trans(a:bp ρ H ρ1 H1)(b:bp ρ1 H1 ρ2 H2):bp ρ H ρ2 H2:=
 ⟨ay a.len b.len,λn c h e=>a.old n c h (b.old n c (dq h a.len) e),λc o e n=>by
  obtain⟨f,g⟩:=a.keep c o e n
  exact b.keep c o f g,b.gho.trans a.gho,λc d u e=>b.frz c d u (a.frz c d u e)⟩
theorem At.ext{K:Fg}(x:bp ρ H ρ' H') (h:At K ρ H d v):At K ρ' H' d v:=h.mv x.mv
theorem ae.ext{K:Fg}(x:bp ρ H ρ' H') (h:ae K ρ H d v):ae K ρ' H' d v:=h.mv x.mv
theorem ae.length{K:Fg}:∀{a:List D}{b:List V},ae K ρ H a b->b.length=a.length
 |_,_,.nil=>rfl
 |_,_,.cons _ t=>by rw[dN,dN,ae.length t]
theorem ae.get{K:Fg}:∀{b:List D}{c:List V}{i:Nat}{d:D},ae K ρ H b c->b[i]?=some d->∃v,c[i]?=some v/\At K ρ H d v
 |_,_,_,_,.nil,e=>by simp at e
 |_,_,0,_,.cons a _,e=>by simp at e;subst e;exact⟨_,rfl,a⟩
 |_,_,i+1,d,.cons _ t,e=>by
  obtain⟨u,f,g⟩:=ae.get (i:=i) (d:=d) t (by simpa using e);exact⟨u,by simpa using f,g⟩
theorem ae.append{K:Fg}:∀{c d:List D}{e f:List V},ae K ρ H c e->ae K ρ H d f->ae K ρ H (c++d) (e++f)
 |_,_,_,_,.nil,b=>b
 |_,_,_,_,.cons a t,b=>.cons a (ae.append t b)
theorem ae.take{K:Fg}:∀{b:List D}{c:List V}(n:Nat),ae K ρ H b c->ae K ρ H (b.take n) (c.take n)
 |_,_,0,_=>.nil
 |_,_,_+1,.nil=>.nil
 |_,_,n+1,.cons a t=>.cons a (ae.take n t)
theorem ae.drop{K:Fg}:∀{b:List D}{c:List V}(n:Nat),ae K ρ H b c->ae K ρ H (b.drop n) (c.drop n)
 |_,_,0,h=>h
 |_,_,_+1,.nil=>.nil
 |_,_,n+1,.cons a t=>ae.drop n t
theorem ae.set{K:Fg}(a:At K ρ H d v):∀{c:List D}{e:List V}(n:Nat),ae K ρ H c e->ae K ρ H (c.set n d) (e.set n v)
 |_,_,_,.nil=>.nil
 |_,_,0,.cons _ t=>.cons a t
 |_,_,n+1,.cons b t=>.cons b (ae.set a n t)
def dQ(K:Fg) (a:Loc) (H:Hp):List (List Int×D)->List (List cI×V)->Prop:=Paired λp q=>q.1=p.1.map Sum.inl/\At K a H p.2 q.2
theorem dQ.ext{K:Fg}(x:bp ρ H ρ' H') (h:dQ K ρ H a b):dQ K ρ' H' a b:=Paired.mapP h λp q z=>⟨z.1,z.2.ext x⟩
noncomputable abbrev Pn:Str:=(("law" : Str)++".<locals>.")++"<lambda>"
def kN(H:Hp) (d:Array Value):Prop:=TriplesOk d.toList/\∀a b,codeAmong a d.toList=some b->∃c e f t,b=.ref c/\H c=some (.frz e (.ext λ_=>True))/\e.data=.fields f/\f[1]?=some (.str Pn t)
theorem kN.map(h:kN H ps)(f:∀b d u,H b=some (.frz d u)->H' b=some (.frz d u)):kN H' ps:=
 ⟨h.1,λa j e=>by obtain⟨c,k,m,t,l,g,i⟩:=h.2 a j e;exact⟨c,k,m,t,l,f _ _ _ g,i⟩⟩
def eH(K:Fg) (a:Loc) (H:Hp):List (Int×D)->List (cI×V)->Prop:=Paired λp q=>q.1=Sum.inl p.1/\At K a H p.2 q.2
theorem eH.ext{K:Fg}(x:bp ρ H ρ' H') (h:eH K ρ H a b):eH K ρ' H' a b:=Paired.mapP h λp q z=>⟨z.1,z.2.ext x⟩
noncomputable def BK(a:Addr) (d:List DictEntry):Heap->Prop:=λh=>∃o b c,h.get? a=some o/\o.ExactDict/\o.data=.dict b c/\b.toList=d
noncomputable def Bz(k:List (List Int)):Int:=reduceHash (Builtin.Tuple.tupleHashOf (k.map λr=>reduceHash (Builtin.Tuple.tupleHashOf (r.map hashInt))))
noncomputable def AO(k:List (List Int)):D:=.tup (k.map λr=>.tup (r.map .int))
def pX(K:Fg) (a:Loc) (H:Hp):List (List (List Int))->List DictEntry->Prop:=Paired λk e=>e.hash=Bz k/\e.val=.bool true/\∃b,e.key=.ref b/\At K a H (AO k) (.ref b)
theorem pX.map{K:Fg}(k:∀d v,At K ρ H d v->At K ρ' H' d v) (h:pX K ρ H a b):pX K ρ' H' a b:=Paired.mapP h λp q ⟨f,i,c,g,e⟩=>⟨f,i,c,g,k _ _ e⟩
def lM(K:Fg) (d:Loc) (H:Hp):O->Addr->Prop
 |.lst xs,a=>∃b,H a=some (.lst b)/\ae K d H xs b
 |.dT kvs,a=>∃b,H a=some (.dT b)/\dQ K d H kvs b
 |.fT kvs,a=>∃b g,H a=some (.frz g (.dT b))/\dQ K d H kvs b
 |.dI kvs,a=>∃b,H a=some (.dK b)/\eH K d H kvs b
 |.dP ks,a=>∃f,H a=some (.ext (BK a f))/\(a==sysModules)=false/\ks.length<=sizeLine/\ks.Nodup/\pX K d H ks f
 |.dead,_=>False
 |.tab,a=>(∃ c,W.tabIn K "law"=some (c,a))/\∃ e,H a=some (.tbl e)/\kN H e
structure bP (K:Fg) (ρ:Loc) (au:aa) (H:Hp):Prop where
 len:ρ.m.length=au.length
 inj:∀(n m:Nat) (a:Addr),ρ.m[n]?=some (some a)->ρ.m[m]?=some (some a)->n=m
 obj:∀(n:Nat) (a:Addr) (o:O),ρ.m[n]?=some (some a)->au[n]?=some o->lM K ρ H o a
 gh:∀a∈ρ.g,(∃vs,H a=some (.lst vs))/\some a∉ρ.m
 live:∀(n:Nat) (o:O),au[n]?=some o->o≠.dead->∃a,ρ.m[n]?=some (some a)
def Wo(K:Fg) (a:Loc) (H:Hp) (o:Option D) (v:Option V):Prop:=∀d,o=some d->∃u,v=some u/\At K a H d u
abbrev dm(K:Fg) (a:Loc) (H:Hp):DS->St->Prop:=Paired (Wo K a H)
theorem dm.ext{K:Fg}(x:bp ρ H ρ' H') (h:dm K ρ H σ τ):dm K ρ' H' σ τ:=Paired.mapP h λo v z d e=>by
 obtain⟨u,b,a⟩:=z d e;exact⟨u,b,a.ext x⟩
theorem dm.get{K:Fg}:∀{c:DS}{b:St}{i:Nat}{d:D},dm K ρ H c b->c[i]?=some (some d)->∃u,b[i]?=some (some u)/\At K ρ H d u
 |_,_,_,_,.nil,e=>by simp at e
 |_,_,0,_,.cons a _,e=>by
  simp at e;subst e
  obtain⟨u,g,h⟩:=a _ rfl;exact⟨u,by simp[g],h⟩
 |_,_,i+1,d,.cons _ t,e=>by
  obtain⟨u,j,f⟩:=dm.get (i:=i) (d:=d) t (by simpa using e);exact⟨u,by simpa using j,f⟩
theorem dm.set{K:Fg}(a:At K ρ H d v):∀{c:DS}{b:St}(i:Nat),dm K ρ H c b->dm K ρ H (c.set i (some d)) (b.set i (some v))
 |_,_,_,.nil=>.nil
 |_,_,0,.cons _ t=>.cons (λf e=>by cases e;exact⟨v,rfl,a⟩) t
 |_,_,i+1,.cons q t=>.cons q (dm.set a i t)
def tD(K:Fg) (f:SE):TE:=λh H Q=>∃d g e v b,dm K d H g h/\bP K d e H/\f g e=.ok v b/\∀a c u,bp d H a c->bP K a b c->At K a c v u->Q u c
def oh(K:Fg) (f:ST):TT:=λh H Q=>∃c g e v a,dm K c H g h/\bP K c e H/\f g e=.ok v a/\∀b d,bp c H b d->bP K b a d->Q v d
def O6(K:Fg) (f:SA):TA:=λh H Q=>∃d g e v b,dm K d H g h/\bP K d e H/\f g e=.ok v b/\∀a c u,bp d H a c->bP K a b c->ae K a c v u->Q u c
def p0(K:Fg) (e:Loc) (H:Hp) (c:aa) (E:lN):Fl->Prop
 |.nx σ=>∀a b d,bp e H a b->bP K a c b->dm K a b σ d->E.nx d b
 |.brk σ=>∀a b d,bp e H a b->bP K a c b->dm K a b σ d->E.bk d b
 |.ct σ=>∀a b d,bp e H a b->bP K a c b->dm K a b σ d->E.ct d b
 |.ret v=>∀a b u,bp e H a b->bP K a c b->At K a b v u->E.rt u b
theorem p0.ext{K:Fg}(x:bp ρ H ρ1 H1)(h:p0 K ρ H st' E fl):p0 K ρ1 H1 st' E fl:=by
 cases fl with
 |nx σ=>exact λa c b e=>h a c b (x.trans e)
 |brk σ=>exact λa c b e=>h a c b (x.trans e)
 |ct σ=>exact λa c b e=>h a c b (x.trans e)
 |ret v=>exact λa c b e=>h a c b (x.trans e)
def Ea(K:Fg) (f:SS):TS:=λE g H=>∃b e d c a,dm K b H e g/\bP K b d H/\f e d=.ok c a/\p0 K b H a E c
abbrev DE(X:Cx) (e:Expr) (f:SE):Prop:=PE X e (tD X.K f)
abbrev DT(X:Cx) (e:Expr) (f:ST):Prop:=PT X e (oh X.K f)
abbrev DW(X:Cx) (e:Expr) (f:ST):Prop:=PW X e (oh X.K f)
abbrev DA(X:Cx) (a:List Expr) (f:SA):Prop:=PA X a (O6 X.K f)
abbrev jN(X:Cx) (s:Stmt) (f:SS):Prop:=PS X s (Ea X.K f)
abbrev nE(X:Cx) (s:List Stmt) (f:SS):Prop:=jC X s (Ea X.K f)
theorem fG(h:PE X e t)(k:∀a H Q,t' a H Q->t a H Q):PE X e t':=λb s a H Q I q=>h b s a H Q I (k _ _ _ q)
theorem jV(h:PT X e t)(k:∀a H Q,t' a H Q->t a H Q):PT X e t':=λb s a H Q I q=>h b s a H Q I (k _ _ _ q)
theorem qQ(h:PW X e t)(k:∀a H Q,t' a H Q->t a H Q):PW X e t':=λc b s a H Q I q=>h c b s a H Q I (k _ _ _ q)
theorem wL(h:PA X es t)(k:∀a H Q,t' a H Q->t a H Q):PA X es t':=λb c s a H Q I q=>h b c s a H Q I (k _ _ _ q)
theorem nJ(h:PS X s t)(k:∀E a H,t' E a H->t E a H):PS X s t':=λb z a H E I q=>h b z a H E I (k _ _ _ q)
theorem xI(h:jC X ss t)(k:∀E a H,t' E a H->t E a H):jC X ss t':=λb z a H E I q=>h b z a H E I (k _ _ _ q)
def aA(i:Nat):SE:=λb a=>match b[i]? with
 |some (some d)=>.ok d a
 |_=>.stuck
def eC(d:D):SE:=λ_ a=>.ok d a
theorem F9(h:PE X e (pL i)):DE X e (aA i):=fG h λl H Q b=>by
 obtain⟨g,n,m,v,f,a,r,e,q⟩:=b;unfold aA at e;split at e
 ·rename_i d j;cases e;obtain⟨u,k,c⟩:=a.get j;exact⟨u,k,q g H u (.refl _ _) r c⟩
 ·cases e
theorem rG(h:PE X e (tC v))(k:∀b H,At X.K b H d v):DE X e (eC d):=fG h λg H Q c=>by
 obtain⟨b,j,i,v,f,a,r,e,q⟩:=c;cases e;exact q b H _ (.refl _ _) r (k _ _)
theorem F3{i j pos}:DE X (.Constant (.int i) j pos) (eC (.int i)):=rG Ir λ_ _=>.int i
theorem PK{b j pos}:DE X (.Constant (.bool b) j pos) (eC (.bl b)):=rG Gv λ_ _=>.bl b
def aU(g:D->D->aa->bJ D) (f d:SE):SE:=λc e=>(f c e).bind λx b=>(d c b).bind λy a=>g x y a
def qT(g:D->aa->bJ D) (f:SE):SE:=λc b=>(f c b).bind λx a=>g x a
def iL(K:Fg) (g:D->D->aa->bJ D) (r:R2):Prop:=
 ∀c H e x y u v z b (Q:VK),bP K c e H->At K c H x u->At K c H y v->g x y e=.ok z b->(∀a d w,bp c H a d->bP K a b d->At K a d z w->Q w d)->r u v H Q
theorem oU{K:Fg}(I:iL K g r):∀n H Q,tD K (aU g f f') n H Q->zN r (tD K f) (tD K f') n H Q:=λn H Q j=>by
 obtain⟨T,s,R,v,k,a,C,e,q⟩:=j;obtain⟨x,c,E,e⟩:=za e;obtain⟨y,b,J,e⟩:=za e;refine⟨T,s,R,x,c,a,C,E,λl H1 u t m U=>?_⟩;refine⟨l,s,c,y,b,a.ext t,m,J,λo H2 w p h P=>?_⟩;exact I o H2 b x y u w v k Q h (U.ext p) P e λi G z S d A=>q i G z (t.trans (p.trans S)) d A
theorem PD(c:dH X (binaryOp op) r)(d:iL X.K g r)(e:DE X a f)(h:DE X b f'):DE X (.BinOp a op b pos) (aU g f f'):=fG (Gx c e h) (oU d)
theorem F0(c:dH X (compareOp op) r)(d:iL X.K g r)(e:DE X a f)(i:DE X b f')(h:behindInMarks op b=false):DE X (.Compare a [op] [b] pos) (aU g f f'):=fG (KB c e i h) (oU d)
def eB(f:SE):ST:=λd c=>(f d c).bind λv a=>match v with
 |.bl b=>.ok b a
 |_=>.stuck
theorem tQ{K:Fg}:∀g H Q,oh K (eB f) g H Q->tD K f g H λx H1=>∃c,x=.bl c/\Q c H1:=λg H Q b=>by
 obtain⟨k,r,p,v,j,a,n,e,q⟩:=b;obtain⟨x,h,o,e⟩:=za e;refine⟨k,r,p,x,h,a,n,o,λm H1 u i d l=>?_⟩;cases x<;>try (cases e;done)
 cases e;cases l;exact⟨_,rfl,q _ _ i d⟩
theorem Hq(c:dH X (compareOp op) r)(d:iL X.K g r)(e:DE X a f)(j:DE X b f')(i:behindInMarks op b=false):DT X (.Compare a [op] [b] pos) (eB (aU g f f')):=
 jV (KW c e j i) λk H Q h=>oU d _ _ _ (tQ _ _ _ h)
def hJ(g j:D->D->aa->bJ D) (f i b:SE):SE:=λh k=>(f h k).bind λx d=>(i h d).bind λy c=>(g x y c).bind λz a=>match z with
 |.bl true=>(b h a).bind λw e=>j y w e
 |.bl false=>.ok (.bl false) a
 |_=>.stuck
theorem Jn{K:Fg}(hr:iL K g r)(R:iL K g' r'):∀J H Q,tD K (hJ g g' f f' f'') J H Q->mS r r' (tD K f) (tD K f') (tD K f'') J H Q:=λJ H Q p=>by
 obtain⟨ρ,s,au,v,A,a,rp,e,q⟩:=p;obtain⟨x,k,e1,e⟩:=za e;obtain⟨y,d,e2,e⟩:=za e;obtain⟨z,i,e3,e⟩:=za e;refine⟨ρ,s,au,x,k,a,rp,e1,λE H1 u X I a1=>?_⟩;refine⟨E,s,k,y,d,a.ext X,I,e2,λP H2 w S n U=>?_⟩;refine hr P H2 d x y u w z i _ n (a1.ext S) U e3 λj H3 T Y c a3=>?_
 have C:=X.trans (S.trans Y);cases z<;>try (cases e;done)
 rename_i b;cases a3;refine⟨b,rfl,?_⟩;cases b with
 |true=>
  obtain⟨t,h,e4,e⟩:=za e;rw[if_pos rfl];refine⟨j,s,i,t,h,a.ext C,c,e4,λG H4 tt x4 l a4=>?_⟩;exact R G H4 h y t w tt v A Q l (U.ext (Y.trans x4)) a4 e λo H' T x5 m a5=>q o H' T (C.trans (x4.trans x5)) m a5
 |false=>
  cases e;rw[if_neg (by decide)];exact q j H3 _ C c (.bl false)
theorem bp.new(a:H p=none)(o:HO):bp ρ H ρ (ar H p o):=⟨bj _,λ_ _ _ e=>e,λb u e m=>⟨by rw[zo (zp e a)];exact e,m⟩,rfl,λb c u e=>by rw[zo (zp e a)];exact e⟩
section
variable {H:Hp}{a:Addr}
theorem qg{c:List V}(h:H a=some (.lst c)):∀b u,H a≠some (.frz b u):=λb u z=>by rw[h] at z;cases z
theorem qc{c:List (List cI×V)}(h:H a=some (.dT c)):∀b u,H a≠some (.frz b u):=λb u z=>by rw[h] at z;cases z
end
theorem bp.wr{c:Loc}{n:Nat}(h:c.m[n]?=some (some a))(f:∀d u,H a≠some (.frz d u))(o:HO):bp c H c (ar H a o):=⟨bj _,λ_ _ _ e=>e,λb u e m=>⟨by
 rw[zo]
 ·exact e
 ·rintro rfl
  exact m (db h),m⟩,rfl,λb d u e=>by
 rw[zo]
 ·exact e
 ·rintro rfl
  exact f _ _ e⟩
theorem lM.has{K:Fg}(h:lM K ρ H x a):∃u,H a=some u:=by
 cases x with
 |lst xs=>obtain⟨b,e,_⟩:=h;exact⟨_,e⟩
 |dT kvs=>obtain⟨b,e,_⟩:=h;exact⟨_,e⟩
 |fT kvs=>obtain⟨b,c,e,_⟩:=h;exact⟨_,e⟩
 |dI kvs=>obtain⟨b,e,_⟩:=h;exact⟨_,e⟩
 |dP ks=>obtain⟨b,e,_⟩:=h;exact⟨_,e⟩
 |dead=>exact h.elim
 |tab=>obtain⟨_,d,e,_⟩:=h;exact⟨_,e⟩
theorem lM.ext{K:Fg}(e:bp ρ H ρ' H')(same:H' a=H a)(h:lM K ρ H x a):lM K ρ' H' x a:=by
 cases x with
 |lst xs=>obtain⟨b,q,r⟩:=h;exact⟨b,by rw[same];exact q,r.ext e⟩
 |dT kvs=>obtain⟨b,q,r⟩:=h;exact⟨b,by rw[same];exact q,r.ext e⟩
 |fT kvs=>obtain⟨b,d,q,r⟩:=h;exact⟨b,d,by rw[same];exact q,r.ext e⟩
 |dI kvs=>obtain⟨b,q,r⟩:=h;exact⟨b,by rw[same];exact q,r.ext e⟩
 |dP ks=>obtain⟨b,q,n,l,u,r⟩:=h;exact⟨b,by rw[same];exact q,n,l,u,r.map λ_ _ z=>z.ext e⟩
 |dead=>exact h.elim
 |tab=>obtain⟨c,f,q,r⟩:=h;exact⟨c,f,by rw[same];exact q,r.map e.frz⟩
theorem bP.has{K:Fg}{n:Nat}(r:bP K ρ au H)(h:ρ.m[n]?=some (some a)):∃x,au[n]?=some x/\lM K ρ H x a:=by
 have b:n<au.length:=by rw[←r.len];exact(cn.mp h).1
 exact⟨au[n],dr b,r.obj n a _ h (dr b)⟩
theorem bP.new{K:Fg}(r:bP K ρ au H)(c:H p=none)(o:HO):bP K ρ au (ar H p o):=⟨r.len,r.inj,λm b x f d=>by
 have q:=r.obj m b x f d;obtain⟨u,a⟩:=q.has;exact q.ext (bp.new c o) (zo (zp a c)),λb e=>by
 obtain⟨⟨u,a⟩,n⟩:=r.gh b e
 exact⟨⟨u,by rw[zo (zp a c)];exact a⟩,n⟩,r.live⟩
theorem bP.wr{K:Fg}(r:bP K ρ au H)(h:ρ.m[n]?=some (some a))(k:∀p u,H a≠some (.frz p u)) (q:lM K ρ (ar H a o) x a):bP K ρ (au.set n x) (ar H a o):=⟨by rw[r.len,gR],r.inj,λm b y d c=>by
 by_cases hm:m=n
 ·subst hm;have f:b=a:=by rw[h] at d;exact(fW (fW d)).symm
  subst f;have l:m<au.length:=by rw[←r.len];exact(cn.mp h).1
  rw[pH l] at c;cases c;exact q
 ·rw[dU (cJ hm)] at c;refine(r.obj m b y d c).ext (bp.wr h k o) (zo λz=>hm ?_);subst z;exact r.inj m n b d h,λb f=>by
 obtain⟨⟨u,j⟩,g⟩:=r.gh b f;refine⟨⟨u,?_⟩,g⟩;rw[zo]
 ·exact j
 ·rintro rfl;exact g (db h),λm y e i=>by
 by_cases hm:m=n
 ·subst hm;exact⟨a,h⟩
 ·rw[dU (cJ hm)] at e
  exact r.live m y e i⟩
theorem bP.alloc{K:Fg}(r:bP K ρ au H)(d:H p=none) (q:bp ρ H ⟨ρ.m++[some p],ρ.g⟩ (ar H p o)->lM K ⟨ρ.m++[some p],ρ.g⟩ (ar H p o) x p):bp ρ H ⟨ρ.m++[some p],ρ.g⟩ (ar H p o)/\bP K ⟨ρ.m++[some p],ρ.g⟩ (au++[x]) (ar H p o):=by
 have g:∀(m:Nat) (b:Addr),(ρ.m++[some p])[m]?=some (some b)->(m < ρ.m.length/\ρ.m[m]?=some (some b))\/(m=ρ.m.length/\b=p):=λm b e=>by
  rcases mG m ρ.m.length with z|z
  ·rw[eR z] at e;exact .inl ⟨z,e⟩
  ·rw[me z] at e;have j:m-ρ.m.length=0:=by
    have:=(cn.mp e).1;simp at this;lia
   rw[j] at e;simp at e;exact .inr ⟨by lia,e.symm⟩
 have v:∀(m:Nat),ρ.m[m]?≠some (some p):=λm e=>by
  obtain⟨x,_,q⟩:=r.has e;obtain⟨u,a⟩:=q.has;rw[d] at a;cases a
 have E:bp ρ H ⟨ρ.m++[some p],ρ.g⟩ (ar H p o):=⟨by rw[cx];lia,λm b h e=>by
   rw[eR h] at e;exact e,λb u e m=>⟨by rw[zo (zp e d)];exact e,λz=>by
   rcases eO.mp z with z|z
   ·exact m z
   ·simp at z;subst z;rw[d] at e;cases e⟩,rfl,λb G u e=>by rw[zo (zp e d)];exact e⟩
 refine⟨E,⟨by rw[cx,cx,r.len];rfl,λm k b n c=>?_,λm b y n c=>?_,λb l=>?_,λm y e w=>?_⟩⟩
 ·rcases g m b n with⟨f,i⟩|⟨f,rfl⟩
  ·rcases g k b c with⟨t,s⟩|⟨t,rfl⟩
   ·exact r.inj m k b i s
   ·exact absurd i (v m)
  ·rcases g k b c with⟨t,s⟩|⟨t,_⟩
   ·exact absurd s (v k)
   ·lia
 ·rcases g m b n with⟨f,i⟩|⟨f,rfl⟩
  ·rw[eR (by rw[←r.len];exact f)] at c;have q:=r.obj m b y i c;obtain⟨u,a⟩:=q.has;exact q.ext E (zo (zp a d))
  ·rw[f,r.len,me (bj _)] at c;simp at c;subst c;exact q E
 ·obtain⟨⟨u,a⟩,C⟩:=r.gh b l;refine⟨⟨u,by rw[zo (zp a d)];exact a⟩,λz=>?_⟩;rcases eO.mp z with z|z
  ·exact C z
  ·simp at z;subst z;rw[d] at a;cases a
 ·rcases mG m au.length with z|z
  ·rw[eR z] at e;obtain⟨b,l⟩:=r.live m y e w;exact⟨b,by rw[eR (by rw[r.len];exact z)];exact l⟩
  ·have j:=(cn.mp e).1;simp at j;have A:m=ρ.m.length:=by rw[r.len];lia
   exact⟨p,by rw[A,me (bj _)];simp⟩
theorem bP.kill{K:Fg}(r:bP K ρ au H)(h:n < ρ.m.length):bp ρ H ⟨ρ.m.set n none,ρ.g⟩ H/\bP K ⟨ρ.m.set n none,ρ.g⟩ (au.set n .dead) H:=by
 have c:∀(m:Nat) (b:Addr),(ρ.m.set n none)[m]?=some (some b)->m≠n/\ρ.m[m]?=some (some b):=λm b e=>by
  by_cases z:m=n
  ·subst z;rw[pH h] at e;simp at e
  ·rw[dU (cJ z)] at e;exact⟨z,e⟩
 have E:bp ρ H ⟨ρ.m.set n none,ρ.g⟩ H:=⟨by rw[gR];exact bj _,λm b _ e=>(c m b e).2,λb o e m=>⟨e,λz=>by
  obtain⟨i,f,a⟩:=pE z;have:(ρ.m.set n none)[i]?=some (some b):=by rw[dr f,a]
  exact m (db (c i b this).2)⟩,rfl,λ_ _ _ e=>e⟩
 refine⟨E,⟨by rw[gR,gR,r.len],λm k b g a=>r.inj m k b (c m b g).2 (c k b a).2,λm b y g a=>?_,λb d=>⟨(r.gh b d).1,λz=>?_⟩,λm y e j=>?_⟩⟩
 rotate_left
 ·obtain⟨i,f,a⟩:=pE z;have:(ρ.m.set n none)[i]?=some (some b):=by rw[dr f,a]
  exact(r.gh b d).2 (db (c i b this).2)
 ·have z:m≠n:=by
   rintro rfl;rw[pH (by rw[←r.len];exact h)] at e;cases e;exact j rfl
  rw[dU (cJ z)] at e;obtain⟨b,d⟩:=r.live m y e j;exact⟨b,by rw[dU (cJ z)];exact d⟩
 obtain⟨z,q⟩:=c m b g;rw[dU (cJ z)] at a;exact(r.obj m b y q a).ext E rfl
theorem CO{K:Fg}(r:bP K ρ au H)(c:H p=none):ew ρ p:=by
 refine⟨λz=>?_,λz=>?_⟩
 ·obtain⟨i,d,e⟩:=pE z;obtain⟨x,_,q⟩:=r.has (n:=i) (a:=p) (by rw[dr d,e]);obtain⟨u,b⟩:=q.has;rw[c] at b;cases b
 ·obtain⟨⟨u,b⟩,_⟩:=r.gh p z;rw[c] at b;cases b
theorem At.newT{K:Fg}(r:bP K ρ au H)(a:H p=none) (h:ae K ρ H ds vs):At K ρ (ar H p (.tup vs)) (.tup ds) (.ref p):=.tup zq (CO r a) (h.ext (bp.new a _))
theorem At.newL{K:Fg}(r:bP K ρ au H)(a:H p=none) (h:ae K ρ H ds vs):At K ρ (ar H p (.lst vs)) (.lst ds) (.ref p):=.lst zq (CO r a) (h.ext (bp.new a _))
def i9(f c:SE):SE:=λb d=>(f b d).bind λv a=>match v with
 |.bl true=>c b a
 |.bl false=>.ok (.bl false) a
 |_=>.stuck
def SF(f c:SE):SE:=λb d=>(f b d).bind λv a=>match v with
 |.bl true=>.ok (.bl true) a
 |.bl false=>c b a
 |_=>.stuck
def lJ(f:SE):SE:=λd c=>(f d c).bind λv a=>match v with
 |.bl b=>.ok (.bl (!b)) a
 |_=>.stuck
def ny(f d:ST):ST:=λc e=>(f c e).bind λb a=>if b=true then d c a else .ok false a
def vz(f d:ST):ST:=λc e=>(f c e).bind λb a=>if b=true then .ok true a else d c a
def gw(f:ST):ST:=λd c=>(f d c).bind λb a=>.ok (!b) a
def BD(c:ST) (f e:SE):SE:=λd g=>(c d g).bind λb a=>if b=true then f d a else e d a
theorem F7{op}(h:DE X a f):DE X (.BoolOp op [a] pos) f:=Iu h
section
variable {X:Cx}{a:Expr}{b:Expr}{rest:List Expr}{f:SE}{f':SE}{pos:Pos}
theorem FZ(y:DE X a f)(o:DE X (.BoolOp .And (b::rest) pos) f'):DE X (.BoolOp .And (a::b::rest) pos) (i9 f f'):=fG (Io y o) λC H Q i=>by
 obtain⟨z,n,w,v,k,c,p,e,q⟩:=i;obtain⟨x,g,r,e⟩:=za e;refine⟨z,n,w,x,g,c,p,r,λl H1 u j d A=>?_⟩;cases x<;>try (cases e;done)
 rename_i m;cases A;refine⟨m,rfl,?_⟩;cases m with
 |true=>
  rw[if_pos rfl];exact⟨l,n,g,v,k,c.ext j,d,e,λh s u t=>q h s u (j.trans t)⟩
 |false=>
  rw[if_neg (by decide)];cases e;exact q _ _ _ j d (.bl false)
end
theorem F6(i:DE X a f):DE X (.UnaryOp .Not a pos) (lJ f):=fG (Is i) λt H Q c=>by
 obtain⟨k,s,r,v,j,b,o,e,q⟩:=c;obtain⟨x,g,p,e⟩:=za e;refine⟨k,s,r,x,g,b,o,p,λn H1 u h d m=>?_⟩;cases x<;>try (cases e;done)
 rename_i l;cases m;cases e;exact⟨l,rfl,q _ _ _ h d (.bl _)⟩
theorem Hv{op}(h:DT X a t)(b:op=.And\/op=.Or):DW X (.BoolOp op [a] pos) t:=by
 rcases b with rfl|rfl
 ·exact pR h
 ·exact tF h
section
variable {X:Cx}{a:Expr}{b:Expr}{rest:List Expr}{t:ST}{t':ST}{pos:Pos}
theorem Hu(m:DT X a t)(p:DW X (.BoolOp .And (b::rest) pos) t'):DW X (.BoolOp .And (a::b::rest) pos) (ny t t'):=qQ (tG m p) λy H Q i=>by
 obtain⟨n,l,u,v,h,c,r,e,q⟩:=i;obtain⟨x,f,s,e⟩:=za e;refine⟨n,l,u,x,f,c,r,s,λj H1 g d=>?_⟩;cases x with
 |true=>exact lE ⟨j,l,f,v,h,c.ext g,d,e,λk w o=>q k w (g.trans o)⟩
 |false=>cases e;exact lF (q _ _ g d)
theorem Gc(m:DT X a t)(p:DW X (.BoolOp .Or (b::rest) pos) t'):DW X (.BoolOp .Or (a::b::rest) pos) (vz t t'):=qQ (AK m p) λy H Q i=>by
 obtain⟨n,l,u,v,h,c,r,e,q⟩:=i;obtain⟨x,f,s,e⟩:=za e;refine⟨n,l,u,x,f,c,r,s,λj H1 g d=>?_⟩;cases x with
 |false=>exact lF ⟨j,l,f,v,h,c.ext g,d,e,λk w o=>q k w (g.trans o)⟩
 |true=>cases e;exact lE (q _ _ g d)
end
theorem Hs(g:DT X a t):DT X (.UnaryOp .Not a pos) (gw t):=jV (IL g) λp H Q c=>by
 obtain⟨i,o,m,v,h,b,k,e,q⟩:=c;obtain⟨x,n,l,e⟩:=za e;cases e;exact⟨i,o,m,x,_,b,k,l,λj H1 f d=>q _ _ f d⟩
theorem PH(s:DT X c t)(A:DE X a f)(r:DE X b f'):DE X (.IfExp c a b pos) (BD t f f'):=fG (MM s A r) λE H Q n=>by
 obtain⟨C,p,z,v,i,g,w,e,q⟩:=n;obtain⟨x,h,y,e⟩:=za e;refine⟨C,p,z,x,h,g,w,y,λj H1 l k=>?_⟩;cases x with
 |true=>exact lE ⟨j,p,h,v,i,g.ext l,k,e,λd m u o=>q d m u (l.trans o)⟩
 |false=>exact lF ⟨j,p,h,v,i,g.ext l,k,e,λd m u o=>q d m u (l.trans o)⟩
def aC:SA:=λ_ a=>.ok [] a
def aB(f:SE) (g:SA):SA:=λc e=>(f c e).bind λx b=>(g c b).bind λd a=>.ok (x::d) a
def aT(g:SA):SE:=λd c=>(g d c).bind λb a=>if b.length<=sizeLine then .ok (.tup b) a else .stuck
def ip(g:SA):SE:=λd c=>(g d c).bind λb a=>if b.length<=sizeLine then .ok (.lst b) a else .stuck
def cM(g:SA):SE:=λd c=>(g d c).bind λb a=>if b.length<=sizeLine then .ok (.ref a.length) (a++[.lst b]) else .stuck
theorem Hd:DA X [] aC:=wL xE λg H Q b=>by
 obtain⟨f,i,h,v,c,a,d,e,q⟩:=b;cases e;exact q _ _ _ (.refl _ _) d .nil
theorem Jx(A:DE X e f)(o:DA X es g)(r:starEach (e::es) X.env=(false,eval e X.env)::starEach es X.env:=by rfl):DA X (e::es) (aB f g):=wL (yx A o r) λJ H Q d=>by
 obtain⟨E,k,z,v,C,a,m,e,q⟩:=d;obtain⟨x,b,n,e⟩:=za e;obtain⟨y,s,p,e⟩:=za e;cases e;refine⟨E,k,z,x,b,a,m,n,λh H1 u l i G=>?_⟩;exact⟨h,k,b,y,_,a.ext l,i,p,λI H2 w j c t=>q _ _ _ (l.trans j) c (.cons (G.ext j) t)⟩
theorem F8{c}(h:DA X es g):DE X (.Tuple es c pos) (aT g):=fG (Iw h) λw H Q d=>by
 obtain⟨l,t,r,v,k,a,n,e,q⟩:=d;obtain⟨x,s,o,e⟩:=za e;split at e
 ·rename_i m;cases e;refine⟨l,t,r,x,_,a,n,o,λf H1 u c b j=>⟨by rw[j.length];exact m,λp i=>?_⟩⟩;exact q f _ _ (c.trans (bp.new i _)) (b.new i _) (.newT b i j)
 ·cases e
theorem F4(h:DA X es g):DE X (.List es pos) (ip g):=fG (xG h) λw H Q c=>by
 obtain⟨l,t,r,v,k,a,n,e,q⟩:=c;obtain⟨x,s,o,e⟩:=za e;split at e
 ·rename_i m;cases e;refine⟨l,t,r,x,_,a,n,o,λd H1 u j b i=>⟨by rw[i.length];exact m,λp f=>?_⟩⟩;exact q d _ _ (j.trans (bp.new f _)) (b.new f _) (.newL b f i)
 ·cases e
theorem At.last{K:Fg}{b:Loc}(h:n=b.m.length):At K ⟨b.m++[some p],b.g⟩ H (.ref n) (.ref p):=by
 subst h;refine .ref (by simp) λa e=>?_
 simp at e;rw[e]
theorem G9(h:DA X es g):DE X (.List es pos) (cM g):=fG (xG h) λy H Q c=>by
 obtain⟨j,w,s,v,i,a,n,e,q⟩:=c;obtain⟨x,t,r,e⟩:=za e;split at e
 ·rename_i k;cases e;refine⟨j,w,s,x,_,a,n,r,λl H1 u f b d=>⟨by rw[d.length];exact k,λp m=>?_⟩⟩;obtain⟨E,R⟩:=b.alloc m (x:=.lst x) (o:=.lst u) λE=>⟨u,zq,d.ext E⟩
  exact q _ _ _ (f.trans E) R (.last b.len.symm)
 ·cases e
def eY(a:aa):D->Option (List D)
 |.lst xs=>some xs
 |.ref n=>match a[n]? with
  |some (.lst xs)=>some xs
  |_=>none
 |_=>none
theorem ig{K:Fg}(c:bP K ρ au H) (a:At K ρ H (.ref n) u)(e:au[n]?=some o)(d:o≠.dead):∃p,u=.ref p/\ρ.m[n]?=some (some p)/\lM K ρ H o p:=by
 cases a with
 |ref h1 h2=>
  obtain⟨p,b⟩:=c.live n o e d;exact⟨p,h2 p b,b,c.obj n p o b e⟩
theorem lP{K:Fg}(f:bP K ρ au H)(a:At K ρ H d u)(e:eY au d=some xs):∃p vs,u=.ref p/\H p=some (.lst vs)/\ae K ρ H xs vs:=by
 cases d<;>try (cases e;done)
 ·rename_i n;unfold eY at e;dsimp only at e;split at e
  ·rename_i h b;cases e;obtain⟨p,rfl,i,vs,c,g⟩:=ig f a b (by intro z;cases z);exact⟨p,vs,rfl,c,g⟩
  ·cases e
 ·cases e;cases a with
  |lst h1 h2 h3=>exact⟨_,_,rfl,h1,h3⟩
def oI(C:Int->Int->Prop) [DecidableRel C] (h:Int->Int->D) (x y:D) (a:aa):bJ D:=match x,y with
 |.int i,.int j=>if C i j then .ok (h i j) a else .stuck
 |_,_=>.stuck
theorem cF{K:Fg} [DecidableRel C] (k:∀i j c H,At K c H (h i j) (g i j)):iL K (oI C h) (rI C g):=λc H m x y u v z d Q l a b e q=>by
 unfold oI at e;split at e
 ·cases a;cases b;split at e
  ·rename_i f;cases e;exact⟨_,_,rfl,rfl,f,q _ _ _ (.refl _ _) l (k _ _ _ _)⟩
  ·cases e
 ·cases e
theorem kg{K:Fg}(k:∀i j d H,At K d H (h i j) (g i j)):iL K (oI (λ_ _=>True) h) (mX g):=λd H o x y u v z c Q m a b e q=>by
 obtain⟨i,j,n,f,_,l⟩:=cF (C:=λ_ _=>True) k d H o x y u v z c Q m a b e q;exact⟨i,j,n,f,l⟩
instance:DecidableRel eN:=λi j=>by unfold eN;infer_instance
instance:DecidableRel gp:=λi j=>by unfold gp;infer_instance
instance:DecidableRel kf:=λi j=>by unfold kf;infer_instance
abbrev df:=oI (λ_ _=>True) λi j=>.int (i-j)
abbrev ju:=oI gp λi j=>.int (i/j)
abbrev im:=oI (λ_ j=>0<j) λi j=>.int (i%j)
abbrev jv:=oI (λ_ _=>True) λi j=>.int (Builtin.bitAnd i j)
abbrev Ph:=oI kf λi j=>.int (i^j.toNat)
abbrev Pg:=oI kf λi j=>.int (i*2^j.toNat)
abbrev Pf:=oI (λ_ j=>0<=j) λi j=>.int (i/2^j.toNat)
abbrev bQ:=oI eN λi j=>.int (i*j)
def aO(x y:D) (c:aa):bJ D:=match x,y with
 |.int i,.int j=>.ok (.int (i+j)) c
 |.tup a,.tup b=>if a.length+b.length<=sizeLine then .ok (.tup (a++b)) c else .stuck
 |.str a,.str b=>if a.length+b.length<=sizeLine then .ok (.str (a++b)) c else .stuck
 |x,y=>match eY c x,eY c y with
  |some a,some b=>if a.length+b.length<=sizeLine then .ok (.lst (a++b)) c else .stuck
  |_,_=>.stuck
abbrev qP(K:Fg):R2:=λx y H Q=>mX (λi j=>.int (i+j)) x y H Q\/qO K x y H Q\/(∃i j,x=.str i/\y=.str j/\i.length+j.length<=sizeLine/\Q (.str (i++j)) H)\/AI x y H Q
theorem Kw:dH X (binaryOp .Add) (qP X.K):=Ie.or (Kx.or (T6.or Ig))
theorem HY{K:Fg}:iL K aO (qP K):=λE H A x y u v z o Q c a b e q=>by
 unfold aO at e;split at e
 ·cases a;cases b;cases e;exact .inl ⟨_,_,rfl,rfl,q _ _ _ (.refl _ _) c (.int _)⟩
 ·rename_i G C;split at e
  ·rename_i d;cases e;refine .inr (.inl ?_);cases a with
   |tup h k h3=>
    cases b with
    |tup f g k3=>
     refine⟨_,_,_,_,rfl,rfl,bH.of h,bH.of f,by rw[h3.length,k3.length];exact d,λz=>?_,λr l=>?_,λr l p j=>?_⟩
     ·subst z;cases h3;exact q _ _ _ (.refl _ _) c (.tup f g k3)
     ·subst l;cases k3;rw[kn] at q;exact q _ _ _ (.refl _ _) c (.tup h k h3)
     ·exact q _ _ _ (bp.new j _) (c.new j _) (.newT c j (h3.append k3))
  ·cases e
 ·split at e
  ·rename_i d;cases a;cases b;cases e;exact .inr (.inr (.inl ⟨_,_,rfl,rfl,d,q _ _ _ (.refl _ _) c (.str _)⟩))
  ·cases e
 ·split at e
  ·rename_i h k;split at e
   ·rename_i d;cases e;obtain⟨p,I,rfl,n,m⟩:=lP c a h;obtain⟨w,s,rfl,f,g⟩:=lP c b k;exact .inr (.inr (.inr ⟨_,_,_,_,rfl,rfl,n,f,by rw[m.length,g.length];exact d,λt i=>q _ _ _ (bp.new i _) (c.new i _) (.newL c i (m.append g))⟩))
   ·cases e
  ·cases e
abbrev Pi:=oI (λ_ _=>True) λi j=>.bl (decide (i<=j))
abbrev AM:=oI (λ_ _=>True) λi j=>.bl (decide (j<i))
mutual
noncomputable def fy:D->Option PyData
 |.non=>some .none
 |.bl b=>some (.bool b)
 |.int i=>some (.int i)
 |.str x=>some (.str x)
 |.tup ds=>(cC ds).map .tuple
 |.lst ds=>(cC ds).map .list
 |_=>none
noncomputable def cC:List D->Option (List PyData)
 |[]=>some []
 |d::ds=>(fy d).bind λx=>(cC ds).map λa=>x::a
end
mutual
theorem xW{K:Fg}{c:Loc}{H:Hp}:∀{d:D}{v:V}{p:PyData},At K c H d v->fy d=some p->mj K H v p
 |_,_,_,.non,e=>by cases e;exact .non
 |_,_,_,.bl b,e=>by cases e;exact .bl b
 |_,_,_,.int i,e=>by cases e;exact .int i
 |_,_,_,.str x,e=>by cases e;exact .str x
 |_,_,_,.ty n,e=>by cases e
 |_,_,_,.exn _,e=>by cases e
 |_,_,_,.ref _ _,e=>by cases e
 |_,_,_,.tup h _ al,e=>by
  rw[fy] at e;obtain⟨f,a,rfl⟩:=iE.mp e;exact .tup (bH.of h) (Cp al a)
 |_,_,_,.lst h _ al,e=>by
  rw[fy] at e;obtain⟨f,a,rfl⟩:=iE.mp e;exact .lst (du.of h) (Cp al a)
 |_,_,_,.scr _ _,e=>by cases e
theorem Cp{K:Fg}{g:Loc}{H:Hp}:∀{d:List D}{v:List V}{p:List PyData},ae K g H d v->cC d=some p->kc K H v p
 |_,_,_,.nil,e=>by cases e;exact .nil
 |_,_,_,.cons a b,e=>by
  rw[cC] at e;obtain⟨x,c,e⟩:=sW.mp e;obtain⟨h,f,rfl⟩:=iE.mp e;exact .cons (xW a c) (Cp b f)
end
def now(a:aa) (d:D):D:=match eY a d with
 |some xs=>.lst xs
 |none=>d
def dataOf(a:aa) (d:D):Option PyData:=fy (now a d)
theorem QY{K:Fg}(f:bP K ρ au H) (a:At K ρ H d u)(e:dataOf au d=some p):mj K H u p:=by
 unfold dataOf now at e;split at e
 ·rename_i i c;obtain⟨q,k,rfl,b,h⟩:=lP f a c;rw[fy] at e;obtain⟨j,g,rfl⟩:=iE.mp e;exact .lst (du.of b) (Cp h g)
 ·exact xW a e
def eV(c:Bool) (x y:D) (d:aa):bJ D:=match dataOf d x,dataOf d y with
 |some a,some b=>if PySem.SeqAt.shaped a=true/\PySem.SeqAt.shaped b=true then .ok (.bl (if c then !PyData.eqv a b else PyData.eqv a b)) d else .stuck
 |_,_=>.stuck
theorem lO{K:Fg}:iL K (eV neg) (tE K neg):=λi H k x y u v z g Q c a b e q=>by
 unfold eV at e;split at e
 ·rename_i l j f h;split at e
  ·rename_i d;cases e;exact⟨_,_,QY c a f,QY c b h,d.1,d.2,q _ _ _ (.refl _ _) c (.bl _)⟩
  ·cases e
 ·cases e
abbrev qR:=eV false
abbrev oj:=eV true
noncomputable def bC:List D->Option (List Int)
 |[]=>some []
 |.int i::r=>(bC r).map (i::·)
 |_::_=>none
theorem qh{K:Fg}:∀{c:List D}{g:List V}{f:List Int},ae K ρ H c g->bC c=some f->g=f.map V.int
 |_,_,_,.nil,e=>by cases e;rfl
 |_,_,_,.cons (d:=d) a b,e=>by
  cases d<;>try (cases e;done)
  rw[bC] at e;obtain⟨i,h,rfl⟩:=iE.mp e;cases a;rw[qh b h]
  rfl
def gc(x y:D) (c:aa):bJ D:=match x,y with
 |.int i,.int j=>.ok (.bl (decide (i<j))) c
 |.tup a,.tup b=>match bC a,bC b with
  |some ns,some ms=>.ok (.bl (HT.lexLt ns ms)) c
  |_,_=>.stuck
 |_,_=>.stuck
abbrev AC(K:Fg):R2:=λx y H Q=>mX (λi j=>.bl (decide (i<j))) x y H Q\/AB K x y H Q
theorem ut{X:Cx}(a:X.A.units<cLine):dH X (compareOp .Lt) (AC X.K):=Gs.or (Ih a)
theorem ur{K:Fg}:iL K gc (AC K):=λj H k x y u v z g Q c a b e q=>by
 unfold gc at e;split at e
 ·cases a;cases b;cases e
  exact .inl ⟨_,_,rfl,rfl,q _ _ _ (.refl _ _) c (.bl _)⟩
 ·split at e
  ·rename_i f i;cases e;cases a with
   |tup g1 g2 g3=>
    cases b with
    |tup k1 k2 k3=>
     have h:=qh g3 f;have d:=qh k3 i;subst h d;exact .inr ⟨_,_,_,_,rfl,rfl,bH.of g1,bH.of k1,q _ _ _ (.refl _ _) c (.bl _)⟩
  ·cases e
 ·cases e
def cD(a:aa):D->Option (List D)
 |.tup xs=>some xs
 |.scr xs=>some xs
 |d=>eY a d
theorem wc{K:Fg}(f:bP K ρ au H) (a:At K ρ H d u)(e:cD au d=some xs):
  ∃p vs,u=.ref p/\(du K H p vs\/bH K H p vs)/\ae K ρ H xs vs:=by
 unfold cD at e;split at e
 ·cases e;cases a with
  |tup b c h3=>exact⟨_,_,rfl,.inr (bH.of b),h3⟩
 ·cases e;cases a with
  |scr b h3=>exact⟨_,_,rfl,.inl b.sq,h3⟩
 ·obtain⟨p,vs,rfl,b,c⟩:=lP f a e;exact⟨p,vs,rfl,.inl (du.of b),c⟩
theorem ae.atI{K:Fg}(h:ae K ρ H ds vs)(e:L2.atI ds i=some d):∃v,L2.atI vs i=some v/\At K ρ H d v:=by
 unfold L2.atI at e ⊢;rw[h.length];cases hi:kH ds.length i with
 |none=>rw[hi] at e;cases e
 |some j=>
  rw[hi] at e;obtain⟨v,a,b⟩:=h.get (i:=j) e;exact⟨v,a,b⟩
def cL(x y:D) (a:aa):bJ D:=match cD a x,y with
 |some xs,.int i=>match L2.atI xs i with
  |some v=>.ok v a
  |none=>.stuck
 |_,_=>.stuck
theorem Gq{K:Fg}:iL K cL (SB K):=λk H n x y u v z g Q c a b e q=>by
 unfold cL at e;split at e
 ·rename_i j;split at e
  ·rename_i w i;cases e;cases b;obtain⟨p,l,rfl,h2,h⟩:=wc c a j;obtain⟨m,d,f⟩:=h.atI i;rcases h2 with h2|h2
   ·exact .inl ⟨_,_,_,_,rfl,rfl,h2,d,q _ _ _ (.refl _ _) c f⟩
   ·exact .inr (.inl ⟨_,_,_,_,rfl,rfl,h2,d,q _ _ _ (.refl _ _) c f⟩)
  ·cases e
 ·cases e
def cutD(a:List D) (lo b:Option Int):List D:=(a.drop (HT.cb a.length 0 lo)).take (HT.cb a.length a.length b-HT.cb a.length 0 lo)
theorem ae.cut{K:Fg}(h:ae K ρ H ds vs)(lo a:Option Int):ae K ρ H (cutD ds lo a) (hU vs lo a):=by
 unfold cutD hU;rw[h.length];exact(h.drop _).take _
def dX:DS->aa->bJ (Option Int):=λ_ a=>.ok none a
def dW(f:SE):DS->aa->bJ (Option Int):=λc b=>(f c b).bind λv a=>match v with
 |.int i=>.ok (some i) a
 |_=>.stuck
def lI(f:SE) (lo e:DS->aa->bJ (Option Int)):SE:=λd g=>(f d g).bind λx c=>(lo d c).bind λl b=>(e d b).bind λh a=>match x with
 |.tup xs=>.ok (.tup (cutD xs l h)) a
 |x=>match eY a x with
  |some xs=>.ok (.lst (cutD xs l h)) a
  |none=>.stuck
def V2(K:Fg) (f:DS->aa->bJ (Option Int)):TO:=λh H Q=>∃c g e v a,dm K c H g h/\bP K c e H/\f g e=.ok v a/\∀b d,bp c H b d->bP K b a d->Q v d
abbrev DO(X:Cx) (e:Option Expr) (f:DS->aa->bJ (Option Int)):Prop:=PO X e (V2 X.K f)
theorem wN(h:PO X e t)(k:∀a H Q,t' a H Q->t a H Q):PO X e t':=λb s a H Q I q=>h b s a H Q I (k _ _ _ q)
theorem JK:DO X none dX:=wN KM λg H Q b=>by
 obtain⟨f,i,h,v,c,a,d,e,q⟩:=b;cases e;exact q _ _ (.refl _ _) d
theorem JL(o:DE X e f):DO X (some e) (dW f):=wN (KN o) λr H Q b=>by
 obtain⟨i,p,n,v,h,a,l,e,q⟩:=b;obtain⟨x,d,m,e⟩:=za e;refine⟨i,p,n,x,d,a,l,m,λk H1 u g c j=>?_⟩;cases x<;>try (cases e;done)
 cases e;cases j;exact⟨_,rfl,q _ _ g c⟩
theorem PF(c:DE X a f)(e:DE X b f')(d:jd b):DE X (.Subscript a b pos) (aU cL f f'):=fG (Gw HC c e d) (oU Gq)
section
variable {X:Cx}{a:Expr}{e:Expr}{f:SE}{pos:Pos}{lo:Option Expr}{hi:Option Expr}{l:DS->aa->bJ (Option Int)}{h:DS->aa->bJ (Option Int)}
theorem PB{J:Pos}(Y:DE X e f)(hl:DO X lo l)(E:DO X hi h):DE X (.Subscript e (.Slice lo hi none J) pos) (lI f l h):=fG (MN (K6.or K5) Y hl E) λτ H Q j=>by
 obtain⟨ρ,m,T,v,U,a,I,e,q⟩:=j;obtain⟨x,g,P,e⟩:=za e;obtain⟨y,d,R,e⟩:=za e;obtain⟨z,s,S,e⟩:=za e;refine⟨ρ,m,T,x,g,a,I,P,λr H1 u n t a1=>?_⟩;refine⟨r,m,g,y,d,a.ext n,t,R,λw H2 k i=>?_⟩;refine⟨w,m,d,z,s,a.ext (n.trans k),i,S,λa0 H3 C b=>?_⟩;have A:=a1.ext (k.trans C);have o:=n.trans (k.trans C);split at e
 ·cases e;refine .inl ?_;cases A with
  |tup h1 h2 h3=>
   refine⟨_,_,rfl,bH.of h1,λec=>?_,λp c=>?_⟩
   ·refine q _ _ _ o b (.tup h1 h2 ?_);have:=h3.cut y z;rw[ec] at this;exact this
   ·exact q _ _ _ (o.trans (bp.new c _)) (b.new c _) (.newT b c (h3.cut y z))
 ·split at e
  ·rename_i xs hx;cases e;obtain⟨p,vs,rfl,G,g2⟩:=lP b A hx;exact .inr ⟨_,_,rfl,du.of G,λp c=>q _ _ _ (o.trans (bp.new c _)) (b.new c _) (.newL b c (g2.cut y z))⟩
  ·cases e
end
def aE(g:List D->aa->bJ D) (f:SA):SE:=λd c=>(f d c).bind λb a=>g b a
def jO(K:Fg) (g:List D->aa->bJ D) (r:List V->Hp->VK->Prop):Prop:=
 ∀d H f e h z b (Q:VK),bP K d f H->ae K d H e h->g e f=.ok z b->(∀a c w,bp d H a c->bP K a b c->At K a c z w->Q w c)->r h H Q
theorem rF{K:Fg}(m:jO K g r):∀i H Q,tD K (aE g f) i H Q->Eb r (O6 K f) i H Q:=λi H Q d=>by
 obtain⟨n,A,y,v,c,a,s,e,q⟩:=d;obtain⟨x,b,t,e⟩:=za e;exact⟨n,A,y,x,b,a,s,t,λj H1 u l h p=>m j H1 b x u v c Q h p e λk z w o=>q k z w (l.trans o)⟩
theorem Jp{x:Str}{id:String}(k:bV X (.builtin id) r)(c:jO X.K g r)(j:Gl X x)(i:X.mg x=none)(l:bootBuiltins x=some (.builtin id))(d:DA X (e::es) f)(h:x≠"__name__":=by decide)(b:(x==("__debug__" : Str))=false:=by decide)
 (m:starEach (e::es) X.env=(false,eval e X.env)::starEach es X.env:=by rfl)(a:(backTo pos (starEach es X.env)).any (·.1)=false:=by rfl):DE X (.Call (.Name x p) (e::es) [] pos) (aE g f):=fG (ME k j i l d h b m a) (rF c)
theorem LG{T:String}(k:bV X (.type T) r)(c:jO X.K g r)(j:Gl X x)(i:X.mg x=none)(l:bootBuiltins x=some (.type T))(d:DA X (e::es) f)(h:x≠"__name__":=by decide)(b:(x==("__debug__" : Str))=false:=by decide)
 (m:starEach (e::es) X.env=(false,eval e X.env)::starEach es X.env:=by rfl)(a:(backTo pos (starEach es X.env)).any (·.1)=false:=by rfl):DE X (.Call (.Name x p) (e::es) [] pos) (aE g f):=fG (SZ k j i l d h b m a) (rF c)
theorem ae.one{K:Fg}(h:ae K ρ H [d] us):∃u,us=[u]/\At K ρ H d u:=by
 cases h with
 |cons a b=>cases b;exact⟨_,rfl,a⟩
theorem ae.two{K:Fg}(h:ae K ρ H [d,e] us):∃u v,us=[u,v]/\At K ρ H d u/\At K ρ H e v:=by
 cases h with
 |cons a b=>
  obtain⟨v,rfl,c⟩:=b.one;exact⟨_,_,rfl,a,c⟩
def cZ:List D->aa->bJ D:=λb a=>match b with
 |[x]=>match cD a x with
  |some ys=>.ok (.int ys.length) a
  |none=>.stuck
 |_=>.stuck
theorem kh{K:Fg}:jO K cZ (λc H Q=>∃p b,c=[.ref p]/\(du K H p b\/bH K H p b)/\Q (.int b.length) H):=λl H n c m z f Q d i e q=>by
 unfold cZ at e;split at e
 ·split at e
  ·rename_i h;cases e;obtain⟨u,rfl,a⟩:=i.one;obtain⟨p,j,rfl,k,g⟩:=wc d a h;refine⟨p,j,rfl,k,?_⟩;rw[g.length];exact q _ _ _ (.refl _ _) d (.int _)
  ·cases e
 ·cases e
def lK:List D->aa->bJ D:=λa b=>match a with
 |[.int i]=>.ok (.int (if i<0 then -i else i)) b
 |_=>.stuck
theorem GP{K:Fg}:jO K lK (λb H Q=>∃i,b=[.int i]/\Q (.int (if i<0 then -i else i)) H):=λg H h b j z c Q d f e q=>by
 unfold lK at e;split at e
 ·cases e;obtain⟨u,rfl,a⟩:=f.one;cases a;exact⟨_,rfl,q _ _ _ (.refl _ _) d (.int _)⟩
 ·cases e
def BG(g:Int->Int->Int):List D->aa->bJ D:=λa b=>match a with
 |[.int i,.int j]=>.ok (.int (g i j)) b
 |_=>.stuck
theorem k6{K:Fg}:jO K (BG g) (λc H Q=>∃i j,c=[.int i,.int j]/\Q (.int (g i j)) H):=λk H l c m z d Q f h e q=>by
 unfold BG at e;split at e
 ·cases e;obtain⟨u,v,rfl,a,b⟩:=h.two;cases a;cases b;exact⟨_,_,rfl,q _ _ _ (.refl _ _) f (.int _)⟩
 ·cases e
abbrev gn:=BG λi j=>if j<i then j else i
def hV:List D->aa->bJ D:=λb a=>match b with
 |[x]=>match (cD a x).bind bC with
  |some ns=>.ok (.int ns.sum) a
  |none=>.stuck
 |_=>.stuck
theorem rT{K:Fg}:jO K hV (zX K):=λm H o k n z c Q b g e q=>by
 unfold hV at e;split at e
 ·split at e
  ·rename_i i h;cases e;obtain⟨l,d,h⟩:=sW.mp h;obtain⟨u,rfl,a⟩:=g.one;obtain⟨p,r,rfl,j,f⟩:=wc b a d;have e:=qh f h;subst e;exact⟨p,i,rfl,j,q _ _ _ (.refl _ _) b (.int _)⟩
  ·cases e
 ·cases e
noncomputable def cU:List D->Option (List Bool)
 |[]=>some []
 |.bl i::r=>(cU r).map (i::·)
 |_::_=>none
theorem Rt{K:Fg}:∀{c:List D}{g:List V}{f:List Bool},ae K ρ H c g->cU c=some f->g=f.map V.bl
 |_,_,_,.nil,e=>by cases e;rfl
 |_,_,_,.cons (d:=d) a b,e=>by
  cases d<;>try (cases e;done)
  rw[cU] at e;obtain⟨i,h,rfl⟩:=iE.mp e;cases a;rw[Rt b h]
  rfl
def jb(c:Bool):List D->aa->bJ D:=λb a=>match b with
 |[x]=>match (eY a x).bind cU with
  |some bs=>.ok (.bl (if c then bs.all id else bs.any id)) a
  |none=>.stuck
 |_=>.stuck
theorem wX{K:Fg}:jO K (jb al) (AJ K al):=λm H o k n z c Q b g e q=>by
 unfold jb at e;split at e
 ·split at e
  ·rename_i i h;cases e;obtain⟨l,d,h⟩:=sW.mp h;obtain⟨u,rfl,a⟩:=g.one;obtain⟨p,r,rfl,j,f⟩:=lP b a d;have e:=Rt f h;subst e;exact⟨p,i,rfl,du.of j,q _ _ _ (.refl _ _) b (.bl _)⟩
  ·cases e
 ·cases e
def j0(a:aa):D->Option String
 |.non=>some "NoneType"
 |.bl _=>some "bool"
 |.int _=>some "int"
 |.str _=>some "str"
 |.tup _=>some "tuple"
 |.lst _=>some "list"
 |.ref n=>match a[n]? with
  |some (.lst _)=>some "list"
  |some (.dT _)=>some "dict"
  |_=>none
 |_=>none
noncomputable def Bu(t T:String):Bool:=t==T||(t=="bool"&&T=="int")
def fi:List D->aa->bJ D:=λb a=>match b with
 |[x,.ty T]=>match j0 a x with
  |some t=>if["int","bool","str","tuple","list","dict"].contains T=true then .ok (.bl (Bu t T)) a else .stuck
  |none=>.stuck
 |_=>.stuck
theorem Tq{K:Fg}(c:bP K ρ au H) (a:At K ρ H d u)(e:j0 au d=some t):fE K H u (.type t)/\t∈["NoneType","bool","int","str","tuple","list","dict"]:=by
 cases d<;>try (cases e;done)
 ·cases e;cases a;exact⟨.non,by simp⟩
 ·cases e;cases a;exact⟨.bl _,by simp⟩
 ·cases e;cases a;exact⟨.int _,by simp⟩
 ·cases e;cases a;exact⟨.str _,by simp⟩
 ·unfold j0 at e;dsimp only at e;split at e
  ·rename_i h;cases e;obtain⟨p,rfl,f,i,b,g⟩:=ig c a h (by intro z;cases z);exact⟨.lst b,by simp⟩
  ·rename_i h;cases e;obtain⟨p,rfl,f,i,b,g⟩:=ig c a h (by intro z;cases z);exact⟨.dT b,by simp⟩
  ·cases e
 ·cases e;cases a with
  |tup h1 h2 h3=>exact⟨.tup h1,by simp⟩
 ·cases e;cases a with
  |lst h1 h2 h3=>exact⟨.lst h1,by simp⟩
theorem HJ{K:Fg}{T:String}(b:t∈["NoneType","bool","int","str","tuple","list","dict"])(a:T∈["int","bool","str","tuple","list","dict"]):W.kitOne K (.type t) (.type T)=some (Bu t T):=by
 simp only[bU,pq,o8] at b a;rcases b with rfl|rfl|rfl|rfl|rfl|rfl|rfl<;>rcases a with rfl|rfl|rfl|rfl|rfl|rfl<;>rfl
theorem Fh{K:Fg}:jO K fi (λc H Q=>∃x T t b,c=[x,.ty T]/\fE K H x t/\W.kitOne K t (.type T)=some b/\Q (.bl b) H):=λl H n c m z f Q d j e q=>by
 unfold fi at e;split at e
 ·split at e
  ·rename_i h;split at e
   ·rename_i g;cases e;obtain⟨u,v,rfl,a,b⟩:=j.two;cases b;obtain⟨k,i⟩:=Tq d a h;exact⟨_,_,_,_,rfl,k,HJ i (by simpa using g),q _ _ _ (.refl _ _) d (.bl _)⟩
   ·cases e
  ·cases e
 ·cases e
def bE:List D->aa->bJ D:=λb a=>match b with
 |[.tup ys]=>.ok (.tup ys) a
 |[x]=>match eY a x with
  |some ys=>.ok (.tup ys) a
  |none=>.stuck
 |_=>.stuck
theorem mo{K:Fg}:jO K bE (λi H Q=>∃p d,i=[.ref p]/\((du K H p d/\∀l,H l=none->Q (.ref l) (ar H l (.tup d)))\/(bH K H p d/\Q (.ref p) H))):=λm H o i n z k Q b j e q=>by
 unfold bE at e;split at e
 ·cases e;obtain⟨u,rfl,a⟩:=j.one;cases a with
  |tup c g h3=>exact⟨_,_,rfl,.inr ⟨bH.of c,q _ _ _ (.refl _ _) b (.tup c g h3)⟩⟩
 ·split at e
  ·rename_i h;cases e;obtain⟨u,rfl,a⟩:=j.one;obtain⟨p,r,rfl,c,g⟩:=lP b a h;exact⟨_,_,rfl,.inl ⟨du.of c,λl f=>q _ _ _ (bp.new f _) (b.new f _) (.newT b f g)⟩⟩
  ·cases e
 ·cases e
def qU:List D->aa->bJ D:=λb a=>match b with
 |[x]=>match cD a x with
  |some ys=>.ok (.lst ys) a
  |none=>.stuck
 |_=>.stuck
def ja:List D->aa->bJ D:=λb a=>match b with
 |[x]=>match cD a x with
  |some ys=>.ok (.ref a.length) (a++[.lst ys])
  |none=>.stuck
 |_=>.stuck
theorem Lp{K:Fg}:jO K ja (λd H Q=>∃p b,d=[.ref p]/\(du K H p b\/bH K H p b)/\∀l,H l=none->Q (.ref l) (ar H l (.lst b))):=λn H s d r z g Q c k e q=>by
 unfold ja at e;split at e
 ·split at e
  ·rename_i b h;cases e;obtain⟨u,rfl,a⟩:=k.one;obtain⟨p,f,rfl,m,j⟩:=wc c a h;refine⟨_,_,rfl,m,λl i=>?_⟩;obtain⟨E,R⟩:=c.alloc i (x:=.lst b) (o:=.lst f) λE=>⟨f,zq,j.ext E⟩
   exact q _ _ _ E R (.last c.len.symm)
  ·cases e
 ·cases e
noncomputable abbrev aL(a:List Int):D:=.tup (a.map .int)
abbrev aJ(l:List (List Int)):List D:=l.map aL
def lG(a:List Int):List (List Int)->List (List Int)
 |[]=>[a]
 |b::r=>if HT.lexLt b a=true then b::lG a r else a::b::r
def aX:List (List Int)->List (List Int)
 |[]=>[]
 |a::r=>lG a (aX r)
abbrev tY(l:List (List Int)):Prop:=l.Pairwise λa b=>HT.lexLt b a=false
theorem Fn(a:List Int):∀l,(lG a l).Perm (a::l)
 |[]=>.refl _
 |b::r=>by
  unfold lG;split
  ·exact(List.Perm.cons b (Fn a r)).trans (.swap a b r)
  ·exact .refl _
theorem ze:∀l,(aX l).Perm l
 |[]=>.refl _
 |a::r=>(Fn a _).trans (.cons a (ze r))
theorem UN(e:HT.lexLt b a=false)(d:HT.lexLt c b=false):HT.lexLt c a=false:=by
 cases h:HT.lexLt c a with
 |false=>rfl
 |true=>
  rcases Srt.B6 a b with z|z|z
  ·have:=Srt.CN h z;rw[d] at this;cases this
  ·subst z;rw[d] at h;cases h
  ·rw[e] at z;cases z
theorem ye(a:List Int):∀l,tY l->tY (lG a l)
 |[],_=>OG _ _
 |b::r,h=>by
  obtain⟨e,f⟩:=y8.mp h;unfold lG;split
  ·rename_i c;refine y8.mpr ⟨λx hx=>?_,ye a r f⟩;rcases bU.mp ((Fn a r).mem_iff.mp hx) with rfl|hx
   ·exact Srt.NO c
   ·exact e x hx
  ·rename_i c;have d:HT.lexLt b a=false:=by simpa using c
   refine y8.mpr ⟨λx hx=>?_,h⟩;rcases bU.mp hx with rfl|hx
   ·exact d
   ·exact UN d (e x hx)
theorem CF:∀l,tY (aX l)
 |[]=>.nil
 |a::r=>ye a _ (CF r)
theorem Rm:∀{l m:List (List Int)},l.Perm m->tY l->tY m->l=m
 |[],m,p,_,_=>by rw[List.nil_perm.mp p]
 |a::l,[],p,_,_=>by cases List.perm_nil.mp p
 |a::l,b::m,p,h1,h2=>by
  obtain⟨d,g⟩:=y8.mp h1;obtain⟨f,i⟩:=y8.mp h2;have e:a=b:=by
   rcases bU.mp (p.mem_iff.mp dS) with z|z
   ·exact z
   ·rcases bU.mp (p.mem_iff.mpr (dS (a:=b) (l:=m))) with y|y
    ·exact y.symm
    ·have h:=f a z;have c:=d b y;rcases Srt.B6 a b with w|w|w
     ·rw[h] at w;cases w
     ·exact w
     ·rw[c] at w;cases w
  subst e;rw[Rm (List.Perm.cons_inv p) g i]
theorem Fb{m:List (List Int)}(p:m.Perm l)(h:tY m):m=aX l:=Rm (p.trans (ze l).symm) h (CF l)
theorem wz(l:List (List Int)):(aX l).length=l.length:=(ze l).length_eq
def fD:List D->Option (List (List Int))
 |[]=>some []
 |.tup ds::r=>(bC ds).bind λa=>(fD r).map (a::·)
 |_::_=>none
theorem QN{K:Fg}:∀{f:List D}{g:List V}{l:List (List Int)},ae K ρ H f g->fD f=some l ->
  ∃c:List (Addr×List Int),g=c.map (λp=>V.ref p.1)/\c.map (·.2)=l/\∀p∈c,H p.1=some (.tup (p.2.map V.int))/\ew ρ p.1
 |_,_,_,.nil,e=>by cases e;exact⟨[],rfl,rfl,λ_ h=>nomatch h⟩
 |_,_,_,.cons (d:=d) a b,e=>by
  cases d<;>try (cases e;done)
  rw[fD] at e;obtain⟨o,n,e⟩:=sW.mp e;obtain⟨l,i,rfl⟩:=iE.mp e;obtain⟨c,k,q,m⟩:=QN b i;cases a with
  |tup g1 g2 g3=>
   rename_i ad r;have j:=qh g3 n;subst j;refine⟨(ad,o)::c,by rw[k];rfl,by rw[←q];rfl,λp hp=>?_⟩;rcases bU.mp hp with rfl|hp
   ·exact⟨g1,g2⟩
   ·exact m p hp
theorem uG{K:Fg}:∀a:List Int,ae K ρ H (a.map .int) (a.map V.int)
 |[]=>.nil
 |n::a=>.cons (.int n) (uG a)
theorem Fa{K:Fg}:∀a:List (Addr×List Int),(∀p∈a,H p.1=some (.tup (p.2.map V.int))/\ew ρ p.1)->ae K ρ H (aJ (a.map (·.2))) (a.map λp=>V.ref p.1)
 |[],_=>.nil
 |p::a,h=>.cons (.tup (h p dS).1 (h p dS).2 (uG _)) (Fa a λq b=>h q (cr _ b))
theorem wl{K:Fg}(r:bP K ρ au H) (b:H p=some (.tup vs)):ew ρ p:=by
 refine⟨λz=>?_,λz=>?_⟩
 ·obtain⟨i,d,e⟩:=pE z;obtain⟨x,_,q⟩:=r.has (n:=i) (a:=p) (by rw[dr d,e]);cases x with
  |lst xs=>obtain⟨_,e,_⟩:=q;rw[b] at e;cases e
  |dT kvs=>obtain⟨_,e,_⟩:=q;rw[b] at e;cases e
  |fT kvs=>obtain⟨_,_,e,_⟩:=q;rw[b] at e;cases e
  |dI kvs=>obtain⟨_,e,_⟩:=q;rw[b] at e;cases e
  |dP ks=>obtain⟨_,e,_⟩:=q;rw[b] at e;cases e
  |dead=>exact q
  |tab=>obtain⟨_,_,e,_⟩:=q;rw[b] at e;cases e
 ·obtain⟨⟨u,c⟩,_⟩:=r.gh p z;rw[b] at c;cases c
noncomputable def cW(a:List (List Int×D)) (k:List Int):Option D:=(a.find? λb=>decide (b.1=k)).map (·.2)
noncomputable def iZ(a:List (List Int×D)) (k:List Int) (v:D):List (List Int×D):=
 if(a.any λb=>decide (b.1=k))=true then a.map (λb=>if b.1=k then(b.1,v) else b) else a++[(k,v)]
noncomputable def iJ(a:List (List Int×D)) (k:List Int):List (List Int×D):=a.filter λb=>decide (b.1≠k)
theorem B5{a b:List Int}:a.map (Sum.inl:Int->cI)=b.map Sum.inl↔a=b:=by
 constructor
 ·intro h;exact(List.map_inj_right (f:=(Sum.inl:Int->cI)) λx y e=>Sum.inl.inj e).mp h
 ·rintro rfl;rfl
theorem dQ.val{K:Fg}(h:dQ K ρ H kvs vs)(k:List Int):match cW kvs k with
  |some d=>∃v,cy vs (k.map Sum.inl)=some v/\At K ρ H d v
  |none=>cy vs (k.map Sum.inl)=none:=by
 induction h with
 |nil=>rfl
 |@cons p q ps qs h t ih=>
  obtain⟨b,f⟩:=h;by_cases e:p.1=k
  ·have a:cW (p::ps) k=some p.2:=by simp[cW,lZ,e]
   rw[a];exact⟨q.2,we (by rw[b,e]),f⟩
  ·have a:cW (p::ps) k=cW ps k:=by simp[cW,lZ,e]
   have c:cy (q::qs) (k.map Sum.inl)=cy qs (k.map Sum.inl):=wd (by rw[b,B5];exact e);rw[a,c];exact ih
theorem dQ.keys{K:Fg}(h:dQ K ρ H kvs vs):vs.map (·.1)=(kvs.map (·.1)).map λa=>a.map Sum.inl:=by
 induction h with
 |nil=>rfl
 |@cons p q ps qs h t ih=>rw[cf,cf,cf,ih,h.1]
theorem dQ.put{K:Fg}(h:dQ K ρ H b c)(k:List Int) (a:At K ρ H d v):dQ K ρ H (iZ b k d) (eE c (k.map Sum.inl) v):=by
 have any:∀{b:List (List Int×D)}{c:List (List cI×V)},dQ K ρ H b c->(b.any λg=>decide (g.1=k))=(c.any λg=>decide (g.1=k.map Sum.inl)):=λh=>by
  induction h with
  |nil=>rfl
  |@cons p q ps qs h t ih=>
   rw[sG,sG,ih,h.1]
   congr 1
   simp only[B5]
 unfold iZ eE;rw[any h];split
 ·rename_i j;clear j any
  induction h with
  |nil=>exact .nil
  |@cons p q ps qs h t ih=>
   refine .cons ?_ ih;obtain⟨f,l⟩:=h;dsimp only;by_cases e:p.1=k
   ·rw[if_pos e,if_pos (by rw[f,e])];exact⟨f,a⟩
   ·rw[if_neg e,if_neg (by rw[f,B5];exact e)];exact⟨f,l⟩
 ·have i:∀{b:List (List Int×D)}{c:List (List cI×V)},dQ K ρ H b c->dQ K ρ H (b++[(k,d)]) (c++[(k.map Sum.inl,v)]):=λh=>by
   induction h with
   |nil=>exact .cons ⟨rfl,a⟩ .nil
   |cons h t ih=>exact .cons h ih
  exact i h
theorem dQ.drop{K:Fg}(h:dQ K ρ H kvs vs)(k:List Int):dQ K ρ H (iJ kvs k) (dA vs (k.map Sum.inl)):=by
 unfold iJ dA
 induction h with
 |nil=>exact .nil
 |@cons p q ps qs h t ih=>
  by_cases e:p.1=k
  ·rw[l9 (by simp[e]),l9 (by simp[h.1,e])];exact ih
  ·rw[l8 (by simp[e]),l8 (by simp[h.1,B5,e])];exact .cons h ih
theorem dQ.length{K:Fg}(h:dQ K ρ H kvs vs):kvs.length=vs.length:=sH h
def pairsOf(a:aa):D->Option (List (List Int×D))
 |.ref n=>match a[n]? with
  |some (.dT kvs)=>some kvs
  |some (.fT kvs)=>some kvs
  |_=>none
 |_=>none
theorem E5{K:Fg}(f:bP K ρ au H) (a:At K ρ H d u)(e:pairsOf au d=some kvs):∃p vs,u=.ref p/\Rd H p (.dT vs)/\dQ K ρ H kvs vs:=by
 unfold pairsOf at e;split at e
 ·split at e
  ·rename_i h;cases e;obtain⟨p,rfl,g,vs,b,c⟩:=ig f a h (by intro z;cases z);exact⟨p,vs,rfl,.inl b,c⟩
  ·rename_i h;cases e;obtain⟨p,rfl,g,vs,i,b,c⟩:=ig f a h (by intro z;cases z);exact⟨p,vs,rfl,.inr ⟨i,b⟩,c⟩
  ·cases e
 ·cases e
def eJ:D->Option (List Int)
 |.tup ds=>bC ds
 |_=>none
theorem si{K:Fg}(a:At K ρ H d u)(e:eJ d=some k):∃p,u=.ref p/\H p=some (.tup ((k.map (Sum.inl:Int->cI)).map kV)):=by
 unfold eJ at e;split at e
 ·cases a with
  |tup h1 h2 h3=>
   have:=qh h3 e;subst this;exact⟨_,rfl,by rw[yh];exact h1⟩
 ·cases e
theorem Ep{K:Fg}(i:bP K ρ au H) (a:At K ρ H d u)(b:At K ρ H y w)(e:pairsOf au d=some kvs)(f:eJ y=some k):
  ∃p o,u=.ref p/\jD H p w o/\match cW kvs k with
   |some z=>∃v,o=some v/\At K ρ H z v
   |none=>o=none:=by
 obtain⟨p,c,rfl,g,j⟩:=E5 i a e;obtain⟨q,rfl,h⟩:=si b f;refine⟨p,cy c (k.map Sum.inl),rfl,.inr ⟨c,_,q,g,rfl,h,rfl⟩,?_⟩;have:=j.val k;cases hv:cW kvs k with
 |none=>rw[hv] at this;exact this
 |some z=>rw[hv] at this;exact this
def i3(a:Bool) (y x:D) (b:aa):bJ D:=match eJ y,pairsOf b x with
 |some k,some kvs=>.ok (.bl (if a then !(cW kvs k).isSome else(cW kvs k).isSome)) b
 |_,_=>.stuck
def fv(x y:D) (a:aa):bJ D:=match pairsOf a x,eJ y with
 |some kvs,some k=>match cW kvs k with
  |some v=>.ok v a
  |none=>.stuck
 |_,_=>.stuck
def i8(f g h:SE):SE:=λd e=>(f d e).bind λx b=>match pairsOf b x with
 |some _=>(g d b).bind λy c=>(h d c).bind λz a=>match pairsOf a x,eJ y with
  |some kvs,some k=>.ok ((cW kvs k).getD z) a
  |_,_=>.stuck
 |none=>.stuck
def kL(f g:SE):SE:=λc d=>(f c d).bind λx b=>match pairsOf b x with
 |some _=>(g c b).bind λy a=>match x,eJ y with
  |.ref n,some k=>match a[n]? with
   |some (.dT kvs)=>match cW kvs k with
    |some v=>.ok v (a.set n (.dT (iJ kvs k)))
    |none=>.stuck
   |_=>.stuck
  |_,_=>.stuck
 |none=>.stuck
def gk(f g h:SE):SS:=λb e=>(h b e).bind λv d=>(f b d).bind λx c=>(g b c).bind λy a=>match x,eJ y with
 |.ref n,some k=>match a[n]? with
  |some (.dT kvs)=>if kvs.length<sizeLine then .ok (.nx b) (a.set n (.dT (iZ kvs k v))) else .stuck
  |_=>.stuck
 |_,_=>.stuck
def dZ:SE:=λ_ a=>.ok (.ref a.length) (a++[.dT []])
theorem xm{K:Fg}(f:bP K ρ au H) (a:At K ρ H d u)(e:pairsOf au d=some kvs):∃p,u=.ref p/\Ek H p:=by
 obtain⟨p,c,rfl,b,_⟩:=E5 f a e;exact⟨p,rfl,.inr ⟨c,b⟩⟩
theorem G6:DE X (.Dict [] [] pos) dZ:=fG MJ λh H Q b p f=>by
 obtain⟨g,j,i,v,d,a,c,e,q⟩:=b;cases e;obtain⟨E,R⟩:=c.alloc f (x:=.dT []) (o:=.dT []) λE=>⟨[],zq,.nil⟩
 exact q _ _ _ E R (.last c.len.symm)
theorem Gu{X:Cx}(t:X.A.units+1<cLine)(Y:DE X i g)(J:DE X o f):PC X .In i o (tD X.K (aU (i3 false) g f)):=λaW s T H Q I hq=>by
 refine Im t Y J aW s T H Q I ?_;obtain⟨ρ,d,S,v,U,a,E,e,q⟩:=hq;obtain⟨x,c,G,e⟩:=za e;obtain⟨y,h,P,e⟩:=za e;refine⟨ρ,d,S,x,c,a,E,G,λj H1 u r l a1=>?_⟩;refine⟨j,d,c,y,h,a.ext r,l,P,λa0 H2 w n b R=>?_⟩;unfold i3 at e;split at e
 ·rename_i z A h1 h2;cases e;obtain⟨p,m,rfl,C,g2⟩:=Ep b R (a1.ext n) h2 h1;refine⟨p,m,rfl,C,?_⟩;have:m.isSome=(cW A z).isSome:=by
   revert g2;split
   ·rename_i k;rintro⟨v,rfl,_⟩;rw[k];rfl
   ·rename_i k;rintro rfl;rw[k];rfl
  rw[this];exact q _ _ _ (r.trans n) b (.bl _)
 ·cases e
theorem tU(h:PC X op a b (tD X.K t))(c:behindInMarks op b=false:=by first|exact nobehind _ (by decide) (by decide)|rfl):DE X (.Compare a [op] [b] pos) t:=Iq h c
theorem Gb(h:PC X op a b (tD X.K t))(d:behindInMarks op b=false:=by first|exact nobehind _ (by decide) (by decide)|rfl):DT X (.Compare a [op] [b] pos) (eB t):=jV (IJ h d) λe H Q c=>tQ _ _ _ c
theorem G5{X:Cx}(s:X.A.units+1<cLine)(G:DE X o f)(U:DE X i g)(J:pW i):DE X (.Subscript o i pos) (aU fv f g):=fG (KD s G U J) λτ H Q d=>by
 obtain⟨ρ,m,R,v,S,a,C,e,q⟩:=d;obtain⟨x,c,E,e⟩:=za e;obtain⟨y,h,I,e⟩:=za e;refine⟨ρ,m,R,x,c,a,C,E,λj H1 u n k a1=>?_⟩;refine⟨j,m,c,y,h,a.ext n,k,I,λa0 H2 w l b P=>?_⟩;unfold fv at e;split at e
 ·rename_i h1 Y;split at e
  ·rename_i z T;cases e;obtain⟨p,oo,rfl,A,r⟩:=Ep b (a1.ext l) P h1 Y;rw[T] at r;obtain⟨t,rfl,g3⟩:=r;exact⟨p,t,rfl,A,q _ _ _ (n.trans l) b g3⟩
  ·cases e
 ·cases e
theorem Jr{X:Cx}(J:X.A.units + 1<cLine)(Y:DE X o f)(he:DE X e g)(hf:DE X f' h)(m:M2 X o "get" apos e f' cpos):DE X (.Call (.Attribute o "get" apos) [e,f'] [] cpos) (i8 f g h):=fG (MG J Y he hf m) λτ H Q k=>by
 obtain⟨ρ,n,au,v,a0,a,T,e,q⟩:=k;obtain⟨x,c,U,e⟩:=za e;refine⟨ρ,n,au,x,c,a,T,U,λs H1 u r i I=>?_⟩;split at e
 ·rename_i h0;obtain⟨p,rfl,hd⟩:=xm i I h0;obtain⟨y,d,e2,e⟩:=za e;obtain⟨z,E,e3,e⟩:=za e;refine⟨p,rfl,hd,?_⟩;refine⟨s,n,c,y,d,a.ext r,i,e2,λG H2 w l j a2=>?_⟩;refine⟨G,n,d,z,E,a.ext (r.trans l),j,e3,λa4 H3 t C b P=>?_⟩;split at e
  ·rename_i h1 h2;cases e;obtain⟨p',S,ep,R,g2⟩:=Ep b (I.ext (l.trans C)) (a2.ext C) h1 h2;cases ep;refine⟨S,R,q _ _ _ (r.trans (l.trans C)) b ?_⟩;revert g2;split
   ·rename_i A;rintro⟨vv,rfl,g3⟩;rw[A];exact g3
   ·rename_i A;rintro rfl;rw[A];exact P
  ·cases e
 ·cases e
theorem G7{X:Cx}(S:X.A.units + 1<cLine)(ho:DE X o f)(he:DE X e g)(m:M1 X o "pop" apos e cpos):DE X (.Call (.Attribute o "pop" apos) [e] [] cpos) (kL f g):=fG (MK S ho he m) λτ H Q l=>by
 obtain⟨ρ,A,au,v,a3,a,rp,e,q⟩:=l;obtain⟨x,i,e1,e⟩:=za e;refine⟨ρ,A,au,x,i,a,rp,e1,λs H1 u C d J=>?_⟩;split at e
 ·rename_i h0;obtain⟨p,rfl,hd⟩:=xm d J h0;obtain⟨y,r,e2,e⟩:=za e;refine⟨p,rfl,hd,?_⟩;refine⟨s,A,i,y,r,a.ext C,d,e2,λh H2 w t c a2=>?_⟩;split at e
  ·rename_i n k hk _;split at e
   ·rename_i a0 T;split at e
    ·rename_i z hv;cases e;obtain⟨p',ep,G,R,j,P⟩:=ig c (J.ext t) T (by intro z;cases z);cases ep;obtain⟨b,rfl,g3⟩:=si a2 hk;have I:=P.val k;rw[hv] at I;obtain⟨Y,g5,U⟩:=I;have E:bp h H2 h (ar H2 p (.dT (dA R (k.map Sum.inl)))):=bp.wr G (qc j) _;exact⟨R,_,Y,b,j,rfl,g3,g5,q _ _ _ ((C.trans t).trans E) (c.wr G (qc j) ⟨_,zq,(P.drop k).ext E⟩) (U.ext E)⟩
    ·cases e
   ·cases e
  ·cases e
 ·cases e
theorem JP{X:Cx}{j:Pos}(Y:X.A.units+1<cLine)(ho:DE X o f)(hi:DE X i g)(hv:DE X value h)(hs:swapsWith value (some (.Subscript o i pos')) j.line X.env=pure false):
  jN X (.Assign [.Subscript o i pos'] value j) (gk f g h):=nJ (KP Y ho hi hv hs) λE τ H I=>by
 obtain⟨ρ,J,au,fl,a4,a,rp,e,q⟩:=I;obtain⟨v,m,e1,e⟩:=za e;obtain⟨x,d,e2,e⟩:=za e;obtain⟨y,Q,e3,e⟩:=za e;refine⟨ρ,J,au,v,m,a,rp,e1,λP H1 u s R a1=>?_⟩;refine⟨P,J,m,x,d,a.ext s,R,e2,λS H2 w r G a2=>?_⟩;refine⟨S,J,d,y,Q,a.ext (s.trans r),G,e3,λl H3 t A c a3=>?_⟩;split at e
 ·rename_i n k hk _;split at e
  ·rename_i a0 hn;split at e
   ·rename_i hl;cases e;obtain⟨p,rfl,T,vs,C,U⟩:=ig c (a2.ext A) hn (by intro z;cases z);obtain⟨b,rfl,g3⟩:=si a3 hk;have E:bp l H3 l (ar H3 p (.dT (eE vs (k.map Sum.inl) u))):=bp.wr T (qc C) _;refine⟨p,_,rfl,nF.t C g3 (by rw[←U.length];exact hl),?_⟩;exact q _ _ _ ((s.trans (r.trans A)).trans E) (c.wr T (qc C) ⟨_,zq,(U.put k (a1.ext (r.trans A))).ext E⟩) (a.ext ((s.trans (r.trans A)).trans E))
   ·cases e
  ·cases e
 ·cases e
def bf:List D->aa->bJ D:=λb a=>match b with
 |[x]=>match (eY a x).bind fD with
  |some l=>if l.length<=1000000 then .ok (.lst (aJ (aX l))) a else .stuck
  |none=>match pairsOf a x with
   |some kvs=>if kvs.length<=1000000 then .ok (.lst (aJ (aX (kvs.map (·.1))))) a else .stuck
   |none=>.stuck
 |_=>.stuck
theorem oJ{K:Fg}:jO K bf (λm H Q=>f7 K m H Q\/fA m H Q):=λR H P m J z G Q c E e q=>by
 unfold bf at e;split at e
 ·obtain⟨u,rfl,a⟩:=E.one;split at e
  ·rename_i l o;obtain⟨I,C,o⟩:=sW.mp o;split at e
   ·rename_i b;cases e;obtain⟨p,y,rfl,r,n⟩:=lP c a C;obtain⟨v,rfl,rfl,s⟩:=QN n o;rw[az] at b;refine .inl ⟨p,v,rfl,du.of r,b,λx f=>bH.of (s x f).1,λt h d i k=>?_⟩;have j:h.map (·.2)=aX (v.map (·.2)):=Fb (i.map _) k;refine q _ _ _ (bp.new d _) (c.new d _) (.newL c d ?_);rw[←j];exact Fa h λx f=>s x (i.mem_iff.mp f)
   ·cases e
  ·split at e
   ·rename_i g A;split at e
    ·rename_i b;cases e;obtain⟨p,y,rfl,r,n⟩:=E5 c a A;refine .inr ⟨p,y,g.map (·.1),rfl,r,n.keys,by rw[az];exact b,λt h d i k w=>?_⟩;have j:h.map (·.2)=aX (g.map (·.1)):=Fb i k;refine q _ _ _ (bp.new d _) (c.new d _) (.newL c d ?_);rw[←j];exact Fa h λx f=>⟨w x f,wl c (w x f)⟩
    ·cases e
   ·cases e
 ·cases e
theorem oX{X:Cx}(c:X.calm=true)(b:X.A.units + 64<cLine):bV X (.builtin "sorted") (λa H Q=>f7 X.K a H Q\/fA a H Q):=(U1 b).or (Va c b)
def bO(f:SE) (g:SA):SE:=λc e=>(f c e).bind λx b=>match x,eY b x with
 |.ref n,some _=>(g c b).bind λd a=>match d,a[n]? with
  |[y],some (.lst xs)=>if xs.length<sizeLine then .ok .non (a.set n (.lst (xs++[y]))) else .stuck
  |_,_=>.stuck
 |_,_=>.stuck
def fh(f:SE) (g:SA):SE:=λc e=>(f c e).bind λx b=>match x,eY b x with
 |.ref n,some _=>(g c b).bind λd a=>match d,a[n]? with
  |[y],some (.lst xs)=>match eY a y with
   |some zs=>if xs.length+zs.length<=sizeLine then .ok .non (a.set n (.lst (xs++zs))) else .stuck
   |none=>.stuck
  |_,_=>.stuck
 |_,_=>.stuck
def pU(f:SE):SE:=λc b=>(f c b).bind λx a=>match x with
 |.ref n=>match a[n]? with
  |some (.lst xs)=>match xs[xs.length-1]? with
   |some y=>.ok y (a.set n (.lst xs.dropLast))
   |none=>.stuck
  |_=>.stuck
 |_=>.stuck
theorem ae.dropLast{K:Fg}:∀{c:List D}{d:List V},ae K ρ H c d->ae K ρ H c.dropLast d.dropLast
 |_,_,.nil=>.nil
 |_,_,.cons a .nil=>.nil
 |_,_,.cons a (.cons b t)=>.cons a (ae.dropLast (.cons b t))
theorem LF{c:Pos}(ho:DE X o f)(ha:DA X (e::es) ga)(g:attributeBase o "append" X.env (eval o X.env)=eval o X.env:=by rfl)
  (j:((backTo cpos (starEach (e::es) X.env)).all (λx=>!x.1)&&(backToKw cpos (keywordEach [] X.env)).all (λx=>x.1.isSome)
   && decide ((e::es).length+([]:List Keyword).length+(if([]:List Keyword).isEmpty then 0 else 1)<30))=true:=by rfl)
  (d:(c.endLine==cpos.line)=true:=by rfl)(hs:starEach (e::es) X.env=(false,eval e X.env)::starEach es X.env:=by rfl)(b:(backTo cpos (starEach es X.env)).any (·.1)=false:=by rfl):
  DE X (.Call (.Attribute o "append" c) (e::es) [] cpos) (bO f ga):=fG (oV OD F.slot_list_append F.type_list_append Q9 ho ha g j d hs b) λτ H Q r=>by
 obtain⟨ρ,G,au,v,a0,a,rp,e,q⟩:=r;obtain⟨x,m,e1,e⟩:=za e;refine⟨ρ,G,au,x,m,a,rp,e1,λA H1 u I k R=>?_⟩;split at e
 ·rename_i n _ hL;obtain⟨S,s,e2,e⟩:=za e;obtain⟨p,vs,rfl,Y,g2⟩:=lP k R hL;refine⟨.inl ⟨rfl,_,du.of Y⟩,A,G,m,S,s,a.ext I,k,e2,λl H2 ws C i a2=>?_⟩;split at e
  ·rename_i y xs U;split at e
   ·rename_i hl;cases e;obtain⟨w,rfl,T⟩:=a2.one;obtain⟨p',ep,P,h,t,J⟩:=ig i (R.ext C) U (by intro z;cases z);cases ep;have E:bp l H2 l (ar H2 p (.lst (h++[w]))):=bp.wr P (qg t) _;exact⟨p,h,w,rfl,rfl,t,by rw[J.length];exact hl,q _ _ _ ((I.trans C).trans E) (i.wr P (qg t) ⟨_,zq,(J.append (.cons T .nil)).ext E⟩) .non⟩
   ·cases e
  ·cases e
 ·cases e
theorem LJ{d:Pos}(ho:DE X o f)(ha:DA X (e::es) ga)(i:attributeBase o "extend" X.env (eval o X.env)=eval o X.env:=by rfl)
  (k:((backTo cpos (starEach (e::es) X.env)).all (λx=>!x.1)&&(backToKw cpos (keywordEach [] X.env)).all (λx=>x.1.isSome)
   && decide ((e::es).length+([]:List Keyword).length+(if([]:List Keyword).isEmpty then 0 else 1)<30))=true:=by rfl)
  (h:(d.endLine==cpos.line)=true:=by rfl)(hs:starEach (e::es) X.env=(false,eval e X.env)::starEach es X.env:=by rfl)(c:(backTo cpos (starEach es X.env)).any (·.1)=false:=by rfl):
  DE X (.Call (.Attribute o "extend" d) (e::es) [] cpos) (fh f ga):=fG (oV OD F.slot_list_extend F.type_list_extend NW ho ha i k h hs c) λτ H Q t=>by
 obtain⟨ρ,J,au,v,a0,a,rp,e,q⟩:=t;obtain⟨x,s,e1,e⟩:=za e;refine⟨ρ,J,au,x,s,a,rp,e1,λG H1 u P l U=>?_⟩;split at e
 ·rename_i n _ hL;obtain⟨Y,A,e2,e⟩:=za e;obtain⟨p,vs,rfl,g1,g2⟩:=lP l U hL;refine⟨.inl ⟨rfl,_,du.of g1⟩,G,J,s,Y,A,a.ext P,l,e2,λm H2 ws I g a2=>?_⟩;split at e
  ·rename_i y xs hn;split at e
   ·rename_i zs hz;split at e
    ·rename_i hl;cases e;obtain⟨w,rfl,a3⟩:=a2.one;obtain⟨p',ep,S,j,C,R⟩:=ig g (U.ext I) hn (by intro z;cases z);cases ep;obtain⟨b,r,rfl,m1,T⟩:=lP g a3 hz;have E:bp m H2 m (ar H2 p (.lst (j++r))):=bp.wr S (qg C) _;exact⟨p,b,j,r,rfl,rfl,C,m1,by rw[R.length,T.length];exact hl,q _ _ _ ((P.trans I).trans E) (g.wr S (qg C) ⟨_,zq,(R.append T).ext E⟩) .non⟩
    ·cases e
   ·cases e
  ·cases e
 ·cases e
theorem rH{c:Pos}{b:Pos}(J:DE X o f)(g:attributeBase o "pop" X.env (eval o X.env)=eval o X.env:=by rfl)(d:(c.endLine==b.line)=true:=by rfl):DE X (.Call (.Attribute o "pop" c) [] [] b) (pU f):=
 fG (Ip OD F.slot_list_pop F.type_list_pop HV J g d) λτ H Q l=>by
 obtain⟨Y,R,P,v,T,a,C,e,q⟩:=l;obtain⟨x,r,G,e⟩:=za e;refine⟨Y,R,P,x,r,a,C,G,λi H1 u S j a1=>?_⟩;split at e
 ·split at e
  ·rename_i n _ xs A;split at e
   ·rename_i y U;cases e;obtain⟨p,rfl,s,h,k,m⟩:=ig j a1 A (by intro z;cases z);obtain⟨w,I,t⟩:=m.get U;have E:bp i H1 i (ar H1 p (.lst h.dropLast)):=bp.wr s (qg k) _;exact⟨.inl ⟨rfl,_,du.of k⟩,p,h,w,rfl,rfl,k,by rw[m.length];exact I,q _ _ _ (S.trans E) (j.wr s (qg k) ⟨_,zq,m.dropLast.ext E⟩) (t.ext E)⟩
   ·cases e
  ·cases e
 ·cases e
def mi(f:SE):SE:=λc b=>(f c b).bind λx a=>match x with
 |.ref n=>match a[n]? with
  |some (.lst xs)=>.ok (.lst xs) (a.set n .dead)
  |_=>.stuck
 |_=>.stuck
theorem PJ(t:DE X o f):DE X o (mi f):=fG t λY H Q g=>by
 obtain⟨S,A,y,v,G,a,r,e,q⟩:=g;obtain⟨x,k,s,e⟩:=za e;refine⟨S,A,y,x,k,a,r,s,λh H1 u C b T=>?_⟩;split at e
 ·rename_i n;split at e
  ·rename_i U l;cases e;obtain⟨p,rfl,j,m,I,J⟩:=ig b T l (by intro z;cases z);have c:=(cn.mp j).1;obtain⟨E,R⟩:=b.kill c;refine q _ _ _ (C.trans E) R (.lst I ⟨λz=>?_,λz=>(b.gh p z).2 (db j)⟩ (J.ext E));obtain⟨i,P,w⟩:=pE z;have d:(h.m.set n none)[i]?=some (some p):=by rw[dr P,w]
   by_cases hin:i=n
   ·subst hin;rw[pH c] at d;simp at d
   ·rw[dU (cJ hin)] at d;exact hin (b.inj i n p d j)
  ·cases e
 ·cases e
def fK:SS:=λb a=>.ok (.nx b) a
def zW:SS:=λb a=>.ok (.brk b) a
def V4:SS:=λb a=>.ok (.ct b) a
def aY(f:SE):SS:=λc b=>(f c b).bind λv a=>.ok (.ret v) a
def qK:SS:=λ_ a=>.ok (.ret .non) a
def bq(f:SE):SS:=λb c=>(f b c).bind λ_ a=>.ok (.nx b) a
def aF(i:Nat) (f:SE):SS:=λb c=>(f b c).bind λv a=>.ok (.nx (b.set i (some v))) a
def aD(s t:SS):SS:=λb a=>match s b a with
 |.ok (.nx σ1) st1=>t σ1 st1
 |r=>r
def ft(c:ST) (s t:SS):SS:=λd e=>(c d e).bind λb a=>if b=true then s d a else t d a
def lw(i:Nat) (g:D->D->aa->bJ D) (f:SE):SS:=λc d=>match c[i]? with
 |some (some x)=>(f c d).bind λy b=>(g x y b).bind λz a=>.ok (.nx (c.set i (some z))) a
 |_=>.stuck
def fz(f g h:SE):SS:=λb e=>(h b e).bind λv d=>(f b d).bind λx c=>(g b c).bind λy a=>match x,y with
 |.ref n,.int k=>match a[n]? with
  |some (.lst xs)=>match kH xs.length k with
   |some j=>.ok (.nx b) (a.set n (.lst (xs.set j v)))
   |none=>.stuck
  |_=>.stuck
 |_,_=>.stuck
theorem Hl:nE X [] fK:=xI KS λE h H b=>by
 obtain⟨g,j,i,f,c,a,d,e,q⟩:=b;cases e;exact q _ _ _ (.refl _ _) d a
theorem Hn(n:DE X e f):jN X (.Return (some e) pos) (aY f):=nJ (IG n) λE s H b=>by
 obtain⟨h,p,m,r,g,a,k,e,q⟩:=b;obtain⟨x,o,l,e⟩:=za e;cases e;exact⟨h,p,m,x,_,a,k,l,λj H1 u d c i=>q _ _ _ d c i⟩
theorem JQ{b:Pos}(o:DE X e f)(j:swapsWith e none b.line X.env=pure false:=by rfl):jN X (.Expr e b) (bq f):=nJ (KQ o j) λE t H c=>by
 obtain⟨i,r,n,s,h,a,l,e,q⟩:=c;obtain⟨x,p,m,e⟩:=za e;cases e;exact⟨i,r,n,x,_,a,l,m,λk H1 u g d v=>q _ _ _ g d (a.ext g)⟩
theorem GF{K:Fg}:∀E d H,Ea K (aF i f) E d H->pO (tD K f) (jx i) E d H:=λE d H b=>by
 obtain⟨j,r,o,s,h,a,m,e,q⟩:=b;obtain⟨x,p,n,e⟩:=za e;cases e;exact⟨j,r,o,x,_,a,m,n,λl H1 u g c k=>q _ _ _ g c ((a.ext g).set k i)⟩
theorem Ho{X:Cx}{a:Pos}(c:X.N.Nodup)(g:X.N[i]?=some x)(d:L2.Loc X.env.scope x)(h:DE X e f)(b:swapsWith e (some (.Name x pos')) a.line X.env=pure false:=by rfl)(j:X.fn x=true\/X.env.scope.names.lookup x=some .local:=by first|exact .inl rfl|exact .inr rfl|assumption):
 jN X (.Assign [.Name x pos'] e a) (aF i f):=nJ (IH c g d h b j) GF
theorem Hm(a:jN X sm s):nE X [sm] s:=KU a
section
variable {X:Cx}{e:Expr}{sm:Stmt}{rest:List Stmt}{s:SS}{t:SS}
theorem JN(x:jN X sm s)(r:nE X rest t):nE X (sm::rest) (aD s t):=xI (MU x r) λE y H f=>by
 obtain⟨n,m,l,h,b,a,k,e,q⟩:=f;unfold aD at e;split at e
 ·rename_i d c o;exact⟨n,m,l,_,c,a,k,o,λi H1 w p j u=>⟨i,d,c,h,b,u,j,e,q.ext p⟩⟩
 ·rename_i g;refine⟨n,m,l,h,b,a,k,e,?_⟩;cases h with
  |nx σ'=>exact absurd e (g σ' b)
  |brk σ'=>exact q
  |ct σ'=>exact q
  |ret v=>exact q
end
theorem Ga(p:DT X c b)(m:nE X a' s)(o:nE X b' t):jN X (.If c a' b' pos) (ft b s t):=nJ (GB p m o) λE w H j=>by
 obtain⟨n,k,v,l,f,a,r,e,q⟩:=j;obtain⟨x,d,u,e⟩:=za e;refine⟨n,k,v,x,d,a,r,u,λh H1 i g=>?_⟩;cases x with
 |true=>exact lE ⟨h,k,d,l,f,a.ext i,g,e,q.ext i⟩
 |false=>exact lF ⟨h,k,d,l,f,a.ext i,g,e,q.ext i⟩
def P4(K:Fg) (g:D->D->aa->bJ D) (r:BI):Prop:=
 ∀c H e x y u v z b (Q:VK),bP K c e H->At K c H x u->At K c H y v->g x y e=.ok z b->(∀a d w,bp c H a d->bP K a b d->At K a d z w->Q w d)->r u v H Q
theorem Hj{X:Cx}(r:X.N.Nodup)(S:X.N[i]?=some x)(hx:L2.Loc X.env.scope x)(T:DE X e f)(v:Eg X op ti)(A:P4 X.K g ti)(P:X.fn x=true\/X.env.scope.names.lookup x=some .local:=by first|exact .inl rfl|exact .inr rfl|assumption):
  jN X (.AugAssign (.Name x pos') op e pos) (lw i g f):=nJ (IE r S hx T v P) λE τ H h=>by
 obtain⟨U,Q,J,fl,k,a,s,e,q⟩:=h;unfold lw at e;split at e
 ·rename_i d R;obtain⟨y,b,t,e⟩:=za e;obtain⟨z,G,C,e⟩:=za e;cases e;obtain⟨u,o,p⟩:=a.get R;refine⟨u,o,U,Q,J,y,b,a,s,t,λl H1 w j m Y=>?_⟩;exact A l H1 b d y u w z k _ m (p.ext j) Y C λa3 H2 zz n c I=>q _ _ _ (j.trans n) c ((a.ext (j.trans n)).set I i)
 ·cases e
theorem Pp{K:Fg}:P4 K (oI (λ_ _=>True) λi j=>.int (p i j)) (SD p):=λg H f x y u v z c Q d a b e q=>by
 unfold oI at e;split at e
 ·cases a;cases b;rw[if_pos True.intro] at e;cases e;exact⟨_,_,rfl,rfl,q _ _ _ (.refl _ _) d (.int _)⟩
 ·cases e
theorem LS{d:Pos}(he:DE X value h)(ho:DE X o f)(hi:DE X i g)(ha:∀v,assign (.Subscript o i pos') X.env v=(do
   let ov ←holding [v] (eval o X.env)
   let iv ←holding [v,ov] (eval i X.env)
   standAt pos'
   holding [v,ov,iv] (setItem ov iv v)
   release [v,ov,iv] []):=by intro _;rfl)
  (hs:swapsWithSole [.Subscript o i pos'] value d.line X.env=pure false:=by rfl)(hw:swappedStores [.Subscript o i pos'] value X.env=pure none:=by rfl)
  (h1:(assignEach [.Subscript o i pos'] X.env).map (·.2)=[assign (.Subscript o i pos') X.env]:=by rfl):jN X (.Assign [.Subscript o i pos'] value d) (fz f g h):=
 nJ (ID he (Iy ho hi M8 ha) hs hw h1) λE τ H I=>by
 obtain⟨ρ,J,au,fl,a0,a,rp,e,q⟩:=I;obtain⟨v,m,e1,e⟩:=za e;obtain⟨x,c,e2,e⟩:=za e;obtain⟨y,Q,e3,e⟩:=za e;refine⟨ρ,J,au,v,m,a,rp,e1,λP H1 u s R a1=>?_⟩;refine⟨P,J,m,x,c,a.ext s,R,e2,λS H2 w r G a2=>?_⟩;refine⟨S,J,c,y,Q,a.ext (s.trans r),G,e3,λl H3 t A b a3=>?_⟩;split at e
 ·rename_i n k _;split at e
  ·rename_i xs hn;split at e
   ·rename_i j hj;cases e;cases a3;obtain⟨p,rfl,T,Y,C,U⟩:=ig b (a2.ext A) hn (by intro z;cases z);have E:bp l H3 l (ar H3 p (.lst (Y.set j u))):=bp.wr T (qg C) _;refine⟨p,Y,k,j,rfl,rfl,C,by rw[U.length];exact hj,?_⟩;exact q _ _ _ ((s.trans (r.trans A)).trans E) (b.wr T (qg C) ⟨_,zq,(U.set (a1.ext (r.trans A)) j).ext E⟩) (a.ext ((s.trans (r.trans A)).trans E))
   ·cases e
  ·cases e
 ·cases e
abbrev SG:=D->DS->Option DS
def gN(i:Nat):SG:=λd a=>some (a.set i (some d))
def dh:List D->DS->Option DS:=λa b=>match a with
 |[]=>some b
 |_=>none
def av(t:SG) (u:List D->DS->Option DS):List D->DS->Option DS:=λb c=>match b with
 |d::r=>(t d c).bind λa=>u r a
 |_=>none
def gT(n:Nat) (u:List D->DS->Option DS):SG:=λd a=>match d with
 |.tup ds=>if ds.length=n then u ds a else none
 |_=>none
def gD(K:Fg) (b:SG):TG:=λv g H Q=>∃e f d c,dm K e H f g/\At K e H d v/\b d f=some c/\∀a,dm K e H c a->Q a H
def V9(K:Fg) (b:List D->DS->Option DS):uc:=λh g H Q=>∃d f e c,dm K d H f g/\ae K d H e h/\b e f=some c/\∀a,dm K d H c a->Q a H
abbrev DG(X:Cx) (a:Expr) (b:SG):Prop:=PG X a (gD X.K b)
abbrev BO(X:Cx) (a:List Expr) (b:List D->DS->Option DS):Prop:=ud X a (V9 X.K b)
theorem wM(h:PG X e g)(k:∀v a H Q,g' v a H Q->g v a H Q):PG X e g':=λb s c H v u Q I r q=>h b s c H v u Q I r (k _ _ _ _ q)
theorem xH(h:ud X es g)(k:∀v a H Q,g' v a H Q->g v a H Q):ud X es g':=λb s c H v u Q I r q=>h b s c H v u Q I r (k _ _ _ _ q)
theorem Jy{X:Cx}(f:X.N.Nodup)(j:X.N[i]?=some x)(g:L2.Loc X.env.scope x)(k:X.fn x=true\/X.env.scope.names.lookup x=some .local:=by first|exact .inl rfl|exact .inr rfl|assumption):DG X (.Name x pos) (gN i):=
 wM (KF f j g k) λv m H Q c=>by
 obtain⟨l,n,d,h,a,b,e,q⟩:=c;cases e;exact q _ (a.set b i)
theorem Jz:BO X [] dh:=xH KG λv h H Q c=>by
 obtain⟨g,i,d,f,a,b,e,q⟩:=c;unfold dh at e;split at e
 ·cases e;cases b;exact⟨rfl,q _ a⟩
 ·cases e
theorem LM(j:DG X e t)(o:BO X es u)(k:(assignEach (e::es) X.env).map (·.2)=assign e X.env::(assignEach es X.env).map (·.2):=by rfl):BO X (e::es) (av t u):=
 xH (MO j o k) λv r H Q f=>by
 obtain⟨h,p,d,g,a,b,e,q⟩:=f;unfold av at e;split at e
 ·obtain⟨c,n,i⟩:=sW.mp e;cases b with
  |cons b1 b2=>exact⟨_,_,rfl,h,p,_,c,a,b1,n,λm l=>⟨h,c,_,g,l,b2,i,q⟩⟩
 ·cases e
theorem Hf{X:Cx}(m:X.calm=true)(h:BO X es u)(i:(assignEach es X.env).length=n:=by rfl)(c:(assignEach es X.env).findIdx? (·.1)=none:=by rfl):DG X (.Tuple es k pos) (gT n u):=
 wM (Iz m h i c) λv p H Q f=>by
 obtain⟨j,o,d,g,a,b,e,q⟩:=f;unfold gT at e;split at e
 ·split at e
  ·rename_i l;cases b with
   |tup h1 h2 h3=>exact⟨_,_,rfl,bH.of h1,by rw[h3.length];exact l,j,o,_,g,a,h3,e,q⟩
  ·cases e
 ·cases e
structure fe (ρ:Loc) (H:Hp) (ρ':Loc) (H':Hp):Prop where
 len:ρ.m.length<=ρ'.m.length
 old:∀(n:Nat) (a:Addr),n < ρ.m.length->ρ'.m[n]?=some (some a)->ρ.m[n]?=some (some a)
 keep:∀a o,H a=some o->some a∉ρ.m->H' a=some o/\some a∉ρ'.m
 gho:∀a∈ρ'.g,a∈ρ.g\/H a=none
 frz:∀a ob u,H a=some (.frz ob u)->H' a=some (.frz ob u)
theorem bp.toG(x:bp ρ H ρ' H'):fe ρ H ρ' H':=⟨x.len,x.old,x.keep,λa h=>.inl (by rw[←x.gho];exact h),x.frz⟩
theorem fe.then(a:fe ρ H ρ1 H1)(b:bp ρ1 H1 ρ2 H2):fe ρ H ρ2 H2:=
 ⟨ay a.len b.len,λn c h e=>a.old n c h (b.old n c (dq h a.len) e),λc o e n=>by
  obtain⟨f,g⟩:=a.keep c o e n
  exact b.keep c o f g,λc h=>a.gho c (by rw[←b.gho];exact h),λc d u e=>b.frz c d u (a.frz c d u e)⟩
theorem fe.out(x:fe ρ H ρ' H') (h:H a=some o)(n:ew ρ a):H' a=some o/\ew ρ' a:=
 ⟨(x.keep a o h n.1).1,(x.keep a o h n.1).2,λz=>by
  rcases x.gho a z with q|q
  ·exact n.2 q
  ·rw[h] at q;cases q⟩
theorem fe.mv(x:fe ρ H ρ' H'):Mv ρ H ρ' H':=⟨λh n=>x.out h n,x.len,x.old⟩
theorem At.extG{K:Fg}(x:fe ρ H ρ' H') (h:At K ρ H d v):At K ρ' H' d v:=h.mv x.mv
theorem Ls.extG{K:Fg}(x:fe ρ H ρ' H')(h:Ls K ρ H a vs):Ls K ρ' H' a vs:=h.mv x.mv
structure nB (K:Fg) (ρ:Loc) (H:Hp) (J:It) (xs:List D):Prop where
 item:∀ρ2 H2,fe ρ H ρ2 H2->∀(i:Nat) (x:D),xs[i]?=some x->J.go i H2/\∀y H3,J.yld i H2 y H3->bp ρ2 H2 ρ2 H3/\∀au,bP K ρ2 au H2->bP K ρ2 au H3/\At K ρ2 H3 x y
 done:∀ρ2 H2,fe ρ H ρ2 H2->∀i:Nat,xs.length<=i->J.stop i H2
def iD(K:Fg) (f:SA):TI:=λi H R=>∃d h g e b,dm K d H h i/\bP K d g H/\f h g=.ok e b/\∀a c J,bp d H a c->bP K a b c->nB K a c J e->R J c
abbrev DI(X:Cx) (a iter:Expr) (f:SA):Prop:=PI X a iter (iD X.K f)
noncomputable def fY:D->Option (List D)
 |.tup xs=>some xs
 |.lst xs=>some xs
 |.scr xs=>some xs
 |_=>none
def aH(f:SE):SA:=λc b=>(f c b).bind λx a=>match fY x with
 |some xs=>.ok xs a
 |none=>.stuck
noncomputable def rng(lo:Int) (n:Nat):List D:=(List.range n).map λ(i:Nat)=>D.int (lo+i)
def jw(g:SA):SA:=λd c=>(g d c).bind λb a=>match b with
 |[.int j]=>if -(2^62)<=j/\j<2^62 then .ok (rng 0 j.toNat) a else .stuck
 |_=>.stuck
def tM(g:SA):SA:=λd c=>(g d c).bind λb a=>match b with
 |[.int i,.int j]=>if -(2^62)<=i/\i<2^62/\-(2^62)<=j/\j<2^62 then .ok (rng i (j-i).toNat) a else .stuck
 |_=>.stuck
theorem rg{lo:Int}(h:(rng lo n)[i]?=some x):i<n/\x=.int (lo+i):=by
 unfold rng at h;rw[fq] at h;rcases mG i n with z|z
 ·rw[List.getElem?_range z] at h;exact⟨z,(fW h).symm⟩
 ·rw[zC (by rw[qy];exact z)] at h;cases h
theorem xn{K:Fg}{lo:Int}:nB K ρ H (BN lo n) (rng lo n) where
 item:=λa H2 x i d e=>by
  obtain⟨b,rfl⟩:=rg e;refine⟨b,λy H3 c=>?_⟩;obtain⟨rfl,rfl⟩:=c;exact⟨.refl _ _,λ_ r=>⟨r,.int _⟩⟩
 done:=λa H2 x i h=>by
  unfold rng at h;rw[az,qy] at h;exact h
theorem jU(h:PI X tg l t)(k:∀a H R,t' a H R->t a H R):PI X tg l t':=λb s c H R I q=>h b s c H R I (k _ _ _ q)
theorem Gz(h:PI X tg l t)(d:PI X tg l t'):PI X tg l (λb H R=>t b H R\/t' b H R):=λa s c H R I q=>by
 rcases q with q|q
 ·exact h a s c H R I q
 ·exact d a s c H R I q
theorem xR{K:Fg}(c:∀b H2,fe ρ H b H2->du K H2 p vs)(f:ae K ρ H xs vs):nB K ρ H (P3 K p) xs where
 item:=λb H2 x i d e=>by
  obtain⟨v,g,a⟩:=f.get e;refine⟨⟨vs,v,c _ _ x,g⟩,λy H3 j=>?_⟩;obtain⟨rfl,k⟩:=j;have:=k vs (c _ _ x);rw[g] at this;cases this;exact⟨.refl _ _,λ_ r=>⟨r,a.extG x⟩⟩
 done:=λb H2 x i h=>⟨vs,c _ _ x,by rw[f.length];exact h⟩
theorem GO{K:Fg}(c:∀b H2,fe ρ H b H2->bH K H2 p vs)(f:ae K ρ H xs vs):nB K ρ H (P2 K p) xs where
 item:=λb H2 x i d e=>by
  obtain⟨v,g,a⟩:=f.get e;refine⟨⟨vs,v,c _ _ x,g⟩,λy H3 j=>?_⟩;obtain⟨rfl,k⟩:=j;have:=k vs (c _ _ x);rw[g] at this;cases this;exact⟨.refl _ _,λ_ r=>⟨r,a.extG x⟩⟩
 done:=λb H2 x i h=>⟨vs,c _ _ x,by rw[f.length];exact h⟩
theorem Hh(r:DE X l f):DI X tg l (aH f):=jU (Gz (KI r) (IB r)) λw H R k=>by
 obtain⟨j,p,o,v,s,a,m,e,q⟩:=k;obtain⟨x,t,n,e⟩:=za e;cases x with
 |tup ys=>
  cases e;refine .inr ⟨j,p,o,_,_,a,m,n,λi H1 u c b g=>?_⟩;cases g with
  |tup h1 h2 h3=>exact⟨_,rfl,⟨_,bH.of h1⟩,q _ _ _ c b (GO (λh H2 d=>bH.of (d.out h1 h2).1) h3)⟩
 |lst ys=>
  cases e;refine .inl ⟨j,p,o,_,_,a,m,n,λi H1 u c b g=>?_⟩;cases g with
  |lst h1 h2 h3=>exact⟨_,rfl,⟨_,du.of h1⟩,q _ _ _ c b (xR (λh H2 d=>du.of (d.out h1 h2).1) h3)⟩
 |scr ys=>
  cases e;refine .inl ⟨j,p,o,_,_,a,m,n,λi H1 u c b g=>?_⟩;cases g with
  |scr h1 h3=>exact⟨_,rfl,⟨_,h1.sq⟩,q _ _ _ c b (xR (λh H2 d=>(h1.extG d).sq) h3)⟩
 |_=>cases e
theorem NB(h:Gl X "range")(f:X.mg "range"=none)(r:DA X [a] g)(k:starEach [a] X.env=[(false,eval a X.env)]:=by rfl):DI X tg (.Call (.Name "range" p) [a] [] pos) (jw g):=
 jU (S7 h f r k) λC H R b=>by
 obtain⟨v,n,m,A,s,a,i,e,q⟩:=b;obtain⟨x,z,j,e⟩:=za e;split at e
 ·split at e
  ·rename_i d;cases e;refine⟨v,n,m,_,_,a,i,j,λt H1 u o c y=>?_⟩;obtain⟨w,rfl,l⟩:=y.one;cases l;exact⟨_,rfl,d.1,d.2,q _ _ _ o c xn⟩
  ·cases e
 ·cases e
theorem NC(j:Gl X "range")(i:X.mg "range"=none)(v:DA X [a,b] g)(n:starEach [a,b] X.env=[(false,eval a X.env),(false,eval b X.env)]:=by rfl)(d:starEach [b] X.env=[(false,eval b X.env)]:=by rfl):DI X tg (.Call (.Name "range" p) [a,b] [] pos) (tM g):=
 jU (S8 j i v n d) λJ H R c=>by
 obtain⟨A,s,r,I,y,a,l,e,q⟩:=c;obtain⟨x,E,m,e⟩:=za e;split at e
 ·split at e
  ·rename_i k;cases e;refine⟨A,s,r,_,_,a,l,m,λz H1 u t f C=>?_⟩;obtain⟨w,G,rfl,o,h⟩:=C.two;cases o;cases h;exact⟨_,_,rfl,k,q _ _ _ t f xn⟩
  ·cases e
 ·cases e
def iH(f:SE):SA:=λc b=>(f c b).bind λx a=>match x with
 |.ref n=>match a[n]? with
  |some (.dT kvs)=>.ok (aJ (kvs.map (·.1))) (a.set n (.fT kvs))
  |_=>.stuck
 |_=>.stuck
theorem JD(hl:DE X l f):DI X tg l (iH f):=jU (KH hl) λτ H R v=>by
 obtain⟨ρ,σ,Y,xs,a0,a,T,e,q⟩:=v;obtain⟨x,k,U,e⟩:=za e;refine⟨ρ,σ,Y,x,k,a,T,U,λb H1 u x1 g a1=>?_⟩;split at e
 ·rename_i n;split at e
  ·rename_i c S;cases e;obtain⟨p,rfl,I,s,t,J⟩:=ig g a1 S (by intro z;cases z);refine⟨p,s,c.map (·.1),rfl,t,J.keys,λw G P h2=>?_⟩;have E:bp b H1 b (ar H1 p (.frz w (.dT s))):=bp.wr I (qc t) _;have R:bP X.K b (k.set n (.fT c)) (ar H1 p (.frz w (.dT s))):=g.wr I (qc t) ⟨s,w,zq,J.ext E⟩;refine q _ _ _ (x1.trans E) R ⟨λA H2 o i d e=>?_,λA H2 o i h=>?_⟩
   ·have m:(G.map (·.2))[i]?=(c.map (·.1))[i]?:=by rw[P]
    unfold aJ at e;rw[fq,←m,fq] at e;cases hi:G[i]? with
    |none=>rw[hi] at e;cases e
    |some x=>
     rw[hi] at e;cases e;refine⟨⟨(cn.mp hi).1,o.frz _ _ _ zq⟩,λy H3 hy=>?_⟩;obtain⟨rfl,x',j,rfl⟩:=hy;rw[hi] at j;cases j;have C:=h2 x (db hi);have Q:At X.K b H1 (aL x.2) (.ref x.1):=.tup C (wl g C) (uG _);exact⟨.refl _ _,λ_ r=>⟨r,(Q.ext E).extG o⟩⟩
   ·have m:=congrArg List.length P;rw[az] at m;unfold aJ at h;rw[az,←m] at h;exact⟨h,o.frz _ _ _ zq⟩
  ·cases e
 ·cases e
def dk(b:SG) (a:SS):List D->SS
 |[],σ,au=>.ok (.nx σ) au
 |x::xs,σ,au=>match b x σ with
  |none=>.stuck
  |some σ1=>match a σ1 au with
   |.ok (.nx σ2) st2=>dk b a xs σ2 st2
   |.ok (.ct σ2) st2=>dk b a xs σ2 st2
   |.ok (.brk σ2) st2=>.ok (.nx σ2) st2
   |r=>r
def bz(f:SA) (e:SG) (a:SS):SS:=λc g=>(f c g).bind λd b=>dk e a d c b
def dv(c:ST) (a:SS):Nat->SS
 |0,_,_=>.stuck
 |n+1,σ,au=>(c σ au).bind λb d=>if b=true then(match a σ d with
  |.ok (.nx σ2) st2=>dv c a n σ2 st2
  |.ok (.ct σ2) st2=>dv c a n σ2 st2
  |.ok (.brk σ2) st2=>.ok (.nx σ2) st2
  |r=>r) else .ok (.nx σ) d
noncomputable def mQ:Nat:=1000000
def dy(c:ST) (a:SS):SS:=dv c a mQ
theorem x8{b:Type}{a:List b}(h:i<a.length):∃x,a[i]?=some x/\a.drop i=x::a.drop (i+1):=⟨a[i],dr h,jY h⟩
theorem Hk{X:Cx}(hp:PassesOwn (model X.prog X.w) X.A X.env X.xe)(hc:X.calm=true)(hi:DI X tg iter it)(hg:DG X tg bd)(hb:nE X body b)(hs:∀x,foldedSetIterable iter X.env x=pure x:=by intro _;rfl):
  jN X (.For tg iter body [] pos) (bz it bd b):=nJ (IF hp hc hi hg hb hs) λE τ H U=>by
 obtain⟨ρ,σ,au,fl,P,a,rp,e,q⟩:=U;obtain⟨A,R,e1,e⟩:=za e;refine⟨ρ,σ,au,A,R,a,rp,e1,λr H1 J x1 a0 ok=>?_⟩;have Y:=q.ext x1;refine⟨λi m G t=>i+m=A.length/\∃g l k,bp r H1 g t/\dm X.K g t l G/\bP X.K g k t/\dk bd b (A.drop i) l k=.ok fl P,⟨A.length,by lia,r,σ,R,.refl _ _,a.ext x1,a0,e⟩,?_⟩;rintro i m G t ⟨a6,g,l,k,S,a2,I,c⟩;rcases mG i A.length with a1|hge
 ·obtain⟨x,hx,hd⟩:=x8 a1;rw[hd] at c;obtain⟨go,yl⟩:=ok.item g t S.toG i x hx;refine .inr ⟨go,λQ H3=>∃n d f,bp r H1 n H3/\dm X.K n H3 d Q/\bP X.K n f H3/\dk bd b (A.drop (i+1)) d f=.ok fl P,λQ H3 ⟨n,d,f,n1,n2,n3,n4⟩=>⟨m-1,by lia,by lia,n,d,f,n1,n2,n3,n4⟩,λy H3 hy=>?_⟩;obtain⟨y1,y4⟩:=yl y H3 hy;obtain⟨y2,y3⟩:=y4 _ I;unfold dk at c;cases hbd:bd x l with
  |none=>rw[hbd] at c;cases c
  |some σ1=>
   rw[hbd] at c;dsimp only at c;have T:=S.trans y1;refine⟨g,l,x,σ1,a2.ext y1,y3,hbd,λa3 a4=>?_⟩;cases hr:b σ1 k with
   |stuck=>rw[hr] at c;cases c
   |exc z w=>rw[hr] at c;cases c
   |ok fb f=>
    rw[hr] at c;refine⟨g,σ1,k,fb,f,a4,y2,hr,?_⟩;cases fb with
    |nx d=>exact λj o C p h s=>⟨j,d,f,T.trans p,s,h,c⟩
    |ct d=>exact λj o C p h s=>⟨j,d,f,T.trans p,s,h,c⟩
    |brk d=>
     dsimp only at c;cases c;exact λj o C p h s=>Y _ _ _ (T.trans p) h s
    |ret v=>
     dsimp only at c;cases c;exact λj o u p h s=>Y _ _ _ (T.trans p) h s
 ·rw[DX hge] at c;unfold dk at c;cases c;exact .inl ⟨ok.done g t S.toG i hge,Y _ _ _ S I a2⟩
theorem LV{X:Cx}(hp:PassesOwn (model X.prog X.w) X.A X.env X.xe)(hc:DT X c t)(hb:nE X body b):jN X (.While c body [] pos) (dy t b):=nJ (MT hp hc hb) λE τ H U=>by
 obtain⟨ρ,σ,au,fl,I,a,rp,e,q⟩:=U;unfold dy at e;generalize mQ=n at e;refine⟨λm y Q=>∃i g j,bp ρ H i Q/\dm X.K i Q g y/\bP X.K i j Q/\dv t b m g j=.ok fl I,⟨n,ρ,σ,au,.refl _ _,a,rp,e⟩,?_⟩;rintro m y Q ⟨i,g,j,x2,Y,T,R⟩;cases m with
 |zero=>unfold dv at R;cases R
 |succ m=>
  unfold dv at R;obtain⟨x,p,e3,f⟩:=za R;refine⟨i,g,j,x,p,Y,T,e3,λa0 H3 x3 C=>?_⟩;have J:=x2.trans x3;cases x with
  |false=>
   rw[if_neg (by decide)] at f;cases f;exact lF (q _ _ _ J C (Y.ext x3))
  |true=>
   rw[if_pos rfl] at f;refine lE ⟨λA S=>∃o P G,bp ρ H o S/\dm X.K o S P A/\bP X.K o G S/\dv t b m P G=.ok fl I,λA S hh=>⟨m,ve m,hh⟩,?_⟩;cases hr:b g p with
   |stuck=>rw[hr] at f;cases f
   |exc z w=>rw[hr] at f;cases f
   |ok fb st5=>
    rw[hr] at f;refine⟨a0,g,p,fb,st5,Y.ext x3,C,hr,?_⟩;cases fb with
    |nx σ3=>exact λh k s l d r=>⟨h,σ3,st5,J.trans l,r,d,f⟩
    |ct σ3=>exact λh k s l d r=>⟨h,σ3,st5,J.trans l,r,d,f⟩
    |brk σ3=>
     dsimp only at f;cases f;exact λh k s l d r=>q _ _ _ (J.trans l) d r
    |ret v=>
     dsimp only at f;cases f;exact λh k u l d r=>q _ _ _ (J.trans l) d r
def bN(g:SG) (c:ST) (f:SE):List D->DS->aa->bJ (List D)
 |[],_,au=>.ok [] au
 |x::xs,σ,au=>match g x σ with
  |none=>.stuck
  |some σ1=>(c σ1 au).bind λb a=>if b=true then(f σ1 a).bind λy e=>(bN g c f xs σ1 e).bind λh d=>.ok (y::h) d else bN g c f xs σ1 a
def aV(k:Nat) (is:List Nat) (a:DS):DS:=List.replicate k none++is.map λi=>(a[i]?).getD none
def aG(i:SA) (k:Nat) (is:List Nat) (h:SG) (c:ST) (f:SE):SE:=λe j=>(i e j).bind λd b=>if d.length<=sizeLine then(bN h c f d (aV k is e) b).bind λg a=>.ok (.lst g) a else .stuck
def aI:ST:=λ_ a=>.ok true a
theorem dm.start{K:Fg}(h:dm K ρ H σ τ)(k:Nat)(is:List Nat):dm K ρ H (aV k is σ) (fX k is τ):=by
 have f:∀{a c:DS}{b d:St},dm K ρ H a b->dm K ρ H c d->dm K ρ H (a++c) (b++d):=λm l=>by
  induction m with
  |nil=>exact l
  |cons r t ih=>exact .cons r ih
 refine f ?_ ?_
 ·induction k with
  |zero=>exact .nil
  |succ k ih=>exact .cons (λd e=>nomatch e) ih
 ·induction is with
  |nil=>exact .nil
  |cons i is ih=>
   refine .cons (λd e=>?_) ih;have e:(σ[i]?).getD none=some d:=e;have j:σ[i]?=some (some d):=by
    cases q:σ[i]? with
    |none=>rw[q] at e;cases e
    |some o=>rw[q] at e;exact congrArg some e
   obtain⟨u,g,a⟩:=h.get j;exact⟨u,by show(τ[i]?).getD none=some u;rw[g];rfl,a⟩
def Loc.with(a:Loc) (p:Addr):Loc:=⟨a.m,p::a.g⟩
theorem Lj(a:H p=none):Mv ρ H (ρ.with p) (ar H p o):=⟨λe n=>⟨by rw[zo (zp e a)];exact e,n.1,λz=>by
 rcases bU.mp z with z|z
 ·exact zp e a z
 ·exact n.2 z⟩,bj _,λ_ _ _ e=>e⟩
theorem At.with{K:Fg}(a:H p=none) (h:At K ρ H d v):At K (ρ.with p) (ar H p o) d v:=h.mv (Lj a)
theorem yc{c b:Loc}(d:b.m=c.m)(g:p∈c.g)(f:∀a,a∈b.g->a∈c.g):Mv c H b (ar H p o):=⟨λe n=>⟨by rw[zo (by rintro rfl;exact n.2 g)];exact e,by rw[d];exact n.1,λz=>n.2 (f _ z)⟩,by rw[d];exact bj _,λ_ _ _ e=>by rw[d] at e;exact e⟩
theorem At.grow{K:Fg}{ρ ρ':Loc}(c:ρ'.m=ρ.m)(e:p∈ρ.g)(b:∀a,a∈ρ'.g->a∈ρ.g) (h:At K ρ H d v):At K ρ' (ar H p o) d v:=h.mv (yc c e b)
theorem ae.grow{K:Fg}{ρ ρ':Loc}(c:ρ'.m=ρ.m)(e:p∈ρ.g)(b:∀a,a∈ρ'.g->a∈ρ.g) (h:ae K ρ H d v):ae K ρ' (ar H p o) d v:=h.mv (yc c e b)
theorem lM.map{K:Fg}(k:∀d v,At K ρ H d v->At K ρ' H' d v)(i:∀b f u,H b=some (.frz f u)->H' b=some (.frz f u))(same:H' a=H a)(h:lM K ρ H x a):lM K ρ' H' x a:=by
 have j:∀{d:List D}{v:List V},ae K ρ H d v->ae K ρ' H' d v:=λ{d v} h=>by
  induction d generalizing v with
  |nil=>cases h;exact .nil
  |cons x xs ih=>cases h with|cons a b=>exact .cons (k _ _ a) (ih b)
 cases x with
 |lst xs=>obtain⟨e,q,r⟩:=h;exact⟨e,by rw[same];exact q,j r⟩
 |dT kvs=>obtain⟨e,q,r⟩:=h;exact⟨e,by rw[same];exact q,Paired.mapP r λp q z=>⟨z.1,k _ _ z.2⟩⟩
 |fT kvs=>obtain⟨e,f,q,r⟩:=h;exact⟨e,f,by rw[same];exact q,Paired.mapP r λp q z=>⟨z.1,k _ _ z.2⟩⟩
 |dI kvs=>obtain⟨e,q,r⟩:=h;exact⟨e,by rw[same];exact q,Paired.mapP r λp q z=>⟨z.1,k _ _ z.2⟩⟩
 |dP ks=>obtain⟨e,q,n,l,u,r⟩:=h;exact⟨e,by rw[same];exact q,n,l,u,r.map k⟩
 |dead=>exact h.elim
 |tab=>obtain⟨c,g,q,r⟩:=h;exact⟨c,g,by rw[same];exact q,r.map i⟩
theorem bP.with{K:Fg}(r:bP K ρ au H)(c:H p=none)(g:List V):bP K (ρ.with p) au (ar H p (.lst g)):=
 ⟨r.len,r.inj,λm b y k i=>by
  have q:=r.obj m b y k i;obtain⟨u,j⟩:=q.has;exact q.map (λd v h=>h.with c) (λb o u e=>by rw[zo (zp e c)];exact e) (zo (zp j c)),λa ha=>by
  rcases bU.mp ha with rfl|ha
  ·exact⟨⟨g,zq⟩,(CO r c).1⟩
  ·obtain⟨⟨l,f⟩,n⟩:=r.gh a ha
   exact⟨⟨l,by rw[zo (zp f c)];exact f⟩,n⟩,r.live⟩
theorem bP.grow{K:Fg}{ρ':Loc}(r:bP K ρ au H)(c:ρ'.m=ρ.m)(f:p∈ρ.g)(i:∀a,a∈ρ'.g->a∈ρ.g)(j:List V):bP K ρ' au (ar H p (.lst j)):=
 ⟨by rw[c];exact r.len,by rw[c];exact r.inj,λm b y g l=>by
  rw[c] at g;refine(r.obj m b y g l).map (λd v h=>h.grow c f i) (λb s u e=>by rw[zo (by rintro rfl;obtain⟨⟨_,z⟩,_⟩:=r.gh _ f;rw[e] at z;cases z)];exact e) (zo ?_);rintro rfl;exact(r.gh b f).2 (db g),λa k=>by
  obtain⟨⟨o,n⟩,q⟩:=r.gh a (i a k);refine⟨?_,by rw[c];exact q⟩;by_cases e:a=p
  ·subst e;exact⟨j,zq⟩
  ·exact⟨o,by rw[zo e];exact n⟩,by rw[c];exact r.live⟩
theorem dm.map{K:Fg}(k:∀d v,At K ρ H d v->At K ρ' H' d v)(h:dm K ρ H σ τ):dm K ρ' H' σ τ:=Paired.mapP h λo v z d e=>by
 obtain⟨u,b,a⟩:=z d e;exact⟨u,b,k _ _ a⟩
inductive CI (K:Fg) (bd:SG) (c:ST) (f:SE) (xs ys:List D) (st2:aa) (ρ1:Loc) (H1:Hp) (p:Addr) (i:Nat) (τ:St) (H':Hp):Prop where
 |mk {ρ2:Loc}{σ2:DS}{st3:aa}{acc:List D}{accV:List V}{zs:List D}(x2:fe ρ1 H1 ρ2 H') (hg:ρ2.g=p::ρ1.g) (hpp:H' p=some (.lst accV)) (hal:ae K ρ2 H' acc accV) (hli:acc.length<=i) (a2:dm K ρ2 H' σ2 τ) (rp2:bP K ρ2 st3 H') (e3:bN bd c f (xs.drop i) σ2 st3=.ok zs st2) (hac:acc++zs=ys):CI K bd c f xs ys st2 ρ1 H1 p i τ H'
theorem GZ{k:Nat}{is:List Nat}{K:Fg}(a:dm K ρ H σ τ)(rp:bP K ρ au H)(e1:it σ au=.ok xs st1)(b0:xs.length<=sizeLine)(e2:bN bd c f xs (aV k is σ) st1=.ok ys st2)
 (b6:∀g H1 p l r j,bp ρ H g H1->bP K g st1 H1->H1 p=none->fe g H1 l r->l.g=p::g.g->r p=some (.lst j)->ae K l r ys j->bP K l st2 r->Q (.ref p) r):kz (iD K it) k is (gD K bd) (oh K c) (tD K f) τ H Q:=by
 refine⟨ρ,σ,au,xs,st1,a,rp,e1,λg H1 J x1 b1 ok p U=>?_⟩
 refine⟨λi m Y r=>i+m=xs.length/\CI K bd c f xs ys st2 g H1 p i Y r,
  ⟨xs.length,by lia,.mk ?_ rfl zq .nil (iT _) (((a.ext x1).start k is).map λd v h=>h.with U) (b1.with U []) e2 rfl⟩,?_⟩
 ·have E:bp g H1 g (ar H1 p (.lst [])):=bp.new U _
  exact⟨E.len,E.old,E.keep,λa h=>by
   rcases bU.mp h with rfl|h
   ·exact .inr U
   ·exact .inl h,E.frz⟩
 rintro i m Y r ⟨c3,@⟨l,a8,b8,b3,j,zs,x2,hg,a5,T,P,a2,R,q,s⟩⟩;have b7:p∈l.g:=by rw[hg];exact dS
 rcases mG i xs.length with b2|hge
 ·obtain⟨x,hx,hd⟩:=x8 b2;rw[hd] at q;obtain⟨go,yl⟩:=ok.item l r x2 i x hx
  refine .inr ⟨go,CI K bd c f xs ys st2 g H1 p (i+1),
   λb4 H4 hh=>⟨m-1,by lia,by lia,hh⟩,λy H3 hy=>?_⟩
  obtain⟨y1,y4⟩:=yl y H3 hy;obtain⟨y2,y3⟩:=y4 _ R;unfold bN at q;cases hbd:bd x a8 with
  |none=>rw[hbd] at q;cases q
  |some σ1=>
   rw[hbd] at q;dsimp only at q;obtain⟨bb,a7,e4,e5⟩:=za q;refine⟨l,a8,x,σ1,a2.ext y1,y3,hbd,λb4 a4=>?_⟩;have I:some p∉l.m:=(R.gh p b7).2;have A:=(y1.keep p _ a5 I).1;refine⟨l,σ1,b8,bb,a7,a4,y2,e4,λS H5 t a0=>?_⟩;have C:=(t.keep p _ A I).1;have z:=(T.ext y1).ext t;have g5:S.g=p::g.g:=t.gho.trans hg;cases bb with
   |false=>
    rw[if_neg (by decide)] at e5;exact lF (.mk ((x2.then y1).then t) g5 C z (qA P) (a4.ext t) a0 e5 s)
   |true=>
    rw[if_pos rfl] at e5;obtain⟨w,c0,e6,e7⟩:=za e5;obtain⟨c2,c1,e8,e9⟩:=za e7;cases e9;refine lE ⟨S,σ1,a7,w,c0,a4.ext t,a0,e6,λa3 H6 u x6 b9 a6=>?_⟩;have a1:some p∉S.m:=(t.keep p _ A I).2;have a9:=(x6.keep p _ C a1).1;have g6:a3.g=p::g.g:=x6.gho.trans g5;have X:p∈a3.g:=by rw[g6];exact dS
    have b5:j.length<=i:=by rw[T.length];exact P
    refine⟨j,a9,jL b5 (dq b2 b0),.mk (acc:=b3++[w]) (accV:=j++[u]) ?_ g6 zq ?_ (by rw[cx];exact pu P) ?_ (b9.grow rfl X (λ_ h=>h) _) e8 (by rw[←s,eh];rfl)⟩
    ·have G:=((x2.then y1).then t).then x6;refine⟨G.len,G.old,λb o e n=>?_,G.gho,λb ob uu e=>?_⟩
     ·rw[zo (zp e U)];exact G.keep b o e n
     ·rw[zo (zp e U)];exact G.frz b ob uu e
    ·exact((z.ext x6).append (.cons a6 .nil)).grow rfl X (λ_ h=>h)
    ·exact(a4.ext (t.trans x6)).map λd v h=>h.grow rfl X (λ_ h=>h)
 ·rw[DX hge] at q;unfold bN at q;cases q;rw[kn] at s;subst s;exact .inl ⟨ok.done _ _ x2 i hge,b6 _ _ _ _ _ _ x1 b1 U x2 hg a5 T R⟩
theorem w9{K:Fg}:∀y H Q,tD K (aG it k is bd c f) y H Q->kz (iD K it) k is (gD K bd) (oh K c) (tD K f) y H Q:=λy H Q u=>by
 obtain⟨ρ,σ,au,v,X,a,I,e,q⟩:=u;obtain⟨xs,P,J,e⟩:=za e;split at e
 ·rename_i r;obtain⟨ys,T,S,e⟩:=za e;cases e;refine GZ a I J r S λh H1 p d H' i U x Y s A m w l=>?_
  have j:p∈d.g:=by rw[A];exact dS
  have t:some p∉d.m:=(l.gh p j).2;have n:ar H' p (.lst i)=H':=Ni m;have sub:∀a,a∈(⟨d.m,h.g⟩:Loc).g->a∈d.g:=λb G=>by rw[A];exact cr _ G
  have E:bp h H1 ⟨d.m,h.g⟩ H':=⟨s.len,s.old,s.keep,rfl,s.frz⟩
  have R:=l.grow (ρ':=⟨d.m,h.g⟩) rfl j sub i;have L:=ae.grow (ρ:=d) (ρ':=⟨d.m,h.g⟩) (o:=.lst i) rfl j sub w;rw[n] at R L;refine q _ _ _ (U.trans E) R (.lst m ⟨t,λz=>?_⟩ L);obtain⟨⟨ws,C⟩,_⟩:=x.gh p z;rw[Y] at C;cases C
 ·cases e
theorem G4{X:Cx}{N:List Str}(a:X.calm=true)(i:DI X tg iter it)(g:∀b C d s H,DG (fx X N scope b C d s H) tg bd)(h:∀b C d s H,ot (fx X N scope b C d s H) ifs (oh X.K c))(j:∀b C d s H,DE (fx X N scope b C d s H) elt f)
 (S:bG X N k is scope)(e:∀x,foldedSetIterable iter X.env x=pure x:=by intro _;rfl):DE X (.ListComp elt [⟨tg,iter,ifs,0⟩] scope pos) (aG it k is bd c f):=fG (KC a i g h j S e) w9
theorem JU{X:Cx}{N:List Str}{b:Pos}(d:X.calm=true)(p:X.N.Nodup)(m:X.N[i]?=some x)(Y:L2.Loc X.env.scope x)(Q:DI X tg iter it)(n:∀j C g s H,DG (fx X N scope j C g s H) tg bd)
  (o:∀j C g s H,ot (fx X N scope j C g s H) ifs (oh X.K c))(R:∀j C g s H,DE (fx X N scope j C g s H) elt f)(S:bG X N k is scope)
  (l:swapsWith (.ListComp elt [⟨tg,iter,ifs,0⟩] scope pos) (some (.Name x pos')) b.line X.env=pure true:=by rfl)
  (I:X.fn x=true\/X.env.scope.names.lookup x=some .local:=by first|exact .inl rfl|exact .inr rfl|assumption)
  (A:∀x,foldedSetIterable iter X.env x=pure x:=by intro _;rfl):jN X (.Assign [.Name x pos'] (.ListComp elt [⟨tg,iter,ifs,0⟩] scope pos) b) (aF i (aG it k is bd c f)):=
 nJ (KR d p m Y Q n o R S l I A) λE U H h=>by
  obtain⟨T,J,G,fl,P,a,w,e,q⟩:=h;obtain⟨v,a0,y,e⟩:=za e;cases e;exact w9 U H _ ⟨T,J,G,v,_,a,w,y,λz H' u x r t=>q _ _ _ x r ((a.ext x).set t i)⟩
theorem JF:ot X [] (oh X.K aI):=λc s h H Q I b=>by
 obtain⟨i,f,j,v,d,a,g,e,q⟩:=b;cases e;exact KJ c s h H Q I (q _ _ (.refl _ _) g)
theorem JH(h:DT X c t):ot X [c] (oh X.K t):=KL h
end Dd
namespace Dd
open L2 PyProof.Rows
def vx(K:Fg) (h:Nat) (F:da):Sp:=λf H Q _=>∃d e g v b,ae K d H e f/\bP K d g H/\F e g=.ok v b/\f.length=h/\∀a c u,bp d H a c->bP K a b c->At K a c v u->Q u c
def ke(P:Program) (w:World) (K:Fg) (b:Str->Option Value) (base:Heap) (x:Str) (k:Nat) (a:List Str) (F:da):Prop:=Callee P w K b base x k a (vx K a.length F)
def cG(n b:Nat) (a:SS):da:=λc d=>if c.length=b then(match a (c.map some++List.replicate (n-b) none) d with
 |.ok (.ret v) st'=>.ok v st'
 |.ok (.nx _) st'=>.ok .non st'
 |.exc x st'=>.exc x st'
 |_=>.stuck) else .stuck
section
variable {x:Str}{F:da}{e:Expr}
theorem GX{K:Fg}{j:Nat}{f:SA}(o:∀m h v b,F m h=.ok v b->m.length=j):∀l H Q,tD K (aE F f) l H Q->mT (vx K j F) [] E0 (O6 K f) l H Q:=λl H Q g=>by
 obtain⟨A,y,h,v,b,a,p,e,q⟩:=g;obtain⟨x,c,r,e⟩:=za e;refine⟨A,y,h,x,c,a,p,r,λi H1 u z k n=>?_⟩;show vx K j F (u++[]) H1 Q E0;rw[kn];exact⟨i,x,c,v,b,n,k,e,by rw[n.length];exact o _ _ _ _ e,λd s w t=>q d s w (z.trans t)⟩
end
theorem G3{X:Cx}(c:ke X.prog X.w X.K X.mg X.base x k ps F)(j:∀ f m v b,F f m=.ok v b->f.length=ps.length)(h:bR k X.A)(l:Gl X x)(i:DA X (e::es) g)(d:(x==("__debug__" : Str))=false:=by decide)
 (n:starEach (e::es) X.env=(false,eval e X.env)::starEach es X.env:=by rfl)(a:(backTo pos (starEach es X.env)).any (·.1)=false:=by rfl):
 DE X (.Call (.Name x p) (e::es) [] pos) (aE F g):=fG (MF c h l i d n a) (GX j)
theorem J3{n np:Nat}{b:SS}{c:List D}{d a:aa}{v:D}(h:cG n np b c d=.ok v a):c.length=np:=by
 unfold cG at h;split at h
 ·assumption
 ·cases h
theorem ae.some{K:Fg}{g:Loc}{H:Hp}:∀{c:List D}{f:List V},ae K g H c f->dm K g H (c.map Option.some) (f.map Option.some)
 |_,_,.nil=>.nil
 |_,_,.cons a b=>.cons (λd e=>by cases e;exact⟨_,rfl,a⟩) (ae.some b)
theorem dm.append{K:Fg}{e:Loc}{H:Hp}:∀{a c:DS}{b d:L2.St},dm K e H a b->dm K e H c d->dm K e H (a++c) (b++d)
 |_,_,_,_,.nil,h=>h
 |_,_,_,_,.cons r t,h=>.cons r (dm.append t h)
theorem dm.nones{K:Fg}{a:Loc}{H:Hp}:∀n,dm K a H (List.replicate n none) (List.replicate n none)
 |0=>.nil
 |n+1=>.cons (λd e=>nomatch e) (dm.nones n)
theorem wY{K:Fg}{N:List Str}{np:Nat}{b:SS}{i:List V}{H:Hp}{Q:VK}{E:XK}(h:vx K np (cG N.length np b) i H Q E):Ea K b {nx:=λ_ f=>Q .non f,rt:=Q} (L2.start N i) H:=by
 obtain⟨j,g,n,v,d,a,m,e,k,q⟩:=h;have o:g.length=np:=by rw[←a.length];exact k
 unfold cG at e;rw[if_pos o] at e;have l:dm K j H (g.map Option.some++List.replicate (N.length-np) none) (L2.start N i):=by
  unfold L2.start;rw[k];exact a.some.append (.nones _)
 refine⟨j,g.map Option.some++List.replicate (N.length-np) none,n,?_⟩;cases hr:b (g.map Option.some++List.replicate (N.length-np) none) n with
 |stuck=>rw[hr] at e;cases e
 |exc z w=>rw[hr] at e;cases e
 |ok fl st1=>
  rw[hr] at e;cases fl with
  |ret w=>
   dsimp only at e;cases e;exact⟨.ret v,d,l,m,rfl,λc f u x r t=>q c f u x r t⟩
  |nx σ=>
   dsimp only at e;cases e;exact⟨.nx σ,d,l,m,rfl,λc f p x r t=>q c f .non x r .non⟩
  |brk σ=>cases e
  |ct σ=>cases e
theorem Jl{P:Program}{w:World}{K:Fg}{l:Str->Option Value}{base h:Heap}{x:Str}{g:Stmt}{N j:List Str}{k:Nat}{b:SS}(T:ah K x g)(X:K.In h)(G:h.Ns mainGlobals l)(S:cV N j (ag g))
  (C:∀(kV n t:Value) (u:Option Addr) (d y:Value) (o:List Value),o.length=j.length->bindArgs (W.fnOf x x (cT g) (bD g) (ag g) .none kV n t u d y) ⟨o,[]⟩=pure (j.zip o))
  (i:∀(f:Addr) (d:Value) (A:Around) (c:List Env) (s:Shared) (H:Hp) (E:XK),bR k (A.deeper (envOfC x (ag g) s.heap.objs.size f d)) ->
   nE (gs jE P w K l base N x (ag g) f d A c s H E).nox (bD g) b):ke P w K l base x (k+1) j (cG N.length j.length b):=
 Nt T X G S C (λI H Q E m=>by obtain⟨R,U,g,v,r,a,J,e,z,q⟩:=m;exact z) λf d A c s H I Q E p m=>⟨_,i f d A c s H E p,wY m⟩
def jq(K:Fg):Sp:=λd H Q _=>∃(a:Addr) (b:List Int),d=[.ref a]/\du K H a (b.map V.int)/\b.length<=63/\∀c,Q (.bl true) c
theorem HK{P:Program}{w:World}{K:Fg}{y:Str->Option Value}{base:Heap}{l:Stmt}{N v:List Str}{k:Nat}{b:SS}{f:Addr}{z:FuncData}(F:pZ K "law" "law" l f z)(S:cV N v (ag l))(R:v.length=1)
  (i:∀(d:Value) (A:Around) (c:List Env) (s:Shared) (H:Hp) (E:XK),bR k (A.deeper (envOfC "law" (ag l) s.heap.objs.size f d)) ->
   nE (gs jE P w K y base N "law" (ag l) f d A c s H E).nox (bD l) b)
  (holds:∀j:List Int,j.length<=63->∃g,cG N.length 1 b [.scr (j.map .int)] []=.ok (.bl true) g):gf P w K y base jE (k+1) f z v (jq K):=by
 refine F.ok S (λT H Q E p=>?_) (λd A c s H T Q E G p=>⟨_,i d A c s H E G,?_⟩)
 ·obtain⟨a,j,rfl,_⟩:=p;exact R.symm
 ·obtain⟨a,j,rfl,I,J,q⟩:=p;obtain⟨g,e⟩:=holds j J;refine wY (np:=1) (E:=E) ⟨⟨[],[]⟩,[.scr (j.map .int)],[],_,g,.cons (.scr ?_ (uG j)) .nil,⟨rfl,λn m a e _=>by simp at e,λn a o e _=>by simp at e,λa h=>(by cases h),λn o e _=>by simp at e⟩,e,rfl,λU C u x r t=>?_⟩
  ·rcases I with h|h
   ·exact .inl ⟨h,by simp[ew]⟩
   ·exact .inr λC=>.inr h
  ·cases t;exact q C
end Dd
namespace Dd
open L2
def jt:D->aa->bJ D:=λx a=>match x with
 |.int i=>.ok (.int (-i)) a
 |_=>.stuck
def eD:SS:=λ_ _=>.stuck
def lu(c:aa):D->Option Bool
 |.non=>some false
 |.bl b=>some b
 |.int i=>some (i != 0)
 |.tup a=>some !a.isEmpty
 |d=>(eY c d).map λa=>!a.isEmpty
def dY(f:SE):ST:=λd c=>(f d c).bind λv a=>match lu a v with
 |some b=>.ok b a
 |none=>.stuck
theorem Rz{K:Fg}(h:ae K ρ H ds vs):ds.isEmpty=vs.isEmpty:=by
 cases h<;>rfl
theorem I0{K:Fg}(h:bP K ρ au H) (a:At K ρ H d u)(e:lu au d=some b):ua K u H b:=by
 unfold lu at e;split at e
 ·cases a;cases e;exact rfl
 ·cases a;cases e;exact rfl
 ·cases a;cases e;exact rfl
 ·cases e;cases a with
  |tup c f h3=>exact .inr (.inl ⟨_,bH.of c,by rw[Rz h3]⟩)
 ·obtain⟨i,g,rfl⟩:=iE.mp e;obtain⟨p,j,rfl,c,f⟩:=lP h a g;exact .inl ⟨_,du.of c,by rw[Rz f]⟩
theorem F5(h:DE X a f):DE X (.UnaryOp .USub a pos) (qT jt f):=fG (Gy Jc h) λs H Q c=>by
 obtain⟨k,r,p,v,j,b,n,e,q⟩:=c;obtain⟨x,g,o,e⟩:=za e;refine⟨k,r,p,x,g,b,n,o,λm H1 u i d l=>?_⟩;cases x<;>try (cases e;done)
 cases e;cases l;exact⟨_,rfl,q _ _ _ i d (.int _)⟩
theorem LW(i:dH X (compareOp op) r)(d:dH X (compareOp op') r')(j:iL X.K g r)(e:iL X.K g' r')(k:DE X a f)(m:DE X b f')(n:DE X c f'')
 (l:lastMarks [op,op'] [b,c]=false:=by with_unfolding_all rfl):DT X (.Compare a [op,op'] [b,c] pos) (eB (hJ g g' f f' f'')):=jV (MV i d k m n l) λo H Q h=>Jn j e _ _ _ (tQ _ _ _ h)
theorem LR:jN X sm eD:=λd s j H E I ⟨g,c,i,f,b,a,h,e,q⟩=>by cases e
theorem Ht(h:DE X a f)(t:∀b,isTrue a X.env b=(do let v ←b;standAt a.pos;holding [v] (truthy v)):=by intro _;rfl):DT X a (dY f):=jV (Qv h t) λz H Q g=>by
 obtain⟨l,w,s,v,k,d,p,e,q⟩:=g;obtain⟨x,i,r,e⟩:=za e;refine⟨l,w,s,x,i,d,p,r,λo H1 u j c n=>?_⟩;split at e
 ·rename_i y m;cases e;exact⟨_,I0 c n m,q _ _ j c⟩
 ·cases e
end Dd
namespace Dd
open Spec PyProof.Rows L2
noncomputable def gd:Int->List D->List D
 |_,[]=>[]
 |n,x::xs=>.tup [.int n,x]::gd (n+1) xs
def hH(f:SE):SA:=λc b=>(f c b).bind λx a=>match x with
 |.tup xs=>.ok (gd 1 xs) a
 |_=>.stuck
theorem Cy:∀{a:List D}{n:Int}{i:Nat}{d:D},(gd n a)[i]?=some d->∃x,a[i]?=some x/\d=.tup [.int (n+i),x]
 |[],_,_,_,h=>by simp[gd] at h
 |x::a,n,0,d,h=>by
  simp[gd] at h;exact⟨x,rfl,by rw[←h];simp⟩
 |x::a,n,i+1,d,h=>by
  simp only[gd,zI] at h;obtain⟨y,c,b⟩:=Cy h;exact⟨y,by simpa using c,by rw[b];congr 3;push_cast;lia⟩
theorem ww:∀{xs:List D}{n:Int},(gd n xs).length=xs.length
 |[],_=>rfl
 |_::xs,n=>by simp[gd,ww (xs:=xs)]
theorem LO(A:Gl X "enumerate")(w:X.mg "enumerate"=none)(hl:DE X l f)(Y:starEach [l] X.env=[(false,eval l X.env)]:=by rfl):
  DI X (.Tuple elts k tpos) (.Call (.Name "enumerate" p) [l] [⟨some "start",.Constant (.int 1) j cpos,kpos⟩] pos) (hH f):=jU (MP A w hl Y) λτ H R g=>by
 obtain⟨ρ,P,s,xs,S,a,C,e,q⟩:=g;obtain⟨x,r,E,e⟩:=za e;refine⟨ρ,P,s,x,r,a,C,E,λU H1 u Q n a1=>?_⟩;split at e
 ·rename_i ys;cases e;cases a1 with
  |tup h1 h2 h3=>
   refine⟨_,rfl,⟨_,bH.of h1⟩,q _ _ _ Q n ⟨λo H2 c i d e=>?_,λo H2 c i h=>?_⟩⟩
   ·obtain⟨z,hz,rfl⟩:=Cy e;obtain⟨v,t,G⟩:=h3.get hz;refine⟨⟨_,v,bH.of (c.out h1 h2).1,t⟩,λy H3 T=>?_⟩;obtain⟨p,m,rfl,J⟩:=T;rw[J _ _ (bH.of (c.out h1 h2).1) t];refine⟨bp.new m _,λs b=>⟨b.new m _,?_⟩⟩;have I:(1:Int)+(i:Int)=((i+1:Nat):Int):=by push_cast;lia
    rw[I];exact At.newT b m (.cons (.int _) (.cons (G.extG c) .nil))
   ·rw[ww] at h;exact⟨_,bH.of (c.out h1 h2).1,by rw[h3.length];exact h⟩
 ·cases e
end Dd
namespace Dd
open L2
def PU:List D->aa->bJ D:=λb a=>match b with
 |[.int i]=>.ok (.int i) a
 |[.bl k]=>.ok (.int (if k then 1 else 0)) a
 |_=>.stuck
def nt(i:SA) (k:Nat) (is:List Nat) (h:SG) (c:ST) (f:SE):SE:=λe j=>(i e j).bind λd b=>if d.length<=sizeLine then(bN h c f d (aV k is e) b).bind λg a=>.ok (.ref a.length) (a++[.lst g]) else .stuck
noncomputable def f8:Expr->Bool
 |.Starred _ _=>false
 |_=>true
theorem Ud(h:f8 e=true):starEach (e::es) env=(false,eval e env)::starEach es env:=by
 cases e<;>first|rfl|cases h
theorem LL(a:DE X e f)(b:DA X es g)(c:f8 e=true:=by rfl):DA X (e::es) (aB f g):=Jx a b (Ud c)
def qV(gt:Bool):List D->aa->bJ D:=λb a=>match b with
 |[x]=>match (cD a x).bind bC with
  |some (n::ns)=>.ok (.int (ce gt n ns)) a
  |_=>.stuck
 |_=>.stuck
noncomputable def bY:List D->List D->List D
 |x::xs,y::ys=>.tup [x,y]::bY xs ys
 |_,_=>[]
def iG(g:SA):SA:=λf e=>(g f e).bind λd c=>match d with
 |[.tup a,.tup b]=>.ok (bY a b) c
 |_=>.stuck
theorem RC:∀{a b:List D}{i:Nat}{d:D},(bY a b)[i]?=some d->∃x y,a[i]?=some x/\b[i]?=some y/\d=.tup [x,y]
 |[],_,_,_,h=>by simp[bY] at h
 |_::_,[],_,_,h=>by simp[bY] at h
 |x::a,y::b,0,d,h=>by
  simp[bY] at h;exact⟨x,y,rfl,rfl,h.symm⟩
 |x::a,y::b,i+1,d,h=>by
  simp only[bY,zI] at h;obtain⟨c,g,j,f,e⟩:=RC h;exact⟨c,g,by simpa using j,by simpa using f,e⟩
theorem R8:∀{xs ys:List D},(bY xs ys).length=min xs.length ys.length
 |[],_=>by simp[bY]
 |_::_,[]=>by simp[bY]
 |_::xs,_::ys=>by simp[bY,R8 (xs:=xs) (ys:=ys)]
theorem Hi(C:Gl X "zip")(A:X.mg "zip"=none)(Y:DA X [a,b] g)(P:starEach [a,b] X.env=[(false,eval a X.env),(false,eval b X.env)]:=by rfl)(n:starEach [b] X.env=[(false,eval b X.env)]:=by rfl):
  DI X (.Tuple elts k tpos) (.Call (.Name "zip" p) [a,b] [] pos) (iG g):=jU (IC C A Y P n) λτ H R m=>by
 obtain⟨ρ,T,z,xs,a0,a,G,e,q⟩:=m;obtain⟨x,w,I,e⟩:=za e;refine⟨ρ,T,z,x,w,a,G,I,λa2 H1 u U s a1=>?_⟩;split at e
 ·rename_i as bs;cases e;obtain⟨u1,u2,rfl,E,b2⟩:=a1.two;cases E with
  |tup h1 h2 h3=>
   cases b2 with
   |tup k1 k2 k3=>
    refine⟨_,_,rfl,⟨_,bH.of h1⟩,⟨_,bH.of k1⟩,q _ _ _ U s ⟨λt H2 c i d e=>?_,λt H2 c i h=>?_⟩⟩
    ·obtain⟨x',y',ex,ey,rfl⟩:=RC e;obtain⟨J,f,r⟩:=h3.get ex;obtain⟨Q,l,v⟩:=k3.get ey;refine⟨⟨_,_,J,Q,bH.of (c.out h1 h2).1,bH.of (c.out k1 k2).1,f,l⟩,λy H3 hy=>?_⟩;obtain⟨p,o,rfl,S⟩:=hy;rw[S _ _ _ _ (bH.of (c.out h1 h2).1) (bH.of (c.out k1 k2).1) f l];exact⟨bp.new o _,λz j=>⟨j.new o _,At.newT j o (.cons (r.extG c) (.cons (v.extG c) .nil))⟩⟩
    ·rw[R8] at h;exact⟨_,_,bH.of (c.out h1 h2).1,bH.of (c.out k1 k2).1,by rw[h3.length,k3.length];lia⟩
 ·cases e
def qJ(d:SG) (f:SE):SS:=λb c=>(f b c).bind λv a=>match d v b with
 |some σ1=>.ok (.nx σ1) a
 |none=>.stuck
end Dd
namespace Dd
open L2 PyProof.Rows
structure JE (X:Cx) (e:Expr) (f:SE):Prop where out:DE X e f
structure JT (X:Cx) (e:Expr) (f:ST):Prop where out:DT X e f
structure JW (X:Cx) (e:Expr) (f:ST):Prop where out:DW X e f
structure JA (X:Cx) (e:List Expr) (f:SA):Prop where out:DA X e f
structure JS (X:Cx) (s:Stmt) (f:SS):Prop where out:jN X s f
structure JB (X:Cx) (s:List Stmt) (f:SS):Prop where out:nE X s f
structure JO (X:Cx) (e:Option Expr) (f:DS->aa->bJ (Option Int)):Prop where out:DO X e f
structure JG (X:Cx) (e:Expr) (b:SG):Prop where out:DG X e b
structure Ej (X:Cx) (e:List Expr) (b:List D->DS->Option DS):Prop where out:BO X e b
structure JI (X:Cx) (tg iter:Expr) (f:SA):Prop where out:DI X tg iter f
structure Ei (X:Cx) (ifs:List Expr) (c:ST):Prop where out:ot X ifs (oh X.K c)
structure JC (X:Cx) (op:CmpOp) (a b:Expr) (f:SE):Prop where out:PC X op a b (tD X.K f)
theorem JW.pt(h:JW X e t):JT X e t:=⟨PW.pt h.out⟩
theorem Hc(h:PE X e (pL i)):JE X e (aA i):=⟨F9 h⟩
theorem ra(h:PE X e (tC v))(k:∀a H,At X.K a H d v):JE X e (eC d):=⟨rG h k⟩
theorem zf{i j pos}:JE X (.Constant (.int i) j pos) (eC (.int i)):=⟨F3⟩
theorem nH{b j pos}:JE X (.Constant (.bool b) j pos) (eC (.bl b)):=⟨PK⟩
theorem eI(c:dH X (binaryOp op) r)(d:iL X.K g r)(e:JE X a f)(h:JE X b f'):JE X (.BinOp a op b pos) (aU g f f'):=⟨PD c d e.out h.out⟩
theorem vE(c:dH X (compareOp op) r)(d:iL X.K g r)(e:JE X a f)(i:JE X b f')(h:behindInMarks op b=false):JE X (.Compare a [op] [b] pos) (aU g f f'):=⟨F0 c d e.out i.out h⟩
theorem iP(c:dH X (compareOp op) r)(d:iL X.K g r)(e:JE X a f)(i:JE X b f')(h:behindInMarks op b=false):JT X (.Compare a [op] [b] pos) (eB (aU g f f')):=⟨Hq c d e.out i.out h⟩
theorem r8{op}(h:JE X a f):JE X (.BoolOp op [a] pos) f:=⟨F7 h.out⟩
section
variable {X:Cx}{a:Expr}{b:Expr}{rest:List Expr}{f:SE}{f':SE}{pos:Pos}
theorem oZ(c:JE X a f)(d:JE X (.BoolOp .And (b::rest) pos) f'):JE X (.BoolOp .And (a::b::rest) pos) (i9 f f'):=⟨FZ c.out d.out⟩
end
theorem xb(b:JE X a f):JE X (.UnaryOp .Not a pos) (lJ f):=⟨F6 b.out⟩
theorem Er{op}(h:JT X a t)(b:op=.And\/op=.Or):JW X (.BoolOp op [a] pos) t:=⟨Hv h.out b⟩
section
variable {X:Cx}{a:Expr}{b:Expr}{rest:List Expr}{t:ST}{t':ST}{pos:Pos}
theorem JY(c:JT X a t)(d:JW X (.BoolOp .And (b::rest) pos) t'):JW X (.BoolOp .And (a::b::rest) pos) (ny t t'):=⟨Hu c.out d.out⟩
end
section
variable {X:Cx}{a:Expr}{b:Expr}{rest:List Expr}{t:ST}{t':ST}{pos:Pos}
theorem xg(c:JT X a t)(d:JW X (.BoolOp .Or (b::rest) pos) t'):JW X (.BoolOp .Or (a::b::rest) pos) (vz t t'):=⟨Gc c.out d.out⟩
end
theorem vL(b:JT X a t):JT X (.UnaryOp .Not a pos) (gw t):=⟨Hs b.out⟩
theorem F1(g:JT X c t)(d:JE X a f)(e:JE X b f'):JE X (.IfExp c a b pos) (BD t f f'):=⟨PH g.out d.out e.out⟩
theorem jg:JA X [] aC:=⟨Hd⟩
theorem gz{x1}(h:JA X es g):JE X (.Tuple es x1 pos) (aT g):=⟨F8 h.out⟩
theorem o0(h:JA X es g):JE X (.List es pos) (ip g):=⟨F4 h.out⟩
theorem kQ(h:JA X es g):JE X (.List es pos) (cM g):=⟨G9 h.out⟩
theorem rj:JO X none dX:=⟨JK⟩
theorem rk(a:JE X e f):JO X (some e) (dW f):=⟨JL a.out⟩
theorem fV(c:JE X a f)(e:JE X b f')(d:jd b):JE X (.Subscript a b pos) (aU cL f f'):=⟨PF c.out e.out d⟩
section
variable {X:Cx}{e:Expr}{f:SE}{pos:Pos}{lo:Option Expr}{hi:Option Expr}{l:DS->aa->bJ (Option Int)}{h:DS->aa->bJ (Option Int)}
theorem jR{d:Pos}(a:JE X e f)(c:JO X lo l)(b:JO X hi h):JE X (.Subscript e (.Slice lo hi none d) pos) (lI f l h):=⟨PB a.out c.out b.out⟩
end
theorem zj{x:Str}{id:String}(k:bV X (.builtin id) r)(c:jO X.K g r)(j:Gl X x)(i:X.mg x=none)(l:bootBuiltins x=some (.builtin id))(d:JA X (e::es) f)(h:x≠"__name__":=by decide)(b:(x==("__debug__" : Str))=false:=by decide)(m:starEach (e::es) X.env=(false,eval e X.env)::starEach es X.env:=by rfl)(a:(backTo pos (starEach es X.env)).any (·.1)=false:=by rfl):JE X (.Call (.Name x p) (e::es) [] pos) (aE g f):=⟨Jp k c j i l d.out h b m a⟩
theorem lU{T:String}(k:bV X (.type T) r)(c:jO X.K g r)(j:Gl X x)(i:X.mg x=none)(l:bootBuiltins x=some (.type T))(d:JA X (e::es) f)(h:x≠"__name__":=by decide)(b:(x==("__debug__" : Str))=false:=by decide)(m:starEach (e::es) X.env=(false,eval e X.env)::starEach es X.env:=by rfl)(a:(backTo pos (starEach es X.env)).any (·.1)=false:=by rfl):JE X (.Call (.Name x p) (e::es) [] pos) (aE g f):=⟨LG k c j i l d.out h b m a⟩
theorem qb:JE X (.Dict [] [] pos) dZ:=⟨G6⟩
theorem xF{X:Cx}(c:X.A.units+1<cLine)(a:JE X i g)(b:JE X o f):JC X .In i o (aU (i3 false) g f):=⟨Gu c a.out b.out⟩
theorem F2(h:JC X op a b t)(c:behindInMarks op b=false:=by first|exact nobehind _ (by decide) (by decide)|rfl):JE X (.Compare a [op] [b] pos) t:=⟨tU h.out c⟩
theorem Hr(h:JC X op a b t)(c:behindInMarks op b=false:=by first|exact nobehind _ (by decide) (by decide)|rfl):JT X (.Compare a [op] [b] pos) (eB t):=⟨Gb h.out c⟩
theorem Js{X:Cx}(d:X.A.units+1<cLine)(b:JE X o f)(a:JE X i g)(c:pW i):JE X (.Subscript o i pos) (aU fv f g):=⟨G5 d b.out a.out c⟩
theorem LH{X:Cx}(c:X.A.units + 1<cLine)(a:JE X o f)(b:JE X e g)(d:JE X f' h)(m:M2 X o "get" apos e f' cpos):JE X (.Call (.Attribute o "get" apos) [e,f'] [] cpos) (i8 f g h):=⟨Jr c a.out b.out d.out m⟩
theorem Jt{X:Cx}(c:X.A.units + 1<cLine)(a:JE X o f)(b:JE X e g)(m:M1 X o "pop" apos e cpos):JE X (.Call (.Attribute o "pop" apos) [e] [] cpos) (kL f g):=⟨G7 c a.out b.out m⟩
theorem Cq{X:Cx}{a:Pos}(c:X.A.units+1<cLine)(b:JE X o f)(j:JE X i g)(e:JE X value h)(d:swapsWith value (some (.Subscript o i pos')) a.line X.env=pure false):JS X (.Assign [.Subscript o i pos'] value a) (gk f g h):=⟨JP c b.out j.out e.out d⟩
theorem nO{b:Pos}(h:JE X o f)(i:JA X (e::es) ga)(d:attributeBase o "append" X.env (eval o X.env)=eval o X.env:=by rfl)(g:((backTo cpos (starEach (e::es) X.env)).all (λx=>!x.1)&&(backToKw cpos (keywordEach [] X.env)).all (λx=>x.1.isSome)
 && decide ((e::es).length + ([]:List Keyword).length + (if([]:List Keyword).isEmpty then 0 else 1)<30))=true:=by rfl) (c:(b.endLine==cpos.line)=true:=by rfl) (j:starEach (e::es) X.env=(false,eval e X.env)::starEach es X.env:=by rfl) (a:(backTo cpos (starEach es X.env)).any (·.1)=false:=by rfl):JE X (.Call (.Attribute o "append" b) (e::es) [] cpos) (bO f ga):=⟨LF h.out i.out d g c j a⟩
theorem QX{b:Pos}(h:JE X o f)(i:JA X (e::es) ga)(d:attributeBase o "extend" X.env (eval o X.env)=eval o X.env:=by rfl)(g:((backTo cpos (starEach (e::es) X.env)).all (λx=>!x.1)&&(backToKw cpos (keywordEach [] X.env)).all (λx=>x.1.isSome)
 && decide ((e::es).length + ([]:List Keyword).length + (if([]:List Keyword).isEmpty then 0 else 1)<30))=true:=by rfl) (c:(b.endLine==cpos.line)=true:=by rfl) (j:starEach (e::es) X.env=(false,eval e X.env)::starEach es X.env:=by rfl) (a:(backTo cpos (starEach es X.env)).any (·.1)=false:=by rfl):JE X (.Call (.Attribute o "extend" b) (e::es) [] cpos) (fh f ga):=⟨LJ h.out i.out d g c j a⟩
theorem Ha{b:Pos}{a:Pos}(e:JE X o f)(d:attributeBase o "pop" X.env (eval o X.env)=eval o X.env:=by rfl)(c:(b.endLine==a.line)=true:=by rfl):JE X (.Call (.Attribute o "pop" b) [] [] a) (pU f):=⟨rH e.out d c⟩
theorem jl(a:JE X o f):JE X o (mi f):=⟨PJ a.out⟩
theorem iO:JB X [] fK:=⟨Hl⟩
theorem zl(a:JE X e f):JS X (.Return (some e) pos) (aY f):=⟨Hn a.out⟩
theorem gq{a:Pos}(b:JE X e f)(c:swapsWith e none a.line X.env=pure false:=by rfl):JS X (.Expr e a) (bq f):=⟨JQ b.out c⟩
theorem JV{X:Cx}{a:Pos}(c:X.N.Nodup)(g:X.N[i]?=some x)(d:L2.Loc X.env.scope x)(h:JE X e f)(b:swapsWith e (some (.Name x pos')) a.line X.env=pure false:=by rfl)(j:X.fn x=true\/X.env.scope.names.lookup x=some .local:=by first|exact .inl rfl|exact .inr rfl|assumption):JS X (.Assign [.Name x pos'] e a) (aF i f):=⟨Ho c g d h.out b j⟩
theorem zc(a:JS X sm s):JB X [sm] s:=⟨Hm a.out⟩
section
variable {X:Cx}{sm:Stmt}{rest:List Stmt}{s:SS}{t:SS}
theorem zb(a:JS X sm s)(b:JB X rest t):JB X (sm::rest) (aD s t):=⟨JN a.out b.out⟩
end
theorem ie(e:JT X c b)(a:JB X a' s)(d:JB X b' t):JS X (.If c a' b' pos) (ft b s t):=⟨Ga e.out a.out d.out⟩
theorem JM{X:Cx}(c:X.N.Nodup)(h:X.N[i]?=some x)(d:L2.Loc X.env.scope x)(j:JE X e f)(a:Eg X op ti)(b:P4 X.K g ti)(k:X.fn x=true\/X.env.scope.names.lookup x=some .local:=by first|exact .inl rfl|exact .inr rfl|assumption):JS X (.AugAssign (.Name x pos') op e pos) (lw i g f):=⟨Hj c h d j.out a b k⟩
theorem Q1{a:Pos}(j:JE X value h)(b:JE X o f)(e:JE X i g)(c:∀v,assign (.Subscript o i pos') X.env v=(do
 let ov ←holding [v] (eval o X.env)
 let iv ←holding [v,ov] (eval i X.env)
 standAt pos'
 holding [v,ov,iv] (setItem ov iv v)
 release [v,ov,iv] []):=by intro _;rfl) (d:swapsWithSole [.Subscript o i pos'] value a.line X.env=pure false:=by rfl) (k:swappedStores [.Subscript o i pos'] value X.env=pure none:=by rfl) (l:(assignEach [.Subscript o i pos'] X.env).map (·.2)=[assign (.Subscript o i pos') X.env]:=by rfl):JS X (.Assign [.Subscript o i pos'] value a) (fz f g h):=⟨LS j.out b.out e.out c d k l⟩
theorem lT{X:Cx}(a:X.N.Nodup)(d:X.N[i]?=some x)(b:L2.Loc X.env.scope x)(c:X.fn x=true\/X.env.scope.names.lookup x=some .local:=by first|exact .inl rfl|exact .inr rfl|assumption):JG X (.Name x pos) (gN i):=⟨Jy a d b c⟩
theorem oG:Ej X [] dh:=⟨Jz⟩
theorem iz(a:JG X e t)(c:Ej X es u)(b:(assignEach (e::es) X.env).map (·.2)=assign e X.env::(assignEach es X.env).map (·.2):=by rfl):Ej X (e::es) (av t u):=⟨LM a.out c.out b⟩
theorem oE{X:Cx}(b:X.calm=true)(h:Ej X es u)(c:(assignEach es X.env).length=n:=by rfl)(a:(assignEach es X.env).findIdx? (·.1)=none:=by rfl):JG X (.Tuple es k pos) (gT n u):=⟨Hf b h.out c a⟩
theorem fo(a:JE X l f):JI X tg l (aH f):=⟨Hh a.out⟩
theorem oP(e:Gl X "range")(d:X.mg "range"=none)(b:JA X [a] g)(c:starEach [a] X.env=[(false,eval a X.env)]:=by rfl):JI X tg (.Call (.Name "range" p) [a] [] pos) (jw g):=⟨NB e d b.out c⟩
theorem FE(h:Gl X "range")(e:X.mg "range"=none)(d:JA X [a,b] g)(f:starEach [a,b] X.env=[(false,eval a X.env),(false,eval b X.env)]:=by rfl)(c:starEach [b] X.env=[(false,eval b X.env)]:=by rfl):JI X tg (.Call (.Name "range" p) [a,b] [] pos) (tM g):=⟨NC h e d.out f c⟩
theorem LN(a:JE X l f):JI X tg l (iH f):=⟨JD a.out⟩
theorem JR{X:Cx}(f:PassesOwn (model X.prog X.w) X.A X.env X.xe)(e:X.calm=true)(g:JI X tg iter it)(d:JG X tg bd)(c:JB X body b)(a:∀x,foldedSetIterable iter X.env x=pure x:=by intro _;rfl):JS X (.For tg iter body [] pos) (bz it bd b):=⟨Hk f e g.out d.out c.out a⟩
theorem wj{X:Cx}(a:PassesOwn (model X.prog X.w) X.A X.env X.xe)(e:JT X c t)(d:JB X body b):JS X (.While c body [] pos) (dy t b):=⟨LV a e.out d.out⟩
theorem uA{X:Cx}{N:List Str}(d:X.calm=true)(i:JI X tg iter it)(g:∀a C b s H,JG (fx X N scope a C b s H) tg bd)(h:∀a C b s H,Ei (fx X N scope a C b s H) ifs c)(j:∀a C b s H,JE (fx X N scope a C b s H) elt f)(S:bG X N k is scope)(e:∀x,foldedSetIterable iter X.env x=pure x:=by intro _;rfl):JE X (.ListComp elt [⟨tg,iter,ifs,0⟩] scope pos) (aG it k is bd c f):=⟨G4 d i.out (λa C b s H=>(g a C b s H).out) (λa C b s H=>(h a C b s H).out) (λa C b s H=>(j a C b s H).out) S e⟩
theorem Qj{X:Cx}{N:List Str}{d:Pos}(e:X.calm=true)(n:X.N.Nodup)(g:X.N[i]?=some x)(o:L2.Loc X.env.scope x)(p:JI X tg iter it)(l:∀a C b s H,JG (fx X N scope a C b s H) tg bd)(m:∀a C b s H,Ei (fx X N scope a C b s H) ifs c)(q:∀a C b s H,JE (fx X N scope a C b s H) elt f)(S:bG X N k is scope)(h:swapsWith (.ListComp elt [⟨tg,iter,ifs,0⟩] scope pos) (some (.Name x pos')) d.line X.env=pure true:=by rfl)(r:X.fn x=true\/X.env.scope.names.lookup x=some .local:=by first|exact .inl rfl|exact .inr rfl|assumption)(j:∀x,foldedSetIterable iter X.env x=pure x:=by intro _;rfl):JS X (.Assign [.Name x pos'] (.ListComp elt [⟨tg,iter,ifs,0⟩] scope pos) d) (aF i (aG it k is bd c f)):=⟨JU e n g o p.out (λa C b s H=>(l a C b s H).out) (λa C b s H=>(m a C b s H).out) (λa C b s H=>(q a C b s H).out) S h r j⟩
theorem vY:Ei X [] aI:=⟨JF⟩
theorem E2(h:JT X c t):Ei X [c] t:=⟨JH h.out⟩
theorem Jq{X:Cx}(c:ke X.prog X.w X.K X.mg X.base x k ps F)(j:∀ f m v b,F f m=.ok v b->f.length=ps.length)(h:bR k X.A)(l:Gl X x)(i:JA X (e::es) g)(d:(x==("__debug__" : Str))=false:=by decide)(n:starEach (e::es) X.env=(false,eval e X.env)::starEach es X.env:=by rfl)(a:(backTo pos (starEach es X.env)).any (·.1)=false:=by rfl):JE X (.Call (.Name x p) (e::es) [] pos) (aE F g):=⟨G3 c j h l i.out d n a⟩
theorem Lx{P:Program}{w:World}{K:Fg}{i:Str->Option Value}{base h:Heap}{x:Str}{d:Stmt}{N g:List Str}{k:Nat}{b:SS}(T:ah K x d)(X:K.In h)(G:h.Ns mainGlobals i)(S:cV N g (ag d))(n:∀(kV j p:Value) (q:Option Addr) (c o:Value) (l:List Value),l.length=g.length->bindArgs (W.fnOf x x (cT d) (bD d) (ag d) .none kV j p q c o) ⟨l,[]⟩=pure (g.zip l))(e:∀(f:Addr) (c:Value) (A:Around) (a:List Env) (s:Shared) (H:Hp) (E:XK),bR k (A.deeper (envOfC x (ag d) s.heap.objs.size f c)) ->
 JB (gs jE P w K i base N x (ag d) f c A a s H E).nox (bD d) b):ke P w K i base x (k+1) g (cG N.length g.length b):=Jl T X G S n (λf c A a s H E m=>(e f c A a s H E m).out)
theorem Kb{P:Program}{w:World}{K:Fg}{i:Str->Option Value}{base:Heap}{e:Stmt}{N h:List Str}{k:Nat}{b:SS}{f:Addr}{j:FuncData}(F:pZ K "law" "law" e f j)(S:cV N h (ag e))(n:h.length=1)(d:∀(c:Value) (A:Around) (a:List Env) (s:Shared) (H:Hp) (E:XK),bR k (A.deeper (envOfC "law" (ag e) s.heap.objs.size f c)) ->
 JB (gs jE P w K i base N "law" (ag e) f c A a s H E).nox (bD e) b) (holds:∀ l:List Int,l.length<=63->∃ g,cG N.length 1 b [.scr (l.map .int)] []=.ok (.bl true) g):gf P w K i base jE (k + 1) f j h (jq K):=HK F S n (λc A a s H E m=>(d c A a s H E m).out) holds
theorem o5(h:JE X a f):JE X (.UnaryOp .USub a pos) (qT jt f):=⟨F5 h.out⟩
theorem ND(h:dH X (compareOp op) r)(d:dH X (compareOp op') r')(i:iL X.K g r)(e:iL X.K g' r')(j:JE X a f)(l:JE X b f')(m:JE X c f'')(k:lastMarks [op,op'] [b,c]=false:=by with_unfolding_all rfl):JT X (.Compare a [op,op'] [b,c] pos) (eB (hJ g g' f f' f'')):=⟨LW h d i e j.out l.out m.out k⟩
theorem CK:JS X sm eD:=⟨LR⟩
theorem nK(h:JE X a f)(c:∀b,isTrue a X.env b=(do let v ←b;standAt a.pos;holding [v] (truthy v)):=by intro _;rfl):JT X a (dY f):=⟨Ht h.out c⟩
theorem Q0(b:Gl X "enumerate")(c:X.mg "enumerate"=none)(d:JE X l f)(a:starEach [l] X.env=[(false,eval l X.env)]:=by rfl):JI X (.Tuple elts k tpos) (.Call (.Name "enumerate" p) [l] [⟨some "start",.Constant (.int 1) j cpos,kpos⟩] pos) (hH f):=⟨LO b c d.out a⟩
theorem iy(a:JE X e f)(b:JA X es g)(c:f8 e=true:=by rfl):JA X (e::es) (aB f g):=⟨LL a.out b.out c⟩
theorem xZ(h:Gl X "zip")(e:X.mg "zip"=none)(d:JA X [a,b] g)(f:starEach [a,b] X.env=[(false,eval a X.env),(false,eval b X.env)]:=by rfl)(c:starEach [b] X.env=[(false,eval b X.env)]:=by rfl):JI X (.Tuple elts k tpos) (.Call (.Name "zip" p) [a,b] [] pos) (iG g):=⟨Hi h e d.out f c⟩
end Dd
namespace L2
open Spec PyProof.Rows
noncomputable def Kept(P:Nat->Value->Prop) (a:Nat->Nat->Bool):Nat->Array Value->Prop
 |0,xs=>xs=#[]
 |j+1,xs=>∃v,xs=#[v,v]/\P (argBest a j) v
section
variable {prog:Program}{w:World}{A:Around}{R:Result->Shared->Prop}{I:Addr}{fp:List Addr}{wr:List Addr}{n:Nat}{P:Nat->Value->Prop}{St:Nat->Heap->Prop}
theorem NR(W:Walks prog w A.in1 I fp wr n P St)(l:Nat->Nat->Bool)(t:CmpOf prog w A.in1 .Gt P l)(S:Addr)(G:S∉fp)(d:Value):
  ∀(k j:Nat) (s:Shared) (T:Array Value) (c:Nat),j+k=n->St j s.heap->Kept P l j T ->
  s.heap.get? S=some { cls:=.type "list",dict:=none,data:=.seq T c,slots:=#[] } ->
  (∀v C u,(n=0/\v=d\/0<n/\P (argBest l (n-1)) v)->(∀b o,b∉wr->b≠S->s.heap.get? b=some o->C.get? b=some o)->R (.ok (.ret v)) {s with heap:=C,toks:=u}) ->
  codeAny (model prog w) A (.builtin "max.loop" ⟨[.ref I,.none,.ref S],[(Str.ofString "default",d)]⟩) R s:=by
 have nm:(toString "max"++toString ".loop" : String)="max.loop":=by decide
 have H:S∉wr:=λh=>G (W.sub _ h)
 intro k
 induction k with
 |zero=>
  intro j s T c X r x y g;have X:j=n:=by lia
  subst X;refine pi F.entry_max_loop ?_;rw[qF vd _];refine ab (pd y rfl (ab (sI (W.done s _ _ r λC u a=>?_))));cases j with
  |zero=>
   subst x;exact ab (lW (aq (g d _ _ (.inl ⟨rfl,rfl⟩) λb o h1 _ e=>a b o h1 e)))
  |succ j=>
   obtain⟨v,rfl,U⟩:=x;refine ab (qu (a S _ H y) rfl (ab (lX (aq ?_))));exact g v _ _ (.inr ⟨Nat.succ_pos _,U⟩) λb o h1 p e=>(og _ _ (cJ p)).trans (a b o h1 e)
 |succ k ih=>
  intro j s T c X r x y g;refine pi F.entry_max_loop ?_;rw[qF vd _];refine ab (pd y rfl (ab (sI (W.item j s _ _ (by lia) r λv C u hP E a=>?_))));have f:=a S _ H y;have go:∀(J:Array Value) (c':Nat) (p:Heap),Kept P l (j + 1) J->p.get? S=some { cls:=.type "list",dict:=none,data:=.seq J c',slots:=#[] }->(∀ b,b≠S->p.get? b=C.get? b) ->
    codeAny (model prog w) A (.builtin "max.loop" ⟨[.ref I,.none,.ref S],[(Str.ofString "default",d)]⟩) R { s with heap:=p,toks:=u }:=λJ c' p Y e2 same=>
   ih (j+1) {s with heap:=p,toks:=u} J c' (by lia) (W.frame _ _ _ E λb i o e=>(same b λz=>G (by rw[←z];exact i)).trans e) Y e2
    λv' h3 a0 q m=>g v' h3 a0 q λb o b1 b2 e=>m b o b1 b2 ((same b b2).trans (a b o b1 e))
  cases j with
  |zero=>
   subst x;refine ab (aq (ab (qu f rfl ?_)));rw[nm];exact aq ⟨mH vd _,go #[v,v] _ _ ⟨v,rfl,hP⟩ (lq _ f rfl) λb i=>og _ _ (cJ i)⟩
  |succ j=>
   obtain⟨Q,rfl,U⟩:=x;refine ab (aq (ab (sI (iV (ab (t (j+1) (argBest l j) v Q _ _ _ hP U (ab (iV (mM (ab (lX (aq ?_))))))))))));cases i:l (j+1) (argBest l j) with
   |true=>
    rw[if_pos rfl];refine ab (qu f rfl (ab (lX ?_)));rw[nm];exact aq ⟨mH vd _,go #[v,v] _ _ ⟨v,rfl,by rw[argBest,i,if_pos rfl];exact hP⟩ (lq _ f rfl) λb i=>og _ _ (cJ i)⟩
   |false=>
    rw[if_neg (by decide)];refine ab (lX ?_);rw[nm];exact aq ⟨mH vd _,go #[Q,Q] _ _ ⟨Q,rfl,by rw[argBest,i,if_neg (by decide)];exact U⟩ f λb _=>rfl⟩
end
theorem LA(a d:Value):checkBuiltinCall "max" ⟨[a],[(Str.ofString "default",d)]⟩=pure ():=by kernel_rfl
theorem No(d:Value):Builtin.Builtins.bindParams "max" ["key","default"] 0 ⟨[],[(Str.ofString "default",d)]⟩=pure [none,some d]:=rfl
section
variable {prog:Program}{w:World}{A:Around}{E:Value->Shared->Prop}{s:Shared}
theorem NS{x d:Value}{Q:Value->Shared->Prop}
  (h:wpAny (model prog w) A.in1 (pyIter x) (λu a=>∃I r l n P St j,u=.ref I/\Walks prog w A.in1 I r l n P St/\St 0 a.heap/\(∀b∈r,b<a.heap.objs.size)/\CmpOf prog w A.in1 .Gt P j /\
   ∀v i k,(n=0/\v=d\/0<n/\P (argBest j (n-1)) v)->(∀b o,b∉l->a.heap.get? b=some o->i.get? b=some o)->Q v {a with heap:=i,toks:=k}) E s):
  wpAny (model prog w) A (call (.builtin "max") [x] [(Str.ofString "default",d)]) Q E s:=by
 have y:(toString "max"++toString ".loop" : String)="max.loop":=by decide
 refine yM (DP F.plain_max F.entry_max ?_);rw[LA];refine aq ?_;refine ab (nR (No d) (ab (aq (ab (iA h (λu a c=>?_) λ_ _ e=>e)))));obtain⟨I,r,l,n,P,St,j,rfl,W,m,t,f,p⟩:=c;refine ab (kq ?_);rw[y];refine aq ⟨mH vd _,NR W j f a.heap.objs.size (λz=>nT _ (t _ z)) d n 0 _ #[] _ (by lia) (W.frame _ _ _ m λb _ o e=>cg _ e) rfl (ez _ rfl) λv i k q g=>?_⟩;exact p v i k q λb o C e=>g b o C (dF (cu e)) (cg _ e)
end
def iY(d:Int):List Int->Int
 |[]=>d
 |n::ns=>ce true n ns
def qN(K:Fg) (d:Int):List V->Hp->VK->Prop:=λc H Q=>∃(a:Addr) (b:List Int),c=[.ref a]/\(du K H a (b.map V.int)\/bH K H a (b.map V.int))/\Q (.int (iY d b)) H
theorem KE{X:Cx}(C:X.calm=true)(A:Gl X "max")(x:X.mg "max"=none)(Y:PA X [l] t)
  (he:backTo pos (starEach [l] X.env)=(false,eval l X.env)::backTo pos (starEach [] X.env):=by rfl)(g:(backTo pos (starEach [l] X.env)).any (·.1)=false:=by rfl):
  PE X (.Call (.Name "max" p) [l] [⟨some "default",.Constant (.int d) j cpos,kpos⟩] pos) (Eb (qN X.K d) t):=by
 intro aW s U H Q I h;refine pB (lQ I A x PyProof.Rows.boot_max ?_);refine callWith_kw (bi (Y pos aW s U H _ I h) λus y k=>?_) he g;obtain⟨vs,H1,I1,r1,R⟩:=k;refine kws_cons (Ol (kws_nil ?_));obtain⟨a,f,rfl,G,q⟩:=R;obtain⟨u,rfl,S⟩:=vals1 r1;cases S;have J:=I1.tok (y.toks+1);refine NS (Tu C J G λE fp wr P St s2 W T m c b=>?_);refine⟨E,fp,wr,_,P,St,_,rfl,W,T,m,CmpOf.ints_gt (λi=>f.getD i 0) c,λv w o e r=>?_⟩;cases f with
 |nil=>
  rcases e with⟨_,rfl⟩|⟨z,_⟩
  ·exact⟨.int d,H1,b w o r,⟨_,rfl⟩,q⟩
  ·exact absurd z (by simp)
 |cons n f=>
  rcases e with⟨z,_⟩|⟨_,e⟩
  ·exact absurd z (by simp)
  ·obtain⟨t,rfl⟩:=c _ _ e;rw[Rv (by simp)];exact⟨.int (ce true n f),H1,b w o r,⟨_,rfl⟩,q⟩
section
open AutoSeq1
end
end L2
namespace Dd
open L2
def iK(d:Int):List D->aa->bJ D:=λb a=>match b with
 |[x]=>match (cD a x).bind bC with
  |some ns=>.ok (.int (iY d ns)) a
  |none=>.stuck
 |_=>.stuck
theorem Jh{K:Fg}:jO K (iK d) (qN K d):=λn H r l o z c Q b i e q=>by
 unfold iK at e;split at e
 ·split at e
  ·rename_i j h;cases e;obtain⟨m,f,h⟩:=sW.mp h;obtain⟨u,rfl,a⟩:=i.one;obtain⟨p,s,rfl,k,g⟩:=wc b a f;have e:=qh g h;subst e;exact⟨p,j,rfl,k,q _ _ _ (.refl _ _) b (.int _)⟩
  ·cases e
 ·cases e
theorem Ju{X:Cx}(g:X.calm=true)(e:Gl X "max")(c:X.mg "max"=none)(b:JA X [l] f)
 (h:backTo pos (starEach [l] X.env)=(false,eval l X.env)::backTo pos (starEach [] X.env):=by rfl)(a:(backTo pos (starEach [l] X.env)).any (·.1)=false:=by rfl):
 JE X (.Call (.Name "max" p) [l] [⟨some "default",.Constant (.int d) j cpos,kpos⟩] pos) (aE (iK d) f):=⟨fG (KE g e c b.out h a) (rF Jh)⟩
end Dd
namespace L2
open Spec PyProof.Rows
end L2
namespace Dd
open L2 PyProof.Rows
end Dd
namespace L2
open Spec PyProof.Rows
theorem U2:fillsNumberSlot (.type "tuple") "mul"=pure false:=
 PySem.fillsNumberSlot_seq (id:="tuple.__mul__") (r:=some (.builtin "tuple.__rmul__")) yV.lookup (by decide +kernel) F.slot_tuple_rmul.lookup (by decide +kernel)
theorem K2:seqRepeat? (.type "tuple")=pure (some (.builtin "tuple.__mul__")):=by
 unfold seqRepeat?;rw[PySem.seqSlot_of (T:="tuple") (name:="__mul__") (id:="tuple.__mul__") yV.lookup (by decide +kernel),PySem.seqSlot_of (T:="tuple") (name:="__rmul__") (id:="tuple.__rmul__") F.slot_tuple_rmul.lookup (by decide +kernel)]
 rfl
theorem M5(a:Int)(t:Tok)(l:Addr)(b:Array Value)(n:Nat)(f:Option Addr)(e:Array (Option Value)):
  Meets (Builtin.«int.__rmul__» ⟨[.int a t,.ref l],[]⟩) (λ_ R s=>s.heap.get? l=some { cls:=.type "tuple",dict:=f,data:=.seq b n,slots:=e }/\R (.ok (.ret Value.notImplemented)) s):=
 .of_wp λc w A R s h=>by
  obtain⟨k,g,d,i,os⟩:=s;obtain⟨j,h⟩:=h
  wp_walk
  exact⟨_,rfl,h⟩
theorem nb(h:b=false):decide (b=true)=false:=by rw[h];rfl
section
open AutoSeq1
variable (l:Addr)(items:Array Value)(n:Nat)(dd:Option Addr)(sl:Array (Option Value))(x:Int)(u:Tok)
theorem NY(lo:-1000000<=x)(c:x<=0)(b:items.isEmpty=false):
  Meets (Builtin.«tuple.__mul__» ⟨[.ref l,.int x u],[]⟩) (λ_ R s=>s.heap.get? l=some { cls:=.type "tuple",dict:=dd,data:=.seq items n,slots:=sl }/\R (.ok (.ret (.ref s.heap.objs.size))) { s with heap:=s.heap.push { cls:=.type "tuple",data:=.seq #[] } }):=
 .of_wp λa w A R s h=>by
  obtain⟨i,g,d,e,os⟩:=s;obtain⟨f,h⟩:=h
  wp_walk
  try
   refine ph ?c1 ?_
   case c1=>exact nb (by rw[vn];exact⟨dM (by lia),dM (by lia)⟩)
   wp_walk
  try
   refine ph ?c1 ?_
   case c1=>exact nb (by rw[vn];exact⟨b,beq_false_of_ne (by lia)⟩)
   wp_walk
  try
   refine wpAny_ite_true ?c1 ?_
   case c1=>exact yb (by rw[Bool.or_eq_true];exact .inl (eK c))
   wp_walk
  exact⟨_,rfl,h⟩
theorem Mp(b:x=1):
  Meets (Builtin.«tuple.__mul__» ⟨[.ref l,.int x u],[]⟩) (λ_ R s=>s.heap.get? l=some { cls:=.type "tuple",dict:=dd,data:=.seq items n,slots:=sl }/\R (.ok (.ret (.ref l))) s):=
 .of_wp λa w A R s h=>by
  obtain⟨f,g,d,c,os⟩:=s;obtain⟨e,h⟩:=h
  wp_walk
  try
   refine ph ?c1 ?_
   case c1=>exact nb (by rw[vn];exact⟨dM (by lia),dM (by lia)⟩)
   wp_walk
  try
   refine wpAny_ite_true ?c1 ?_
   case c1=>exact yb (by rw[Bool.or_eq_true];exact .inr (by rw[b];rfl))
   wp_walk
  exact⟨_,rfl,h⟩
theorem NX(o:2<=x)(q:x<=1000000)(e:items.isEmpty=false)(k:((items.size:Nat):Int)*x<=1000000)(i:Builtin.Tuple.tupleTooMany (((items.size:Nat):Int)*x)=false)
  (c:(List.foldl (λa b=>a++b) #[] (List.replicate x.toNat items)).size<=sizeLine):
  Meets (Builtin.«tuple.__mul__» ⟨[.ref l,.int x u],[]⟩) (λ_ R s=>s.heap.get? l=some { cls:=.type "tuple",dict:=dd,data:=.seq items n,slots:=sl }/\R (.ok (.ret (.ref s.heap.objs.size))) { s with heap:=s.heap.push { cls:=.type "tuple",data:=.seq (List.foldl (λa b=>a++b) #[] (List.replicate x.toNat items)) } }):=
 .of_wp λf w A R s h=>by
  obtain⟨p,g,d,j,os⟩:=s;obtain⟨m,h⟩:=h
  wp_walk
  try
   refine ph ?c1 ?_
   case c1=>exact nb (by rw[vn];exact⟨dM (by lia),dM (by lia)⟩)
   wp_walk
  try
   refine ph ?c1 ?_
   case c1=>exact nb (by rw[vn];exact⟨e,beq_false_of_ne (by lia)⟩)
   wp_walk
  try
   refine ph ?c1 ?_
   case c1=>exact nb (by rw[vn];exact⟨dM (by lia),e⟩)
   wp_walk
  try
   refine ph ?c1 ?_
   case c1=>exact dM (by lia)
   wp_walk
  try
   refine ph ?c1 ?_
   case c1=>exact nb i
   wp_walk
  try (refine ph (dM (Nat.not_lt.mpr c)) ?_;wp_walk)
  exact⟨_,rfl,h⟩
end
noncomputable def dw{α:Type}(a:List α) (n:Int):List α:=(List.replicate n.toNat a).flatten
theorem Ry{c:Type}(b:List c):∀(n:Nat) (a:List c),(List.foldl (λ(d e:Array c)=>d++e) a.toArray (List.replicate n b.toArray))=(a++(List.replicate n b).flatten).toArray
 |0,a=>by simp
 |n+1,a=>by
  rw[nY,sN,nY,sQ,←eh,←Ry b n (a++b)]
  congr 1
  simp
theorem aj.times(r:aj xs us):∀n:Nat,aj (List.replicate n xs).flatten (List.replicate n us).flatten
 |0=>.nil
 |n+1=>by
  rw[nY,sQ,nY,sQ];exact r.append (aj.times r n)
def qM(K:Fg):R2:=λx y H Q=>∃t a n,x=.ref t/\y=.int n/\bH K H t a/\a≠[]/\-1000000<=n/\n<=1000000/\(a.length:Int)*n<=1000000/\(n=1->Q (.ref t) H)/\(n≠1->∀p,H p=none->Q (.ref p) (ar H p (.tup (dw a n))))
theorem Fx{b:Type}(a:List b):∀n:Nat,(List.replicate n a).flatten.length=n*a.length
 |0=>by simp
 |n+1=>by rw[nY,sQ,cx,Fx a n,Do];lia
theorem EE:dH X (binaryOp .Mult) (qM X.K):=by
 intro aW s σ H x y v u Q I r1 r2 h;obtain⟨t,f,n,rfl,rfl,ht,R,lo,hi,hz,q1,q2⟩:=h;cases r1;obtain⟨g,rfl⟩:=r2;obtain⟨d,r,⟨o,e,G,m,J⟩,z⟩:=I.tuple ht;obtain⟨cls,A,data,w⟩:=o;dsimp only at G J;subst G J;have len:=r.length;have i:d.toArray.isEmpty=false:=by
  cases d with
  |nil=>cases r;exact absurd rfl R
  |cons a l=>rfl
 have k:∀{C:Value->Shared->Prop},wpAny (model X.prog X.w) X.A (call (.builtin "tuple.__mul__") [.ref t,.int n g]) C X.xe s->wpAny (model X.prog X.w) X.A (binaryOp .Mult (.ref t) (.int n g)) C X.xe s:=λ{C} hq=>
  wpAny_binaryOp_repeat_ref (T:="tuple") (U:="int") (by decide) ⟨_,e,rfl⟩ (λs'=>typeIs_int s' n g) U2 F.fills_int_mul F.slot_int_rmul K2 F.slot_int_index.lookup
   (o9 F.slot_int_rmul (typeIs_int s n g) F.entry_int_rmul (F.args_int_rmul_2 _ _) (M5 n g t d.toArray m A w) ⟨e,rfl,⟨_,e,rfl⟩,hq⟩)
 refine k ?_;by_cases c:n=1
 ·exact o9 yV ⟨_,e,rfl⟩ Oh (On _ _) (Mp t d.toArray m A w n g c) ⟨e,.ref t,H,I,rfl,q1 c⟩
 have done:∀ q:List Value,aj (dw f n) q->(dw f n).length<=sizeLine->EP X aW σ Q (.ref s.heap.objs.size) { s with heap:=s.heap.push { cls:=.type "tuple",data:=.seq q.toArray } }:=λq rt hl=>
  ⟨.ref s.heap.objs.size,_,I.laid (t':=s.toks) (o:=.tup (dw f n)) (λb ob S=>cg _ S) (bj _) ⟨hl,q,rt,IsTup.new s.heap _⟩,rfl,q2 c _ (I.hok.fresh (bj _))⟩
 have j:(dw f n).length=n.toNat*f.length:=Fx f n.toNat;by_cases c2:n<=0
 ·refine o9 yV ⟨_,e,rfl⟩ Oh (On _ _) (NY t d.toArray m A w n g lo c2 i) ⟨e,?_⟩;have P:dw f n=[]:=by unfold dw;rw[show n.toNat=0 by lia];rfl
  exact done [] (by rw[P];exact .nil) (by rw[P];exact iT _)
 ·have a0:n.toNat*f.length<=1000000:=by
   have:((n.toNat*f.length:Nat):Int)=(f.length:Int)*n:=by rw[Int.natCast_mul,Int.toNat_of_nonneg (by lia),Int.mul_comm]
   lia
  have p:n.toNat*f.length<=sizeLine:=by rw[jo];lia
  have E:List.foldl (λ(x1 x2:Array Value)=>x1++x2) #[] (List.replicate n.toNat d.toArray)=((List.replicate n.toNat d).flatten).toArray:=by
   have:=Ry d n.toNat []
   simpa using this
  have Y:((d.toArray.size:Nat):Int)*n<=1000000:=by rw[dR,←len];exact hz
  refine o9 yV ⟨_,e,rfl⟩ Oh (On _ _) (NX t d.toArray m A w n g (by lia) hi i Y (dM (by rw[jo];lia)) (by rw[E,dR,Fx,←len];exact p)) ⟨e,?_⟩;rw[E];exact done _ (r.times n.toNat) (by rw[j];exact p)
end L2
namespace Dd
open L2 PyProof.Rows
def gZ(x y:D) (a:aa):bJ D:=match x,y with
 |.tup xs,.int n=>if xs≠[]/\-1000000<=n/\n<=1000000/\(xs.length:Int)*n<=1000000 then .ok (.tup (dw xs n)) a else .stuck
 |_,_=>.stuck
theorem ae.times{K:Fg}{c:Loc}{H:Hp}{a:List D}{b:List V}(h:ae K c H a b):∀n:Nat,ae K c H (List.replicate n a).flatten (List.replicate n b).flatten
 |0=>.nil
 |n+1=>by
  rw[nY,sQ,nY,sQ];exact h.append (ae.times h n)
theorem EA{K:Fg}:iL K gZ (qM K):=λj H k x y u v z g Q f a b e q=>by
 unfold gZ at e;split at e
 ·rename_i xs n;split at e
  ·rename_i c;cases e;cases b;cases a with
   |tup h1 h2 h3=>
    have h:=h3.length;refine⟨_,_,n,rfl,rfl,bH.of h1,λz=>?_,c.2.1,c.2.2.1,by rw[h];exact c.2.2.2,λz=>?_,λz p d=>?_⟩
    ·subst z;cases h3;exact c.1 rfl
    ·subst z;refine q _ _ _ (.refl _ _) f ?_;have i:dw xs 1=xs:=by simp[dw]
     rw[i];exact .tup h1 h2 h3
    ·exact q _ _ _ (bp.new d _) (f.new d _) (.newT f d (h3.times n.toNat))
  ·cases e
 ·cases e
end Dd
namespace L2
open Spec PyProof.Rows PySem.W
end L2
namespace Dd
open L2 PyProof.Rows
end Dd
namespace L2
open Spec PyProof.Rows
end L2
namespace Dd
open L2 PyProof.Rows
end Dd
namespace Dd
variable {α:Type}
section
variable {motive:List α->Prop}
@[elab_as_elim] theorem AY (us:List α) (a:us.length=0) (h:motive []):motive us:=by rw[List.eq_nil_of_length_eq_zero a];exact h
@[elab_as_elim] theorem pS {n:Nat}(us:List α) (b:us.length=n+1) (h:∀a us,us.length=n->motive (a::us)):motive us:=by
 cases us with
 |nil=>cases b
 |cons a us=>exact h a us (Nat.succ.inj b)
@[elab_as_elim] theorem AX (us:List α) (b:us.length=1) (h:∀a,motive [a]):motive us:=pS us b λa us b=>AY us b (h a)
@[elab_as_elim] theorem AW (us:List α) (c:us.length=2) (h:∀a b,motive [a,b]):motive us:=pS us c λa us c=>AX us c (h a)
@[elab_as_elim] theorem AV (us:List α) (d:us.length=3) (h:∀a b c,motive [a,b,c]):motive us:=pS us d λa us d=>AW us d (h a)
@[elab_as_elim] theorem Pm (us:List α) (e:us.length=4) (h:∀a b c d,motive [a,b,c,d]):motive us:=pS us e λa us e=>AV us e (h a)
end
end Dd
namespace Dd
open L2
end Dd
namespace L2
open Spec PyProof.Rows
end L2
namespace Dd
open L2 PyProof.Rows
end Dd
namespace L2
open Spec PyProof.Rows
end L2
namespace Dd
open L2
end Dd
namespace Dd
open L2 PyProof.Rows
end Dd
namespace L2
open Spec PyProof.Rows
theorem QJ:∀{c:List V}{d:List Value},aj c d->aj c.reverse d.reverse
 |[],_,h=>by cases h;exact .nil
 |x::c,_,h=>by
  cases h with
  |cons a b=>rw[DH,DH];exact(QJ b).append (.cons a .nil)
end L2
namespace Dd
open L2
end Dd
namespace L2
open Spec PyProof.Rows
end L2
namespace Dd
open L2
end Dd
namespace L2
open Spec PyProof.Rows
end L2
namespace Dd
open L2
end Dd
namespace L2
open Spec PyProof.Rows
end L2
namespace L2
namespace St
end St
end L2
namespace L2
open PySem.W PyProof.Rows Spec
namespace St
end St
end L2
namespace L2
open Spec PyProof.Rows PySem.W
end L2
namespace Dd
open L2 PyProof.Rows
end Dd
namespace L2
open Spec PyProof.Rows PySem.W
end L2
namespace Dd
open L2 PyProof.Rows
end Dd
namespace L2
open Spec PyProof.Rows
end L2
namespace Dd
open L2 PyProof.Rows
end Dd
namespace L2
open Spec PyProof.Rows
end L2
namespace Dd
open L2 PyProof.Rows
end Dd
namespace L2
open Spec PyProof.Rows
end L2
namespace Dd
open L2 PyProof.Rows
end Dd
namespace L2
open Spec PyProof.Rows
end L2
namespace L2
open Spec PyProof.Rows Builtin Builtin.ObjectAttr
end L2
namespace L2
open Spec PyProof.Rows
end L2
namespace Dd
open L2 PyProof.Rows
end Dd
namespace L2
open Spec PyProof.Rows
end L2
namespace Dd
open L2 PyProof.Rows
end Dd
namespace L2
open Spec PyProof.Rows
end L2
namespace Dd
open L2 PyProof.Rows
end Dd
namespace L2
open Spec PyProof.Rows
end L2
namespace Dd
open L2 PyProof.Rows
end Dd
namespace L2
open Spec PyProof.Rows
def zZ(_K:Fg):V->List V->Hp->VK->Prop:=λx c H Q=>∃(a:Addr) (k:cI) (v:V) (b:List (cI×V)),x=.ref a/\c=[kV k,v]/\H a=some (.dK b)/\b.length<sizeLine /\
 (∀u,cy b k=some u->Q u H)/\(cy b k=none->Q v (ar H a (.dK (eE b k v))))
theorem Kk: BM X "dict.setdefault" (zZ X.K):=by
 intro aW s U H x Y v us Q I P T h;obtain⟨a,k,d,b,rfl,rfl,e,hl,E,t⟩:=h;cases P;obtain⟨u,r,rfl,J,l⟩:=vals2 T;obtain⟨z,m,o,f,n⟩:=rK I.hok e;have S:o.length<=sizeLine:=by rw[←f.length];exact z
 have j:(eE b k d).length<=sizeLine:=by have:=FJ b k d;lia
 refine uW Sz n.typeIs F.entry_dict_setdefault (F.args_dict_setdefault_3 _ _ _) (kt_meets_setdefault (ba X.prog X.w) a (jT J) m r) ⟨o,n,S,λw A=>?_,λp G i C=>?_⟩
 ·have c:=f.val k;rw[A] at c;cases g:cy b k with
  |none=>rw[g] at c;exact c.elim
  |some y=>rw[g] at c;exact⟨y,H,I.tok _,c,E y g⟩
 ·have g:cy b k=none:=by
   have c:=f.val k;rw[p] at c;cases g:cy b k with
   |none=>rfl
   |some y=>rw[g] at c;exact c.elim
  have R:∃q,G.get? a=some q:=let ⟨q,_,_,hq,_⟩:=i;⟨q,hq⟩
  exact⟨d,_,vK I (by rw[e];exact True.intro) C R (r9 j m (f.put k l) i),l,t g⟩
def mW(d:List V) (H:Hp) (Q:VK):Prop:=∃(a:Addr) (n:Int) (c:List Int) (b:List (cI×V)),d=[.ref a]/\Rd H a (.dK b)/\b.map (·.1)=(n::c).map Sum.inl/\Q (.int (ce true n c)) H
theorem TH{X:Cx}(T:X.calm=true):bV X (.builtin "max") mW:=by
 intro aW s σ H xs us Q I r h;obtain⟨a,n,g,E,rfl,e,ek,q⟩:=h;obtain⟨u,rfl,Y⟩:=vals1 r;cases Y;obtain⟨z,hd,c,l,dd⟩:=jS I.hok e;obtain⟨ep,P⟩:∃ep,s.heap.DictAt (ba X.prog X.w) a c ep:=by
  obtain⟨o,es,ep,h⟩:=dd;exact⟨ep,o,es,h⟩
 obtain⟨oI,St,j,W,au⟩:=(W.kdl_dict (prog:=X.prog) (w:=X.w) (knd:=ba X.prog X.w) (kvs:=c) (ep:=ep) hd).iter X.A.in1 s (I.ok.hd T) P;have J:c.map (·.1)=(n::g).map Sum.inl:=l.keys.symm.trans ek;have d:c.length=(n::g).length:=by have:=congrArg List.length J;simpa using this
 have f:∀i v,(∃k x,c[i]?=some (k,x)/\(ba X.prog X.w).is k v=true)->∃t,v=.int ((n::g).getD i 0) t:=λi v A=>by
  obtain⟨k,x,hi,p⟩:=A;have R:(c.map (·.1))[i]?=some k:=by rw[fq,hi];rfl
  rw[J,fq] at R;obtain⟨y,hy,rfl⟩:=iE.mp R;rw[dO,hy];rcases nQ (show hG (Sum.inl y) v=true from p) with⟨i,t,m,rfl⟩|⟨x,t,m,rfl⟩
  ·cases m;exact⟨t,rfl⟩
  ·cases m
 have G:a<s.heap.objs.size:=P.lt_size;refine call_max_walk (j _ _ ⟨s.heap.objs.size,_,_,_,_,St,_,rfl,W,au,λb S=>?_,by rw[d];simp,CmpOf.ints_gt (λi=>(n::g).getD i 0) f,λv h' U hP p=>?_⟩)
 ·rw[nU];have C:b=s.heap.objs.size\/b=a:=by simpa using S
  rcases C with z|z
  ·rw[z];exact ve _
  ·rw[z];exact yX G
 ·obtain⟨t,rfl⟩:=f _ _ hP;rw[d,Rv (by simp)];exact⟨.int (ce true n g),H,I.kept (t':=U) λb u e=>p b u (by simp;exact dF (cu e)) (cg _ e),⟨_,rfl⟩,q⟩
def AA(_K:Fg):V->List V->Hp->VK->Prop:=λx c H Q=>∃(a:Addr) (k:cI) (v:V) (b:List (cI×V)),x=.ref a/\c=[kV k]/\H a=some (.dK b)/\cy b k=some v/\Q v (ar H a (.dK (dA b k)))
theorem Kj: BM X "dict.pop" (AA X.K):=by
 intro j s t H x m v o Q I g f h;obtain⟨a,k,d,i,rfl,rfl,e,l,q⟩:=h;cases g;obtain⟨u,rfl,c⟩:=f.one;exact rH I e c l (.inl rfl) λp n b r=>⟨d,_,b,r,q⟩
end L2
namespace Dd
open L2 PyProof.Rows
noncomputable def eS(a:List (Int×D)) (k:Int):Option D:=(a.find? λb=>decide (b.1=k)).map (·.2)
noncomputable def lA(a:List (Int×D)) (k:Int) (v:D):List (Int×D):=
 if(a.any λb=>decide (b.1=k))=true then a.map (λb=>if b.1=k then(b.1,v) else b) else a++[(k,v)]
noncomputable def iI(a:List (Int×D)) (k:Int):List (Int×D):=a.filter λb=>decide (b.1≠k)
theorem tL:(Sum.inl a:cI)=Sum.inl b↔a=b:=⟨λe=>Sum.inl.inj e,λe=>by rw[e]⟩
section
variable {K:Fg}{ρ:Loc}{H:Hp}{kvs:List (Int×D)}{vs:List (cI×V)}
theorem eH.val(h:eH K ρ H kvs vs)(k:Int):match eS kvs k with
  |some d=>∃v,cy vs (Sum.inl k)=some v/\At K ρ H d v
  |none=>cy vs (Sum.inl k)=none:=by
 induction h with
 |nil=>rfl
 |@cons p q ps qs h t ih=>
  obtain⟨b,f⟩:=h;by_cases e:p.1=k
  ·have a:eS (p::ps) k=some p.2:=by simp[eS,lZ,e]
   rw[a];exact⟨q.2,we (by rw[b,e]),f⟩
  ·have a:eS (p::ps) k=eS ps k:=by simp[eS,lZ,e]
   have c:cy (q::qs) (Sum.inl k)=cy qs (Sum.inl k):=wd (by rw[b,tL];exact e);rw[a,c];exact ih
theorem eH.keys(h:eH K ρ H kvs vs):vs.map (·.1)=(kvs.map (·.1)).map Sum.inl:=by
 induction h with
 |nil=>rfl
 |@cons p q ps qs h t ih=>rw[cf,cf,cf,ih,h.1]
theorem eH.put(h:eH K ρ H kvs vs)(k:Int){d:D}{v:V}(a:At K ρ H d v):eH K ρ H (lA kvs k d) (eE vs (Sum.inl k) v):=by
 have any:∀{kvs:List (Int×D)}{vs:List (cI×V)},eH K ρ H kvs vs->(kvs.any λc=>decide (c.1=k))=(vs.any λc=>decide (c.1=Sum.inl k)):=λh=>by
  induction h with
  |nil=>rfl
  |@cons p q ps qs h t ih=>
   rw[sG,sG,ih,h.1]
   congr 1
   simp only[tL]
 unfold lA eE;rw[any h];split
 ·rename_i g;clear g any
  induction h with
  |nil=>exact .nil
  |@cons p q ps qs h t ih=>
   refine .cons ?_ ih;obtain⟨b,i⟩:=h;dsimp only;by_cases e:p.1=k
   ·rw[if_pos e,if_pos (by rw[b,e])];exact⟨b,a⟩
   ·rw[if_neg e,if_neg (by rw[b,tL];exact e)];exact⟨b,i⟩
 ·have f:∀{kvs:List (Int×D)}{vs:List (cI×V)},eH K ρ H kvs vs->eH K ρ H (kvs++[(k,d)]) (vs++[(Sum.inl k,v)]):=λh=>by
   induction h with
   |nil=>exact .cons ⟨rfl,a⟩ .nil
   |cons h t ih=>exact .cons h ih
  exact f h
theorem eH.drop(h:eH K ρ H kvs vs)(k:Int):eH K ρ H (iI kvs k) (dA vs (Sum.inl k)):=by
 unfold iI dA
 induction h with
 |nil=>exact .nil
 |@cons p q ps qs h t ih=>
  by_cases e:p.1=k
  ·rw[l9 (by simp[e]),l9 (by simp[h.1,e])];exact ih
  ·rw[l8 (by simp[e]),l8 (by simp[h.1,e])];exact .cons h ih
theorem eH.length(h:eH K ρ H kvs vs):kvs.length=vs.length:=sH h
end
section
variable {H:Hp}{vs:List (cI×V)}
theorem B7{p:Addr}(g:H p=some (.dK vs)):∀a u,H p≠some (.frz a u):=λa u z=>by rw[g] at z;cases z
end
def i7:SE:=λ_ a=>.ok (.ref a.length) (a++[.dI []])
def kJ(f:SE) (g:SA):SE:=λc e=>(f c e).bind λx b=>match x with
 |.ref n=>match b[n]? with
  |some (.dI _)=>(g c b).bind λd a=>match d,a[n]? with
   |[.int k],some (.dI kvs)=>match eS kvs k with
    |some v=>.ok v (a.set n (.dI (iI kvs k)))
    |none=>.stuck
   |_,_=>.stuck
  |_=>.stuck
 |_=>.stuck
def ge(f:SE) (g:SA):SE:=λc h=>(f c h).bind λx b=>match x with
 |.ref n=>match b[n]? with
  |some (.dI _)=>(g c b).bind λe a=>match e,a[n]? with
   |[.int k,d],some (.dI kvs)=>if kvs.length<sizeLine then(match eS kvs k with
    |some v=>.ok v a
    |none=>.ok d (a.set n (.dI (lA kvs k d)))) else .stuck
   |_,_=>.stuck
  |_=>.stuck
 |_=>.stuck
def hX:List D->aa->bJ D:=λb a=>match b with
 |[.ref n]=>match a[n]? with
  |some (.dI kvs)=>match kvs.map (·.1) with
   |k::ks=>.ok (.int (ce true k ks)) a
   |[]=>.stuck
  |_=>.stuck
 |_=>.stuck
def jz(f:SE):ST:=λc b=>(f c b).bind λv a=>match v with
 |.ref n=>match a[n]? with
  |some (.dI kvs)=>.ok (!kvs.isEmpty) a
  |_=>.stuck
 |_=>.stuck
theorem LI:JE X (.Dict [] [] pos) i7:=⟨fG MI λh H Q b p f=>by
 obtain⟨g,j,i,v,d,a,c,e,q⟩:=b;cases e;obtain⟨E,R⟩:=c.alloc f (x:=.dI []) (o:=.dK []) λE=>⟨[],zq,.nil⟩
 exact q _ _ _ E R (.last c.len.symm)⟩
section
variable {X:Cx}{o:Expr}{e:Expr}{a:Expr}{es:List Expr}{f:SE}{ga:SA}{apos:Pos}{cpos:Pos}
theorem Jw(ho:JE X o f)(ha:JA X (e::es) ga)(d:attributeBase o "pop" X.env (eval o X.env)=eval o X.env:=by rfl)
  (i:((backTo cpos (starEach (e::es) X.env)).all (λx=>!x.1)&&(backToKw cpos (keywordEach [] X.env)).all (λx=>x.1.isSome)
   && decide ((e::es).length+([]:List Keyword).length+(if([]:List Keyword).isEmpty then 0 else 1)<30))=true:=by rfl)
  (c:(apos.endLine==cpos.line)=true:=by rfl)(hs:starEach (e::es) X.env=(false,eval e X.env)::starEach es X.env:=by rfl)(b:(backTo cpos (starEach es X.env)).any (·.1)=false:=by rfl):
  JE X (.Call (.Attribute o "pop" apos) (e::es) [] cpos) (kJ f ga):=⟨fG (oV D4 DV F.type_dict_pop Kj ho.out ha.out d i c hs b) λτ H Q s=>by
 obtain⟨ρ,C,au,v,a5,a,rp,e,q⟩:=s;obtain⟨x,m,e1,e⟩:=za e;refine⟨ρ,C,au,x,m,a,rp,e1,λy H1 u G j J=>?_⟩;split at e
 ·rename_i n;split at e
  ·rename_i a0 h0;obtain⟨p,rfl,hp,a6,g0,_⟩:=ig j J h0 (by intro z;cases z);obtain⟨S,t,e2,e⟩:=za e;refine⟨.inr (.inr (.inl ⟨rfl,.inl ⟨_,g0⟩⟩)),y,C,m,S,t,a.ext G,j,e2,λl H2 ws A h a2=>?_⟩;split at e
   ·rename_i k a4 U;split at e
    ·rename_i z hv;cases e;obtain⟨w,rfl,T⟩:=a2.one;cases T;obtain⟨p',ep,g,R,r,P⟩:=ig h (J.ext A) U (by intro z;cases z);cases ep;have I:=P.val k;rw[hv] at I;obtain⟨vv,g5,Y⟩:=I;have E:bp l H2 l (ar H2 p (.dK (dA R (Sum.inl k)))):=bp.wr g (B7 r) _;exact⟨p,Sum.inl k,vv,R,rfl,rfl,r,g5,q _ _ _ ((G.trans A).trans E) (h.wr g (B7 r) ⟨_,zq,(P.drop k).ext E⟩) (Y.ext E)⟩
    ·cases e
   ·cases e
  ·cases e
 ·cases e⟩
theorem LK(ho:JE X o f)(ha:JA X (e::es) ga)(h:attributeBase o "setdefault" X.env (eval o X.env)=eval o X.env:=by rfl)
  (r:((backTo cpos (starEach (e::es) X.env)).all (λx=>!x.1)&&(backToKw cpos (keywordEach [] X.env)).all (λx=>x.1.isSome)
   && decide ((e::es).length+([]:List Keyword).length+(if([]:List Keyword).isEmpty then 0 else 1)<30))=true:=by rfl)
  (g:(apos.endLine==cpos.line)=true:=by rfl)(hs:starEach (e::es) X.env=(false,eval e X.env)::starEach es X.env:=by rfl)(b:(backTo cpos (starEach es X.env)).any (·.1)=false:=by rfl):
  JE X (.Call (.Attribute o "setdefault" apos) (e::es) [] cpos) (ge f ga):=⟨fG (oV D4 Sz F.type_dict_setdefault Kk ho.out ha.out h r g hs b) λτ H Q I=>by
 obtain⟨ρ,σ,au,v,a6,a,rp,e,q⟩:=I;obtain⟨x,C,e1,e⟩:=za e;refine⟨ρ,σ,au,x,C,a,rp,e1,λS H1 u R t a1=>?_⟩;split at e
 ·rename_i n;split at e
  ·rename_i a0 h0;obtain⟨p,rfl,hp,a7,g0,_⟩:=ig t a1 h0 (by intro z;cases z);obtain⟨ys,P,e2,e⟩:=za e;refine⟨.inr (.inr (.inl ⟨rfl,.inl ⟨_,g0⟩⟩)),S,σ,C,ys,P,a.ext R,t,e2,λA H2 ws J c a2=>?_⟩;split at e
   ·rename_i k d a5 hn;split at e
    ·rename_i s;obtain⟨w,w2,rfl,a3,a4⟩:=a2.two;cases a3;obtain⟨p',ep,m,Y,G,U⟩:=ig c (a1.ext J) hn (by intro z;cases z);cases ep;have l:=U.val k;refine⟨p,Sum.inl k,w2,Y,rfl,rfl,G,by rw[←U.length];exact s,λy i=>?_,λi=>?_⟩
     ·split at e
      ·rename_i z j;cases e;rw[j] at l;obtain⟨vv,T,g6⟩:=l;rw[T] at i;cases i;exact q _ _ _ (R.trans J) c g6
      ·rename_i j;rw[j] at l;rw[show cy Y (Sum.inl k)=none from l] at i;cases i
     ·split at e
      ·rename_i z j;rw[j] at l;obtain⟨vv,T,g6⟩:=l;rw[T] at i;cases i
      ·rename_i j;cases e;have E:bp A H2 A (ar H2 p (.dK (eE Y (Sum.inl k) w2))):=bp.wr m (B7 G) _;exact q _ _ _ ((R.trans J).trans E) (c.wr m (B7 G) ⟨_,zq,(U.put k a4).ext E⟩) (a4.ext E)
    ·cases e
   ·cases e
  ·cases e
 ·cases e⟩
end
section
variable {e:Expr}{a:Expr}
theorem Ji{K:Fg}:jO K hX mW:=λr H v o s z f Q b i e q=>by
 unfold hX at e;split at e
 ·split at e
  ·rename_i n m d;split at e
   ·rename_i k h c;cases e;obtain⟨u,rfl,a⟩:=i.one;obtain⟨p,rfl,t,l,g,j⟩:=ig b a d (by intro z;cases z);exact⟨p,k,h,l,rfl,.inl g,by rw[j.keys,c],q _ _ _ (.refl _ _) b (.int _)⟩
   ·cases e
  ·cases e
 ·cases e
end
section
variable {X:Cx}{e:Expr}{a:Expr}{f:SE}
theorem LY(h:JE X a f)(E:∀b,isTrue a X.env b=(do let v ←b;standAt a.pos;holding [v] (truthy v)):=by intro _;rfl):JT X a (jz f):=⟨jV (Qv h.out E) λR H Q g=>by
 obtain⟨G,t,s,v,y,i,o,e,q⟩:=g;obtain⟨x,k,r,e⟩:=za e;refine⟨G,t,s,x,k,i,o,r,λA H1 u w d I=>?_⟩;split at e
 ·rename_i n;split at e
  ·rename_i c l;cases e;obtain⟨p,rfl,P,j,m,J⟩:=ig d I l (by intro z;cases z);have C:c.isEmpty=j.isEmpty:=by
    have:=J.length;cases c<;>cases j<;>simp at this ⊢
   exact⟨_,.inr (.inr ⟨j,m,by rw[C]⟩),q _ _ w d⟩
  ·cases e
 ·cases e⟩
end
end Dd
namespace L2
open Spec PyProof.Rows
end L2
namespace Dd
open L2 PyProof.Rows
end Dd
namespace L2
open Spec PyProof.Rows
theorem Mb:Slot "reversed" (Str.ofString "__init__") "object.__init__":=by
 refine Slot.of (owner:="object") (n:="__init__") ?_ (by decide +kernel) (by decide +kernel) (by decide +kernel) ?_ ?_
 ·rw[sK,sV]
  kernel_rfl
 ·first
   |exact .inl (by decide +kernel)
   |exact .inr (by decide +kernel)
 ·rw[yR]
  kernel_rfl
theorem TJ:TypeCalled "reversed" "reversed.__new__" "object.__init__":=⟨by decide +kernel,by kernel_rfl,⟨_,_,F.mro_reversed⟩,F.made_reversed,F.plain_reversed_new,F.sub_reversed_self,Mb⟩
theorem IX:isSubtype (.type "tuple") (.type "dict")=pure false:=by
 rw[yR]
 kernel_rfl
theorem BA:typeLookup (.type "tuple") (Str.ofString "__getitem__")=pure (some (.builtin "tuple.__getitem__")):=by
 rw[sK,sV]
 kernel_rfl
theorem HW:typeLookup (.type "tuple") (Str.ofString "__reversed__")=pure none:=by
 rw[sK,sV]
 kernel_rfl
theorem Km: Meets (Builtin.«reversed.__new__» ⟨[.type "reversed",.ref a],[]⟩) (λ_ R s=>s.heap.IsTuple a items/\(items.size:Int)<2^63/\∀ h,R (.ok (.ret (.ref s.heap.objs.size))) { s with heap:=s.heap.push { cls:=.type "reversed",data:=.fields #[.ref a,rawInt ((items.size:Int)-1)] },toks:=h }):=
 .of_wp λg w A R s d=>by
  obtain⟨e,j,l⟩:=d;have p:=F.sub_reversed_self;have n:=IX;obtain⟨o,i,k,m⟩:=id e;have f:s.TypeIs (.ref a) "tuple":=⟨o,i,k⟩
  unfold Builtin.«reversed.__new__»
  refine ab (L2.bi (Q:=λr c=>r=(Value.type "reversed",[Value.ref a])/\c=s) (by
   wp_walk
   exact⟨rfl,rfl⟩) λr c z=>?_)
  obtain⟨rfl,rfl⟩:=z;dsimp only
  refine ab (L2.bi (Q:=λr b=>b=c) (by
   wp_walk
   rfl) λr b z=>?_)
  subst z
  refine ab (L2.bi (Q:=λr c=>c=b) (by
   wp_walk
   rfl) λr c z=>?_)
  subst z;refine ab (sL f HW ?_);dsimp only
  refine ab (L2.bi (Q:=λr b=>r=true/\b=c) (by
   wp_walk using (sL f BA)
   exact⟨rfl,rfl⟩) λr b z=>?_)
  obtain⟨rfl,rfl⟩:=z;rw[if_neg (by decide)];refine ab (len_tuple e j ?_)
  wp_walk
  exact⟨_,rfl,l _⟩
theorem Td:entryFor table "reversed.__new__"=some Builtin.«reversed.__new__»:=entryFor_of_tree (by kernel_rfl)
theorem Qb{s:Shared}(e:s.heap.IsTuple a items)(d:(items.size:Int)<2^63)
 (f:∀ b,Q (.ref s.heap.objs.size) { s with heap:=s.heap.push { cls:=.type "reversed",data:=.fields #[.ref a,rawInt ((items.size:Int)-1)] },toks:=b }):wpAny (model prog w) A (PySem.call (.type "reversed") [.ref a]) Q E s:=
 callType_new TJ (by decide) (F.typeCall_reversed_1 _) (F.newCall_reversed_1 _) (λc=>F.args_object_init_2 c _) Td (Km (items:=items)) ⟨e,d,λb=>⟨⟨_,ez _ rfl,rfl⟩,f b⟩⟩
theorem su:Manifest.owners.lookup (String.ofList ("desrever".toList).reverse)=some Manifest.sig_reversed:=by kernel_rfl
theorem uK:Slot "reversed" "__next__" "reversed.__next__":=by
 refine Slot.of (owner:="reversed") (n:="__next__") ?_ (by decide +kernel) (by decide +kernel) (by decide +kernel) ?_ ?_
 ·rw[sK,sV]
  kernel_rfl
 ·first
   |exact .inl (by decide +kernel)
   |exact .inr (by decide +kernel)
 ·rw[yR]
  kernel_rfl
theorem Rg:entryFor table "reversed.__next__"=some Builtin.«reversed.__next__»:=entryFor_of_tree (by kernel_rfl)
theorem Qz(a:Value):argsOk "reversed.__next__" ⟨[a],[]⟩:=by
 unfold argsOk;rw[signature?_of (id:="reversed.__next__") (n:="__txen__".toList) (o:="desrever".toList) (by kernel_rfl) su]
 kernel_rfl
theorem CC:Slot "reversed" "__iter__" "reversed.__iter__":=by
 refine Slot.of (owner:="reversed") (n:="__iter__") ?_ (by decide +kernel) (by decide +kernel) (by decide +kernel) ?_ ?_
 ·rw[sK,sV]
  kernel_rfl
 ·first
   |exact .inl (by decide +kernel)
   |exact .inr (by decide +kernel)
 ·rw[yR]
  kernel_rfl
theorem Ri:entryFor table "reversed.__iter__"=some Builtin.«dict_keyiterator.__iter__» :=
 entryFor_alias (id':="dict_keyiterator.__iter__") (by kernel_rfl) rfl (by decide +kernel) (by kernel_rfl)
theorem QC(a:Value):argsOk "reversed.__iter__" ⟨[a],[]⟩:=by
 unfold argsOk;rw[signature?_of (id:="reversed.__iter__") (n:="__reti__".toList) (o:="desrever".toList) (by kernel_rfl) su]
 kernel_rfl
noncomputable def dB(h:Heap) (b a:Addr) (i:Int):Prop:=∃ o,h.get? b=some o/\o.cls=.type "reversed"/\o.data=.fields #[.ref a,.int i 0]
theorem dB.is{s:Shared}(x:dB s.heap it a i):s.TypeIs (.ref it) "reversed":=let ⟨o,e,c,_⟩:=x; ⟨o,e,c⟩
theorem Qy{s:Shared}{i:Nat}{W:Option Value->Shared->Prop}(k:IsTup s.heap a items)(f:dB s.heap it a (i:Int))(h:items[i]?=some u)(y:items.size<2^62)
  (e:∀g n,dB g it a ((i:Int)-1)->Heap.SameBut it s.heap g->W (some u) {s with heap:=g,toks:=n}):wpAny (model P w) B (pyNext (.ref it)) W E s:=by
 obtain⟨z,c,v,b⟩:=id f;have d:i<items.size:=(OQ.mp h).1;obtain⟨r,o,p,A⟩:=id (show s.heap.IsTuple a items from k);have q:s.TypeIs (.ref a) "tuple":=⟨r,o,p⟩
 unfold pyNext;refine ab (qt (wpAny_callSpecial?_slot (name:=Str.ofString "__next__") f.is uK (li uK f.is Rg ?body (Qz _))))
 case body=>
  unfold Builtin.«reversed.__next__»;refine ab (m:=slotArgs "__next__" 0 _) (aq ?_)
  dsimp only;refine ab (jG (i:=0) (x:=.ref a) c b rfl (ab (jG (i:=1) (x:=.int (i:Int) 0) c b rfl ?_)))
  try dsimp only
  rw[if_neg (by lia)];refine ab (sL q BA ?_);rw[if_neg (by decide)];refine ab (wpAny_mkInt (ab (qt (getItem_tuple (j:=i) (x:=u) (s:={s with toks:=s.toks+1}) k (by lia) (by lia) ?_ h ?_))))
  ·have t:¬ ((i:Int)<0):=by lia
   simp[seqIndex?,t,d]
  ·dsimp only;refine ab (jG (i:=1) (x:=.int (i:Int) 0) (s:={s with toks:=s.toks+1}) c b rfl ?_);dsimp only;refine ab (sJ (s:={s with toks:=s.toks+1}) c b (by simp) ?_);refine aq ⟨_,rfl,aq (e _ _ ?_ (qE ..))⟩;have l:=vi b (·.setIfInBounds 1 (rawInt ((i:Int)-1)));refine⟨_,lq _ c (DU l),(Oj ..).trans v,?_⟩;rw[l];simp[rawInt]
theorem yz{B:Around}{s:Shared}{W:Option Value->Shared->Prop}(p:j<0)(n:B.handled=none)(k:dB s.heap it a j)
  (h:∀g:Heap,Heap.ExtBut it s.heap g->W none {s with heap:=g}):wpAny (model P w) B (pyNext (.ref it)) W E s:=by
 obtain⟨q,f,r,e⟩:=id k;unfold pyNext;refine ab (qt (wpAny_callSpecial?_slot (name:=Str.ofString "__next__") k.is uK (li uK k.is Rg ?body (Qz _))))
 case body=>
  unfold Builtin.«reversed.__next__»;refine ab (m:=slotArgs "__next__" 0 _) (aq ?_)
  dsimp only;refine ab (jG (i:=0) (x:=.ref a) f e rfl (ab (jG (i:=1) (x:=.int j 0) f e rfl ?_)))
  try dsimp only
  rw[if_pos p]
  refine ab (L2.bi (Q:=λ_ d=>d=s) (by
   wp_walk
   rfl) λ_ d z=>?_)
  subst z
  refine ab (L2.bi (Q:=λ_ c=>∃g,c={d with heap:=g}/\Heap.SameBut it d.heap g) (by
   wp_delta
   refine ab (sJ f e (by simp) ?_);have l:=vi e (·.setIfInBounds 1 (rawInt (-1)))
   exact sJ (lq _ f (DU l)) l (by simp) ⟨_,rfl,(qE ..).trans (qE ..)⟩) λ_ c z=>?_)
  obtain⟨g,rfl,o⟩:=z;refine ab ?_;unfold Builtin.SmallTypes.stopIteration;simp only[newExc,newTuple];refine ab (ab (kq (ab (m:=firstArgMember _ _) (nR (a:=Value.none) (by first|rfl|(simp only[firstArgMember];rfl)) (kq ?_ (by size_fits)))) (by size_fits)));simp only[raiseNew];refine ab (wpAny_handled ?_);rw[show B.in1.handled=none from n];refine ab (aq (wpAny_throw ?_));refine ab (Dw (T:="StopIteration") (b:=true) ?ty isSubtype_stop (aq (h _ ((o.extBut.push _).push _))))
  exact⟨_,ez _ rfl,rfl⟩
def P0(K:Fg) (a:Addr) (n:Nat):It:=
 ⟨λi H=>∃b x,bH K H a b/\b.length=n/\i<n/\b[n-1-i]?=some x,λi H x c=>c=H/\∀b,bH K H a b->b[n-1-i]?=some x,λi H=>n<=i⟩
theorem QG{P:Program}{w:World}{K:Fg}{tg:Expr}(a it:Addr)(n:Nat):jc P w K tg (P0 K a n) [it] it (λi h=>dB h it a ((n:Int)-1-i)) where
 mem:=by simp
 obj:=λi h f b g=>by
  have e:b=it:=by simpa using g
  subst e;obtain⟨o,e,c,d⟩:=f;exact⟨o,e,λv z=>by rw[d] at z;cases z⟩
 keep:=λi h q f k=>let ⟨o,e,r⟩:=f;⟨o,k it (by simp) o e,r⟩
 item:=by
  intro X U J C hc i aW s σ H E I m f l;subst U J C;obtain⟨xs,x,hq,hn,hi,hx⟩:=l;obtain⟨R,rv,p,hz⟩:=I.tuple hq;obtain⟨u,hu,ru⟩:=rv.get hx;have hl:=rv.length;obtain⟨S,t,f2,y,Y,G⟩:=m it (by simp);have ei:(n:Int)-1-i=((n-1-i:Nat):Int):=by lia
  have T:dB s.heap it a ((n-1-i:Nat):Int):=by rw[←ei];exact f
  have a0:=eF;refine Qy (items:=R.toArray) p T (u:=u) (by simpa using hu) (by simp only[dR];rw[jo] at hz;lia) λq tk j sb=>?_
  have I1:Inv X aW σ H {s with heap:=q,toks:=tk}:=I.turned (λb o g e=>(sb.2 b g).trans e) S t y Y G;obtain⟨o,e,c,d⟩:=id j;exact⟨u,rfl,mx (s:={s with heap:=q,toks:=tk}) e c d (by decide) ⟨x,H,I1,ru,⟨rfl,λys hy=>by rw[I.tuple_inj hy hq];exact hx⟩,by rw[show(n:Int)-1-((i+1:Nat):Int)=((n-1-i:Nat):Int)-1 by lia];exact j,λb g=>(m b g).1⟩⟩
 done:=by
  intro X U J C hc i aW s σ H E I m f l;subst U J C;have l:n<=i:=l;obtain⟨S,t,f2,y,Y,G⟩:=m it (by simp);exact yz (by lia) (I.ok.hd hc) f λq eb=>⟨rfl,I.turned (t':=s.toks) (λb o g e=>eb b o g e) S t y Y G⟩
 self:=λA i s Q E f h=>Og f.is CC (li CC f.is Ri (aq ⟨_,rfl, "reversed",_,f.is,uK.lookup,h⟩) (QC _))
def Bx(K:Fg) (c:TE):TI:=λd H R=>c d H λx H1=>∃a b,x=.ref a/\bH K H1 a b/\R (P0 K a b.length) H1
section
variable {X:Cx}{tg:Expr}
theorem IA{p k:Pos}{l:Expr}{n:TE}(z:Gl X "reversed")(u:X.mg "reversed"=none)(U:PE X l n)
  (r:starEach [l] X.env=[(false,eval l X.env)]:=by rfl):PI X tg (.Call (.Name "reversed" p) [l] [] k) (Bx X.K n):=by
 intro S s E H R I h;refine pB (lQ I z u Sx ?_);refine sX (e:=l) (rest:=[]) ?_ r rfl;rw[r];refine qD (bi (U S s E H _ I h) λv c j=>?_);obtain⟨x,H1,i,G,C⟩:=j;refine sR ?_;obtain⟨a,m,rfl,Q,q⟩:=C;cases G;obtain⟨f,Y,J,T⟩:=i.tuple Q;have g:=Y.length;have t:=eF;refine Qb (items:=f.toArray) J (by simp only[dR];rw[jo] at T;lia) λA=>?_
 have d:dB (c.heap.push { cls:=.type "reversed",data:=.fields #[.ref a,rawInt ((f.toArray.size:Int)-1)] }) c.heap.objs.size a ((m.length:Int)-1-(0:Nat)):=⟨_,ez _ rfl,rfl,by rw[dR,g]; simp[rawInt]⟩
 refine(QG (P:=X.prog) (w:=X.w) (K:=X.K) (tg:=tg) a c.heap.objs.size m.length).self _ 0 _ _ _ d ?_;refine⟨c.heap.objs.size,[c.heap.objs.size],_,_,H1,rfl,i.kept (t':=A) λb o e=>cg _ e,QG a _ m.length,d,λb y=>?_,q⟩;have e:b=c.heap.objs.size:=by simpa using y
 subst e;exact i.fpOk (bj _) (i.hok.fresh (bj _))
end
end L2
namespace Dd
open Spec PyProof.Rows L2
def lH(f:SE):SA:=λc b=>(f c b).bind λx a=>match x with
 |.tup xs=>.ok xs.reverse a
 |_=>.stuck
theorem GN{K:Fg}{j:Loc}{H:Hp}{p:Addr}{f:List D}{c:List V}(l:∀b H2,fe j H b H2->bH K H2 p c)(g:ae K j H f c):nB K j H (P0 K p c.length) f.reverse where
 item:=λb H2 x i d e=>by
  have m:=g.length;have o:i<f.length:=by have:=(cn.mp e).1;simpa using this
  rw[List.getElem?_reverse o] at e;obtain⟨v,k,a⟩:=g.get e;rw[←m] at k;refine⟨⟨c,v,l _ _ x,rfl,by lia,k⟩,λy H3 n=>?_⟩;obtain⟨rfl,q⟩:=n;have:=q c (l _ _ x);rw[k] at this;cases this;exact⟨.refl _ _,λ_ r=>⟨r,a.extG x⟩⟩
 done:=λb H2 x i h=>by
  have m:=g.length;rw[vk] at h;show c.length<=i;lia
theorem Hg(g:Gl X "reversed")(d:X.mg "reversed"=none)(v:DE X l f)(k:starEach [l] X.env=[(false,eval l X.env)]:=by rfl):DI X tg (.Call (.Name "reversed" p) [l] [] pos) (lH f):=jU (IA g d v k) λC H R b=>by
 obtain⟨t,n,m,A,r,a,h,e,q⟩:=b;obtain⟨x,z,i,e⟩:=za e;cases x with
 |tup ys=>
  cases e;refine⟨t,n,m,_,_,a,h,i,λs H1 u o c w=>?_⟩;cases w with
  |tup h1 h2 h3=>exact⟨_,_,rfl,bH.of h1,q _ _ _ o c (GN (λy H2 j=>bH.of (j.out h1 h2).1) h3)⟩
 |_=>cases e
theorem xY(b:Gl X "reversed")(c:X.mg "reversed"=none)(d:JE X l f)(a:starEach [l] X.env=[(false,eval l X.env)]:=by rfl):JI X tg (.Call (.Name "reversed" p) [l] [] pos) (lH f):=⟨Hg b c d.out a⟩
end Dd
namespace L2
open Spec PyProof.Rows PySem.W
theorem Inv.thaw(I:Inv X aW σ H s)(h:H a=some (.frz ob (.dT kvs)))(t:∀o u,X.H₀ a≠some (.frz o u)):Inv X aW σ (ar H a (.dT kvs)) s:=by
 have d:∀{b:Addr}{u:HO},H b=some u->(∀o l,u≠.frz o (.dT l))->ar H a (.dT kvs) b=some u:=λ{b u} q n=>by
  rw[zo (by rintro rfl;rw[h] at q;cases q;exact n _ _ rfl)];exact q
 have f:∀{b:Addr},H b=none->ar H a (.dT kvs) b=none:=λ{b} q=>by
  rw[zo (by rintro rfl;rw[h] at q;cases q)];exact q
 refine⟨I.ok,I.os,I.bare,⟨I.base.keep,I.base.slot,λb o q n x=>f (I.base.free b o q n x),I.base.there,λb i q=>d (I.base.tups b i q) (λo l z=>by cases z),λb o u q=>?_,λb y q=>?_⟩,I.loc,I.cell,f I.free,λx c e=>f (I.freeC x c e),λp A=>?_,λb u q=>?_,I.len,λv e=>?_⟩
 ·have j:=I.base.frzs b o u q;by_cases hb:b=a
  ·subst hb;exact absurd q (t o u)
  ·rw[zo hb];exact j
 ·obtain⟨g,j⟩:=I.base.tbls b y q;exact⟨g,d j λo l z=>by cases z⟩
 ·obtain⟨G,C,w⟩:=I.pin p A;exact⟨G,f C,w⟩
 ·by_cases hb:b=a
  ·subst hb;rw[zq] at q;cases q;exact(I.hok b _ h).2.stay (λc v _ r=>r) (λc r=>d r (λo l z=>by cases z)) λc i r=>d r (λo l z=>by cases z)
  ·rw[zo hb] at q;exact(I.hok b u q).stay (λc v _ r=>r) (λc r=>d r (λo l z=>by cases z)) λc i r=>d r (λo l z=>by cases z)
 ·obtain⟨c,o,E,k,m⟩:=I.hnd v e;exact⟨c,o,E,d k (λo l z=>by cases z),m⟩
end L2
namespace Dd
open Spec PyProof.Rows L2
theorem Nc{X:Cx}{aW:List (Addr×Obj)}{s:Shared}{τ:L2.St}{Q f:Loc}{H H1:Hp}{au v:aa}{n:Nat}{S A:List (List Int×D)}(I:Inv X aW τ H s)(rp:bP X.K Q au H)(hn:au[n]?=some (.dT S))(x:bp Q H f H1)(d:bP X.K f v H1)(h1:v[n]?=some (.fT A)):
  ∃p r U,H1 p=some (.frz U (.dT r))/\(∀o u,X.H₀ p≠some (.frz o u))/\bp Q H f (ar H1 p (.dT r))/\bP X.K f (v.set n (.dT A)) (ar H1 p (.dT r))/\Mv f H1 f (ar H1 p (.dT r)):=by
 obtain⟨p,P⟩:=rp.live n _ hn (by intro z;cases z);obtain⟨a1,E,_⟩:=rp.obj n p _ P hn;have H0:∀o u,X.H₀ p≠some (.frz o u):=λo u z=>by
  have:=I.base.frzs p o u z;rw[E] at this;cases this
 obtain⟨p',g⟩:=d.live n _ h1 (by intro z;cases z);have R:n < Q.m.length:=(cn.mp P).1;have pp:p'=p:=by
  have:=x.old n p' R g;rw[P] at this;exact(fW (fW this)).symm
 subst pp;obtain⟨r,U,hf,kv⟩:=d.obj n p' _ g h1;have Y:∀{b:Addr}{u:HO},H1 b=some u->(∀o l,u≠.frz o (.dT l))->ar H1 p' (.dT r) b=some u:=λ{b u} q n=>by
  rw[zo (by rintro rfl;rw[hf] at q;cases q;exact n _ _ rfl)];exact q
 have w:Mv f H1 f (ar H1 p' (.dT r)):=⟨λ{b o} i ho=>⟨by
  rw[zo (by rintro rfl;exact ho.1 (db g))];exact i,ho⟩,bj _,λ_ _ _ e=>e⟩
 refine⟨p',r,U,hf,H0,⟨x.len,x.old,λb o i k=>?_,x.gho,λb o u i=>?_⟩,⟨by rw[d.len,gR],d.inj,λm b y G J=>?_,λb i=>?_,λm y e ne=>?_⟩,w⟩
 ·obtain⟨C,k2⟩:=x.keep b o i k;refine⟨?_,k2⟩;rw[zo (by rintro rfl;exact k (db P))];exact C
 ·have C:=x.frz b o u i;rw[zo (by rintro rfl;rw[E] at i;cases i)];exact C
 ·by_cases k:m=n
  ·subst k;have i:b=p':=by rw[g] at G;exact(fW (fW G)).symm
   subst i;have hl:m<v.length:=by rw[←d.len];exact(cn.mp g).1
   rw[pH hl] at J;cases J;exact⟨r,zq,Paired.mapP kv λp q z=>⟨z.1,z.2.mv w⟩⟩
  ·rw[dU (cJ k)] at J;have nb:b≠p':=λz=>by subst z;exact k (d.inj m n b G g)
   have o:=d.obj m b y G J;cases y with
   |lst xs=>obtain⟨a,j,h⟩:=o;exact⟨a,by rw[zo nb];exact j,h.mv w⟩
   |dT kv'=>obtain⟨a,j,h⟩:=o;exact⟨a,by rw[zo nb];exact j,Paired.mapP h λp q z=>⟨z.1,z.2.mv w⟩⟩
   |fT kv'=>obtain⟨a,a0,j,h⟩:=o;exact⟨a,a0,by rw[zo nb];exact j,Paired.mapP h λp q z=>⟨z.1,z.2.mv w⟩⟩
   |dI kv'=>obtain⟨a,j,h⟩:=o;exact⟨a,by rw[zo nb];exact j,Paired.mapP h λp q z=>⟨z.1,z.2.mv w⟩⟩
   |dP ks=>obtain⟨a,j,n,l,u,h⟩:=o;exact⟨a,by rw[zo nb];exact j,n,l,u,h.map λ_ _ z=>z.mv w⟩
   |dead=>exact o.elim
   |tab=>
    obtain⟨c,ps,j,h⟩:=o;refine⟨c,ps,by rw[zo nb];exact j,h.1,λT cv e=>?_⟩;obtain⟨c',oc,a,t,C,k2,k3⟩:=h.2 T cv e;exact⟨c',oc,a,t,C,Y k2 (λo l z=>by cases z),k3⟩
 ·obtain⟨⟨u,hu⟩,n1⟩:=d.gh b i;refine⟨⟨u,?_⟩,n1⟩;rw[zo (by rintro rfl;exact n1 (db g))];exact hu
 ·by_cases k:m=n
  ·subst k;exact⟨p',g⟩
  ·rw[dU (cJ k)] at e;exact d.live m y e ne
def iF(i:Nat) (f:SS):SS:=λc b=>match c[i]? with
 |some (some (.ref n))=>match b[n]? with
  |some (.dT _)=>(f c b).bind λd a=>match d,a[n]? with
   |.nx σ1,some (.fT kvs)=>.ok (.nx σ1) (a.set n (.dT kvs))
   |_,_=>.stuck
  |_=>.stuck
 |_=>.stuck
theorem JX{X:Cx}{c:Stmt}{f:SS}{i:Nat}(h:jN X c f):jN X c (iF i f):=by
 rintro aW s τ H E I ⟨J,σ,T,fl,a0,a,G,e,q⟩;unfold iF at e;split at e
 ·rename_i n hi;split at e
  ·rename_i Q P;obtain⟨w,k,y,e⟩:=za e;split at e
   ·rename_i g U h1;cases e;refine bi (h aW s τ H {nx:=λj m=>∃b,bp J H b m/\bP X.K b k m/\dm X.K b m g j,rt:=λ_ _=>False} I ⟨J,σ,T,.nx g,k,a,G,y,λb m j x r t=>⟨b,x,r,t⟩⟩) λw s1 z=>?_
    cases w with
    |next=>
     obtain⟨l,H1,I1,A,x1,C,a1⟩:=z;obtain⟨p,vs,ob,Y,H0,E1,R,S⟩:=Nc I G P x1 C h1
     exact⟨l,_,I1.thaw Y H0,q A _ l E1 R (Paired.mapP a1 λo v z d e=>by
      obtain⟨u,y,t⟩:=z d e
      exact⟨u,y,t.mv S⟩)⟩
    |brk=>obtain⟨_,_,_,z⟩:=z;exact z.elim
    |cont=>obtain⟨_,_,_,z⟩:=z;exact z.elim
    |ret u=>obtain⟨_,_,_,_,_,z⟩:=z;exact z.elim
   ·cases e
  ·cases e
 ·cases e
theorem LU(h:JS X c f):JS X c (iF i f):=⟨JX h.out⟩
end Dd
namespace Dd
open L2 PyProof.Rows
theorem sv{X:Cx}(c:X.N[i]?=some x:=by rfl)(d:vB X.env.scope x:=by first|exact Or.inl rfl|exact Or.inr (Or.inl rfl)|exact Or.inr (Or.inr rfl))(b:(x==("__debug__" : Str))=false:=by decide)
 (a:(x==("__classdict__" : Str))=false:=by decide):JE X (.Name x pos) (aA i):=Hc (pv i c d b a)
theorem bx{X:Cx}(c:ke X.prog X.w X.K X.mg X.base x k ps F)(i:bR j X.A)(l:JA X (e::es) g)(n:∀f q v a,F f q=.ok v a->f.length=ps.length:=by exact λ_ _ _ _ h=>J3 h)(m:k<=j:=by first|decide|lia)(o:Gl X x:=by rfl)
 (d:(x==("__debug__" : Str))=false:=by decide)(r:starEach (e::es) X.env=(false,eval e X.env)::starEach es X.env:=by rfl)(b:(backTo pos (starEach es X.env)).any (·.1)=false:=by rfl):JE X (.Call (.Name x p) (e::es) [] pos) (aE F g):=Jq c n (i.mono m) o l d r b
theorem bX{X:Cx}{a:Pos}(c:X.N.Nodup)(h:JE X e f)(g:X.N[i]?=some x:=by rfl)(d:L2.Loc X.env.scope x:=by first|exact Or.inl rfl|exact Or.inr rfl)(b:swapsWith e (some (.Name x pos')) a.line X.env=pure false:=by rfl)(j:X.fn x=true\/X.env.scope.names.lookup x=some .local:=by first|exact .inl rfl|exact .inr rfl|assumption):
 JS X (.Assign [.Name x pos'] e a) (aF i f):=JV c g d h b j
theorem dD{X:Cx}(a:X.N.Nodup)(d:X.N[i]?=some x:=by rfl)(b:L2.Loc X.env.scope x:=by first|exact Or.inl rfl|exact Or.inr rfl)(c:X.fn x=true\/X.env.scope.names.lookup x=some .local:=by first|exact .inl rfl|exact .inr rfl|assumption):JG X (.Name x pos) (gN i):=lT a d b c
theorem eM(g:JI X tg iter it)(d:JG X tg bd)(c:JB X body b)(f:PassesOwn (model X.prog X.w) X.A X.env X.xe:=by exact u6)(e:X.calm=true:=by rfl)(a:∀x,foldedSetIterable iter X.env x=pure x:=by intro _;rfl):
 JS X (.For tg iter body [] pos) (bz it bd b):=JR f e g d c a
theorem tw(N:List Str) (h:JI X (.Name x p) iter it)(i:∀b C c s H,JE (fx X N scope b C c s H) elt f)(d:N.Nodup:=by decide +kernel)(S:bG X N k is scope:=by exact qa (by rfl))(a:X.calm=true:=by rfl)
  (g:N.Nodup->∀b C c s H,JG (fx X N scope b C c s H) (.Name x p) (gN 0):=by exact λd _ _ _ _ _=>dD d)(e:∀x,foldedSetIterable iter X.env x=pure x:=by intro _;rfl):JE X (.ListComp elt [⟨.Name x p,iter,[],0⟩] scope pos) (aG it k is (gN 0) aI f):=
 uA a h (g d) (λ_ _ _ _ _=>vY) i S e
theorem aw(b:JE X a f)(c:f8 a=true:=by rfl):JA X [a] (aB f aC):=iy b jg c
theorem bS(c:JE X a f)(h:JE X b g)(e:f8 a=true:=by rfl)(d:f8 b=true:=by rfl):JA X [a,b] (aB f (aB g aC)):=iy c (aw h d) e
theorem dE(c:JE X a f)(d:JE X b g):JE X (.BinOp a .Add b pos) (aU aO f g):=eI Kw HY c d
theorem ic(c:JE X a f)(d:JE X b g):JE X (.BinOp a .Sub b pos) (aU df f g):=eI Il (kg λ_ _ _ _=>.int _) c d
structure En where
 P:Program
 w:World
 K:Fg
 mg:Str->Option Value
 base:Heap
 h:Heap
 X:K.In h
 G:h.Ns mainGlobals mg
abbrev Cl(Y:En) (x:Str) (k:Nat) (a:List Str) (F:da):Prop:=ke Y.P Y.w Y.K Y.mg Y.base x k a F
section
variable {Y:En}{x:Str}{au:Stmt}{ps:List Str}{k:Nat}{b:SS}
theorem dG(N:List Str)(T:ah Y.K x au)(e:N.Nodup->∀(f:Addr) (c:Value) (A:Around) (g:List Env) (s:Shared) (H:Hp) (E:XK),bR k (A.deeper (envOfC x (ag au) s.heap.objs.size f c))->JB (gs jE Y.P Y.w Y.K Y.mg Y.base N x (ag au) f c A g s H E).nox (bD au) b)
 (S:cV N ps (ag au):=by exact⟨rfl,rfl,rfl,by decide +kernel,rfl,by decide +kernel,by decide +kernel⟩)
 (i:∀(kV h l:Value) (m:Option Addr) (c j:Value) (a:List Value),a.length=ps.length->bindArgs (W.fnOf x x (cT au) (bD au) (ag au) .none kV h l m c j) ⟨a,[]⟩=pure (ps.zip a):=by
  first|exact λ_ _ _ _ _ _ a d=>AX a d λ_=>rfl|exact λ_ _ _ _ _ _ a d=>AW a d λ_ _=>rfl|exact λ_ _ _ _ _ _ a d=>AV a d λ_ _ _=>rfl|exact λ_ _ _ _ _ _ a d=>Pm a d λ_ _ _ _=>rfl|exact λ_ _ _ _ _ _ a d=>AY a d rfl):
 Cl Y x (k+1) ps (cG N.length ps.length b):=Lx T Y.X Y.G S i (e S.nd)
end
end Dd
namespace L2
open Spec PyProof.Rows PySem.W
end L2
namespace Dd
open L2 PyProof.Rows
end Dd
namespace L2
open Spec PyProof.Rows
end L2
namespace Dd
open L2 PyProof.Rows
end Dd
namespace L2
open Spec PyProof.Rows
end L2
namespace Dd
open L2 PyProof.Rows
end Dd
namespace L2
open Spec PyProof.Rows PySem.W
end L2
namespace Dd
open Spec PyProof.Rows PySem.W L2
end Dd
namespace Dd
open L2
def wg:da:=cG 5 2 (aD (aF 2 (eC (.int 0)))
 (aD (ft (eB (aU gc (aA 1) (aE cZ (aB (aA 0) aC)))) (aF 2 (aE lK (aB (aU cL (aA 0) (aA 1)) aC))) fK)
 (aD (aF 3 (aU aO (aU bQ (eC (.int 7919)) (aA 1)) (eC (.int 17))))
 (aD (bz (jw (aB (aE gn (aB (aE cZ (aB (aA 0) aC)) (aB (eC (.int 60)) aC))) aC)) (gN 4) (aF 3 (aU im (aU aO (aU aO (aU bQ (aA 3) (eC (.int 48271))) (aU im (aU cL (aA 0) (aA 4)) (eC (.int 2147483647)))) (aA 4)) (eC (.int 2147483629)))))
 (aD (ft (eB (aU gc (aA 2) (aU Ph (eC (.int 10)) (eC (.int 18))))) (aF 2 (eC (.int 0))) fK)
 (aY (cM (aB (aA 2) (aB (aA 3) aC)))))))))
def lV:da:=cG 5 2 (aD (ft (eB (aU AM (aU cL (aA 0) (eC (.int 0))) (eC (.int 0)))) (aD (aF 2 (aU im (aU cL (aA 0) (eC (.int 0))) (aA 1)))
 (aD (fz (aA 0) (eC (.int 0)) (aU ju (aU cL (aA 0) (eC (.int 0))) (aA 1)))
 (aY (aA 2)))) fK)
 (aD (aF 3 (eC (.int 0)))
 (aD (aF 4 (eC (.int 1)))
 (aD (dy (eB (aU gc (aA 4) (aA 1))) (aD (fz (aA 0) (eC (.int 1)) (aU im (aU aO (aU bQ (aU cL (aA 0) (eC (.int 1))) (eC (.int 48271))) (eC (.int 7919))) (eC (.int 2147483647))))
 (aD (aF 3 (aU aO (aU bQ (aA 3) (eC (.int 1073741789))) (aU im (aU bQ (aU ju (aU cL (aA 0) (eC (.int 1))) (eC (.int 8))) (eC (.int 69621))) (eC (.int 1073741789)))))
 (aF 4 (aU bQ (aA 4) (eC (.int 1073741789)))))))
 (aY (aU im (aA 3) (aA 1)))))))
def gP:da:=cG 2 2 (ft (eB (aU (i3 false) (aA 1) (aA 0))) (bq (kL (aA 0) (aA 1))) (gk (aA 0) (aA 1) (eC (.bl true))))
def oy:da:=cG 1 1 (aY (i9 (aU Pi (aE cZ (aB (aA 0) aC)) (eC (.int 6))) (aU Pi (aE hV (aB (aA 0) aC)) (eC (.int 16)))))
def nL:da:=cG 6 2 (aD (aF 2 dZ)
 (aD (bz (aH (aA 0)) (gN 3) (bz (aH (aA 1)) (gN 4) (aD (aF 5 (aU aO (aA 3) (aA 4)))
 (aD (ft (gw (dY (aE oy (aB (aA 5) aC)))) eD fK)
 (bq (aE gP (aB (aA 2) (aB (aA 5) aC))))))))
 (aY (aE bE (aB (aE bf (aB (aA 2) aC)) aC)))))
def FM:SS:=(gk (aA 1) (aA 2) (lJ (i8 (aA 1) (aA 2) (eC (.bl false)))))
def oO:da:=cG 3 1 (aD (aF 1 dZ)
 (aD (bz (aH (aA 0)) (gN 2) FM)
 (aY (aE bE (aB (aE bf (aB (aG (iH (aA 1)) 1 [1] (gN 0) (dY (aU fv (aA 1) (aA 0))) (aA 0)) aC)) aC)))))
def FN:SS:=(ft (eB (aU AM (aA 4) (eC (.int 0)))) (aD (bq (bO (aA 3) (aB (aU aO (eC (.int 1)) (aE lV (aB (aA 0) (aB (aU cL (ip (aB (aA 4) (aB (aE gn (aB (aA 4) (aB (eC (.int 5)) aC))) (aB (aE gn (aB (aA 4) (aB (eC (.int 2)) aC))) aC)))) (aE lV (aB (aA 0) (aB (eC (.int 3)) aC)))) aC)))) aC)))
 (aF 4 (aU df (aA 4) (aU cL (aA 3) (qT jt (eC (.int 1))))))) fK)
def wh:da:=cG 6 3 (aD (aF 3 (cM aC))
 (aD (aF 4 (aA 1))
 (aD (bz (jw (aB (aE lV (aB (aA 0) (aB (aU aO (aA 2) (eC (.int 1))) aC))) aC)) (gN 5) FN)
 (aY (aE bE (aB (aA 3) aC))))))
def ry:da:=cG 4 4 (aY (aE oO (aB (aG (jw (aB (aE lV (aB (aA 0) (aB (aU aO (aA 1) (eC (.int 1))) aC))) aC)) 1 [0,2,3] (gN 0) aI (aE wh (aB (aA 1) (aB (aA 2) (aB (aA 3) aC))))) aC)))
def uS:SS:=(gk (aA 1) (aA 2) (eC (.bl true)))
def CZ:da:=cG 3 1 (aD (aF 1 dZ)
 (aD (bz (aH (aA 0)) (gN 2) uS)
 (aY (aA 1))))
def CT:da:=cG 2 2 (aY (aU qR (aU jv (aA 0) (aA 1)) (aA 1)))
def FV:SS:=(ft (dY (aE CT (aB (aU df (aU df (aA 1) (aA 3)) (eC (.int 1))) (aB (aU df (aA 0) (aU bQ (eC (.int 2)) (aA 3))) aC)))) (bq (bO (aA 2) (aB (BD (eB (aU AM (aA 3) (eC (.int 0)))) (aT (aB (aU df (aU aO (aA 0) (aA 1)) (aA 3)) (aB (aA 3) aC))) (aT (aB (aU aO (aA 0) (aA 1)) aC))) aC))) fK)
def wB:da:=cG 4 2 (aD (aF 2 (cM aC))
 (aD (bz (jw (aB (aU aO (aU ju (aA 0) (eC (.int 2))) (eC (.int 1))) aC)) (gN 3) FV)
 (aY (aE bf (aB (aA 2) aC)))))
def rR:da:=cG 4 2 (aD (aF 2 (lI (aA 0) dX (dW (aA 1))))
 (aD (aF 3 (lI (aA 0) (dW (aU aO (aA 1) (eC (.int 2)))) dX))
 (aY (aG (aH (aE wB (aB (aU cL (aA 0) (aA 1)) (aB (aU cL (aA 0) (aU aO (aA 1) (eC (.int 1)))) aC)))) 1 [3,2] (gN 0) aI (aU aO (aU aO (aA 2) (aA 0)) (aA 1))))))
def oN:da:=cG 1 1 (aY (i9 (aE fi (aB (aA 0) (aB (eC (.ty "int")) aC))) (lJ (aE fi (aB (aA 0) (aB (eC (.ty "bool")) aC))))))
def wu:da:=cG 2 2 (aY (i9 (aE fi (aB (aA 1) (aB (eC (.ty "tuple")) aC))) (i9 (aE (jb true) (aB (aG (aH (aA 1)) 1 [] (gN 0) aI (aE oN (aB (aA 0) aC))) aC)) (aU (i3 false) (aA 1) (aA 0)))))
def Dc:da:=cG 2 2 (aY (aU gc (aA 0) (aU bQ (eC (.int 2)) (aA 1))))
def oM:da:=cG 2 2 (aD (ft (vz (gw (dY (aE oN (aB (aA 1) aC)))) (gw (eB (hJ Pi gc (eC (.int 0)) (aA 1) (aU df (aE cZ (aB (aA 0) aC)) (eC (.int 1))))))) (aY (eC (.bl false))) fK)
 (aY (aE Dc (aB (aU cL (aA 0) (aA 1)) (aB (aU cL (aA 0) (aU aO (aA 1) (eC (.int 1)))) aC)))))
def FR:SS:=(bq (aE gP (aB (aA 0) (aB (aA 3) aC))))
def C7:da:=cG 4 3 (aD (ft (gw (dY (aE wu (aB (aA 0) (aB (aA 1) aC))))) eD fK)
 (aD (ft (gw (dY (aE oM (aB (aA 1) (aB (aA 2) aC))))) eD fK)
 (aD (bq (aE gP (aB (aA 0) (aB (aA 1) aC))))
 (bz (aH (aE rR (aB (aA 1) (aB (aA 2) aC)))) (gN 3) FR))))
def Ci:da:=cG 1 1 (aY (aG (jw (aB (aU df (aE cZ (aB (aA 0) aC)) (eC (.int 1))) aC)) 1 [0] (gN 0) (dY (aE oM (aB (aA 1) (aB (aA 0) aC)))) (aA 0)))
def uF:da:=cG 1 1 (aY (aE hV (aB (aG (hH (aA 0)) 2 [] (gT 2 (av (gN 0) (av (gN 1) dh))) aI (aU bQ (aA 0) (aA 1))) aC)))
def Da:SS:=(bq (aE gP (aB (aA 1) (aB (aA 2) aC))))
def CS:da:=cG 3 1 (aD (aF 1 dZ)
 (aD (bz (aH (aA 0)) (gN 2) Da)
 (aY (aE bE (aB (aE bf (aB (aA 1) aC)) aC)))))
def oA:da:=cG 2 2 (aY (aE CS (aB (aU aO (aA 0) (aA 1)) aC)))
def Sq:SS:=(bq (aE gP (aB (aA 1) (aB (aA 3) aC))))
def Su:SS:=(bq (pU (aA 1)))
def Dk:da:=cG 2 1 (aD (aF 1 (aE ja (aB (aA 0) aC)))
 (aD (dy (ny (dY (aA 1)) (eB (aU qR (aU cL (aA 1) (qT jt (eC (.int 1)))) (eC (.int 0))))) Su)
 (aY (aE bE (aB (aA 1) aC)))))
def Sb:SS:=(aD (lw 1 (oI (λ_ _=>True) λi j=>.int (i+j)) (aU bQ (aA 2) (aA 3)))
 (aF 2 (aU aO (aU bQ (eC (.int 2)) (aA 2)) (eC (.int 1)))))
def wq:da:=cG 4 1 (aD (aF 1 (eC (.int 0)))
 (aD (aF 2 (eC (.int 1)))
 (aD (bz (aH (aA 0)) (gN 3) Sb)
 (aY (aA 1)))))
def ro:da:=cG 3 3 (aY (aU aO (aU aO (lI (aA 0) dX (dW (aA 1))) (aT (aB (aU aO (aU cL (aA 0) (aA 1)) (aA 2)) aC))) (lI (aA 0) (dW (aU aO (aA 1) (eC (.int 1)))) dX)))
def FU:SS:=(ft (eB (aU qR (aU jv (aU cL (aA 5) (aA 3)) (aA 8)) (eC (.int 0)))) (bq (bO (aA 4) (aB (aT (aB (aE ro (aB (aA 5) (aB (aA 3) (aB (aA 8) aC)))) (aB (aE ro (aB (aA 6) (aB (aU df (aA 2) (eC (.int 1))) (aB (qT jt (aA 8)) aC)))) (aB (aU df (aA 7) (aU Pg (aA 8) (aA 2))) aC)))) aC))) fK)
def So:SS:=(bz (jw (aB (aU aO (aE gn (aB (aU cL (aA 6) (aU df (aA 2) (eC (.int 1)))) (aB (aU Pf (aA 7) (aA 2)) aC))) (eC (.int 1))) aC)) (gN 8) FU)
def Df:da:=cG 9 3 (aD (aF 3 (aU df (aU aO (aA 1) (aA 2)) (eC (.int 1))))
 (aD (aF 4 (cM aC))
 (aD (bz (aH (aA 0)) (gT 3 (av (gN 5) (av (gN 6) (av (gN 7) dh)))) So)
 (aY (mi (aA 4))))))
def Si:SS:=(aF 4 (aE Df (aB (aA 4) (aB (aA 1) (aB (aA 5) aC)))))
def Sj:SS:=(ft (eB (aU qR (aU jv (aU cL (aA 7) (aU df (aA 1) (eC (.int 1)))) (aA 9)) (eC (.int 0)))) (bq (bO (aA 6) (aB (aT (aB (aE ro (aB (aA 7) (aB (aU df (aA 1) (eC (.int 1))) (aB (aA 9) aC)))) (aB (aA 8) aC))) aC))) fK)
def C9:da:=cG 10 4 (aD (aF 4 (aG (aH (aA 0)) 2 [2] (gT 2 (av (gN 0) (av (gN 1) dh))) aI (aT (aB (aA 0) (aB (aA 1) (aB (aA 2) aC))))))
 (aD (bz (tM (aB (eC (.int 1)) (aB (aU aO (aA 3) (eC (.int 1))) aC))) (gN 5) Si)
 (aD (aF 6 (cM aC))
 (aD (bz (aH (aA 4)) (gT 3 (av (gN 7) (av (gN 8) (av (gN 9) dh)))) Sj)
 (aY (mi (aA 6)))))))
def Sf:SS:=(aD (aF 4 (aU aO (aA 3) (aU gZ (aT (aB (eC (.int 0)) aC)) (aU df (aE cZ (aB (aA 2) aC)) (aE cZ (aB (aA 3) aC))))))
 (ft (dY (aE (jb true) (aB (aG (iG (aB (aA 2) (aB (aA 4) aC))) 2 [] (gT 2 (av (gN 0) (av (gN 1) dh))) aI (aU qR (aU jv (aA 0) (aA 1)) (eC (.int 0)))) aC))) (bq (bO (aA 1) (aB (aE bE (aB (aG (iG (aB (aA 2) (aB (aA 4) aC))) 2 [] (gT 2 (av (gN 0) (av (gN 1) dh))) aI (aU aO (aA 0) (aA 1))) aC)) aC))) fK))
def C6:da:=cG 5 1 (aD (aF 1 (cM aC))
 (aD (bz (aH (aA 0)) (gT 2 (av (gN 2) (av (gN 3) dh))) Sf)
 (aY (mi (aA 1)))))
def Ss:SS:=(aF 2 (aE C9 (aB (aA 2) (aB (aA 3) (aB (aA 4) (aB (aE cZ (aB (aA 1) aC)) aC))))))
def Dj:da:=cG 5 2 (aD (aF 2 (ip (aB (aT (aB (aU gZ (aT (aB (eC (.int 0)) aC)) (aU aO (aE cZ (aB (aA 0) aC)) (aE cZ (aB (aA 1) aC)))) (aB (aA 1) aC))) aC)))
 (aD (bz (hH (aA 0)) (gT 2 (av (gN 3) (av (gN 4) dh))) Ss)
 (aY (aG (aH (aE C6 (aB (aA 2) aC))) 1 [] (gN 0) aI (aE Dk (aB (aA 0) aC))))))
def Rq:SS:=(bq (aE gP (aB (aA 2) (aB (aA 5) aC))))
def Rr:SS:=(aD (ft (eB (aU AM (aU aO (aE wq (aB (aA 3) aC)) (aE wq (aB (aA 4) aC))) (eC (.int 16)))) eD fK)
 (bz (aH (aE Dj (aB (aA 3) (aB (aA 4) aC)))) (gN 5) Rq))
def Rs:SS:=(bz (aH (aA 1)) (gN 4) Rr)
def oB:da:=cG 6 2 (aD (aF 2 dZ)
 (aD (bz (aH (aA 0)) (gN 3) Rs)
 (aY (aE bE (aB (aE bf (aB (aA 2) aC)) aC)))))
def Sc:SS:=(ft (eB (aU qR (aU jv (aU df (aU df (aA 1) (aA 3)) (eC (.int 1))) (aU df (aA 0) (aU bQ (eC (.int 2)) (aA 3)))) (aU df (aA 0) (aU bQ (eC (.int 2)) (aA 3))))) (bq (bO (aA 2) (aB (lI (aT (aB (aU df (aU aO (aA 0) (aA 1)) (aA 3)) (aB (aA 3) aC))) dX (dW (aU aO (eC (.int 1)) (aE gn (aB (aA 3) (aB (eC (.int 1)) aC)))))) aC))) fK)
def wp:da:=cG 4 2 (aD (aF 2 (cM aC))
 (aD (bz (jw (aB (aU aO (aU ju (aA 0) (eC (.int 2))) (eC (.int 1))) aC)) (gN 3) Sc)
 (aY (mi (aA 2)))))
def FS:SS:=(aD (aF 5 (aG (jw (aB (aU df (aE cZ (aB (aA 4) aC)) (eC (.int 1))) aC)) 1 [4] (gN 0) (eB (aU gc (aU cL (aA 1) (aA 0)) (aU bQ (eC (.int 2)) (aU cL (aA 1) (aU aO (aA 0) (eC (.int 1))))))) (aA 0)))
 (ft (eB (aU qR (aA 5) (ip aC))) (bq (bO (aA 2) (aB (aA 4) aC))) (aD (aF 6 (aU cL (aA 5) (qT jt (eC (.int 1)))))
 (bq (fh (aA 3) (aB (aG (aH (aE wp (aB (aU cL (aA 4) (aA 6)) (aB (aU cL (aA 4) (aU aO (aA 6) (eC (.int 1)))) aC)))) 1 [4,6] (gN 0) aI (aU aO (aU aO (lI (aA 1) dX (dW (aA 2))) (aA 0)) (lI (aA 1) (dW (aU aO (aA 2) (eC (.int 2)))) dX))) aC))))))
def Sh:SS:=(aD (aF 3 (cM aC))
 (aD (bz (aH (aA 1)) (gN 4) FS)
 (aF 1 (aE oO (aB (mi (aA 3)) aC)))))
def C8:da:=cG 7 1 (aD (aF 1 (aE oO (aB (aA 0) aC)))
 (aD (aF 2 (cM aC))
 (aD (dy (eB (aU AM (aE cZ (aB (aA 1) aC)) (eC (.int 0)))) Sh)
 (aY (aE oO (aB (mi (aA 2)) aC))))))
def FW:SS:=(bq (fh (aA 3) (aB (aG (aH (aU cL (aA 1) (aU df (aA 2) (aA 4)))) 1 [4] (gN 0) aI (aU aO (aT (aB (aA 1) aC)) (aA 0))) aC)))
def R6:SS:=(bq (aE C7 (aB (aA 2) (aB (aA 3) (aB (aA 4) aC)))))
def CJ:da:=cG 5 2 (aD (aF 2 (aE CZ (aB (aA 0) aC)))
 (aD (bz (aH (aA 1)) (gT 2 (av (gN 3) (av (gN 4) dh))) R6)
 (aY (aE bE (aB (aE bf (aB (aA 2) aC)) aC)))))
def wx:da:=cG 2 2 (bq (aE gP (aB (ge (aA 0) (aB (aE uF (aB (aA 1) aC)) (aB dZ aC))) (aB (aA 1) aC))))
def Cj:SS:=(bq (aE wx (aB (aA 1) (aB (aA 2) aC))))
def ET:SS:=(bq (aE wx (aB (aA 1) (aB (aA 6) aC))))
def EU:SS:=(aD (aF 5 (aE Ci (aB (aA 2) aC)))
 (ft (dY (aA 5)) (aD (bq (bO (aA 3) (aB (aT (aB (aA 2) (aB (aU cL (aA 5) (eC (.int 0))) aC))) aC)))
 (bz (aH (aE rR (aB (aA 2) (aB (aU cL (aA 5) (eC (.int 0))) aC)))) (gN 6) ET)) fK))
def EV:SS:=(aD (aF 4 (kJ (aA 1) (aB (aE hX (aB (aA 1) aC)) aC)))
 (bz (aH (aE bf (aB (aA 4) aC))) (gN 2) EU))
def oR:da:=cG 7 1 (aD (aF 1 i7)
 (aD (bz (aH (aA 0)) (gN 2) Cj)
 (aD (aF 3 (cM aC))
 (aD (dy (jz (aA 1)) EV)
 (aY (mi (aA 3)))))))
def nN:da:=cG 1 1 (aY (aE CJ (aB (aA 0) (aB (aE oR (aB (aA 0) aC)) aC))))
def Sn:SS:=(aD (aF 3 (cM aC))
 (aD (bz (tM (aB (eC (.int 1)) (aB (aU aO (aA 2) (eC (.int 1))) aC))) (gN 4) FW)
 (bq (bO (aA 1) (aB (aE nN (aB (aE bE (aB (aA 3) aC)) aC)) aC)))))
def De:da:=cG 5 1 (aD (aF 1 (cM (aB (aT (aB (aT aC) aC)) aC)))
 (aD (bz (tM (aB (eC (.int 1)) (aB (aU aO (aA 0) (eC (.int 1))) aC))) (gN 2) Sn)
 (aY (mi (aA 1)))))
def Se:SS:=(aF 2 (aE nN (aB (aE nL (aB (aA 2) (aB (aU cL (aA 1) (aA 3)) aC))) aC)))
def C5:da:=cG 4 2 (aD (aF 2 (aT (aB (aT aC) aC)))
 (aD (bz (lH (aA 0)) (gN 3) Se)
 (aY (aA 2))))
def RH:SS:=(aF 2 (aE oA (aB (aA 2) (aB (aE C5 (aB (aA 3) (aB (aA 1) aC))) aC))))
def hZ:da:=cG 4 1 (aD (aF 1 (aE De (aB (aE (iK 0) (aB (aG (aH (aA 0)) 1 [] (gN 0) aI (aE hV (aB (aA 0) aC))) aC)) aC)))
 (aD (aF 2 (aT aC))
 (aD (bz (aH (aA 0)) (gN 3) RH)
 (aY (aA 2)))))
end Dd
namespace L2
namespace St
end St
end L2
namespace L2
open PySem.W PyProof.Rows Spec
namespace St
end St
end L2
namespace L2
open Spec PyProof.Rows PySem.W
end L2
namespace Dd
open L2 PyProof.Rows
end Dd
namespace L2
open Spec PyProof.Rows PySem.W
end L2
namespace Dd
open L2 PyProof.Rows
end Dd
namespace Dd
open L2
noncomputable def cO(j:Int):Prop:=-(2^62)<=j/\j<2^62
instance (j:Int):Decidable (cO j):=by unfold cO;infer_instance
theorem mV(a:-1000000000000<=j)(b:j<=1000000000000):cO j:=⟨by lia,by lia⟩
@[simp] theorem tP:eC d σ au=.ok d au:=rfl
@[simp] theorem se:aA i σ au=(match σ[i]? with
 |some (some d)=>.ok d au
 |_=>.stuck):=rfl
@[simp] theorem wF:aU g f f' σ au=(f σ au).bind λx a=>(f' σ a).bind λy st2=>g x y st2:=rfl
@[simp] theorem Vu:qT g f σ au=(f σ au).bind λx st1=>g x st1:=rfl
@[simp] theorem jF:aE g f σ au=(f σ au).bind λa st1=>g a st1:=rfl
@[simp] theorem wW:aC σ au=.ok [] au:=rfl
@[simp] theorem oC:aB f g σ au=(f σ au).bind λx a=>(g σ a).bind λb st2=>.ok (x::b) st2:=rfl
@[simp] theorem Pz:eB f σ au=(f σ au).bind λv a=>(match v with
 |.bl b=>.ok b a
 |_=>.stuck):=rfl
@[simp] theorem um:dY f σ au=(f σ au).bind λv a=>(match lu a v with
 |some b=>.ok b a
 |none=>.stuck):=rfl
@[simp] theorem sd:i9 f f' σ au=(f σ au).bind λv a=>(match v with
 |.bl true=>f' σ a
 |.bl false=>.ok (.bl false) a
 |_=>.stuck):=rfl
@[simp] theorem Gf:SF f f' σ au=(f σ au).bind λv a=>(match v with
 |.bl true=>.ok (.bl true) a
 |.bl false=>f' σ a
 |_=>.stuck):=rfl
@[simp] theorem xh:lJ f σ au=(f σ au).bind λv a=>(match v with
 |.bl b=>.ok (.bl (!b)) a
 |_=>.stuck):=rfl
@[simp] theorem GQ:ny f f' σ au=(f σ au).bind λb st1=>if b=true then f' σ st1 else .ok false st1:=rfl
@[simp] theorem FY:vz f f' σ au=(f σ au).bind λb st1=>if b=true then .ok true st1 else f' σ st1:=rfl
@[simp] theorem rS:gw f σ au=(f σ au).bind λb st1=>.ok (!b) st1:=rfl
@[simp] theorem Vx:aI σ au=.ok true au:=rfl
@[simp] theorem Ge:BD c f f' σ au=(c σ au).bind λb st1=>if b=true then f σ st1 else f' σ st1:=rfl
@[simp] theorem Hx:aT g σ au=(g σ au).bind λb a=>if b.length<=sizeLine then .ok (.tup b) a else .stuck:=rfl
@[simp] theorem Hw:ip g σ au=(g σ au).bind λb a=>if b.length<=sizeLine then .ok (.lst b) a else .stuck:=rfl
@[simp] theorem JZ:cM g σ au=(g σ au).bind λb a=>if b.length<=sizeLine then .ok (.ref a.length) (a++[.lst b]) else .stuck:=rfl
@[simp] theorem VN:hJ g g' f f' f'' σ au=(f σ au).bind λx c=>(f' σ c).bind λy b=>(g x y b).bind λz a=>(match z with
 |.bl true=>(f'' σ a).bind λw d=>g' y w d
 |.bl false=>.ok (.bl false) a
 |_=>.stuck):=rfl
@[simp] theorem VD:dZ σ au=.ok (.ref au.length) (au++[.dT []]):=rfl
@[simp] theorem Vv:fK σ au=.ok (.nx σ) au:=rfl
@[simp] theorem VB:zW σ au=.ok (.brk σ) au:=rfl
@[simp] theorem p8:aY f σ au=(f σ au).bind λv st1=>.ok (.ret v) st1:=rfl
@[simp] theorem VH:qK σ au=.ok (.ret .non) au:=rfl
@[simp] theorem Cc:bq f σ au=(f σ au).bind λ_ st1=>.ok (.nx σ) st1:=rfl
@[simp] theorem xK:aF i f σ au=(f σ au).bind λv st1=>.ok (.nx (σ.set i (some v))) st1:=rfl
@[simp] theorem IS:aD s t σ au=(match s σ au with
 |.ok (.nx σ1) st1=>t σ1 st1
 |r=>r):=rfl
@[simp] theorem k9:ft c s t σ au=(c σ au).bind λb st1=>if b=true then s σ st1 else t σ st1:=rfl
@[simp] theorem IQ:lw i g f σ au=(match σ[i]? with
 |some (some x)=>(f σ au).bind λy b=>(g x y b).bind λz a=>.ok (.nx (σ.set i (some z))) a
 |_=>.stuck):=rfl
@[simp] theorem vJ:bz it bd body σ au=(it σ au).bind λa st1=>dk bd body a σ st1:=rfl
@[simp] theorem xj:aH f σ au=(f σ au).bind λx a=>(match fY x with
 |some xs=>.ok xs a
 |none=>.stuck):=rfl
@[simp] theorem Gj:jw g σ au=(g σ au).bind λb a=>(match b with
 |[.int j]=>if cO j then .ok (rng 0 j.toNat) a else .stuck
 |_=>.stuck):=rfl
@[simp] theorem Gk: tM g σ au=(g σ au).bind λb a=>(match b with
  |[.int i,.int j]=>if cO i/\cO j then .ok (rng i (j-i).toNat) a else .stuck
  |_=>.stuck):=by
  show(g σ au).bind _=_
  congr 1
  funext b a
  split
  · unfold cO
    simp only[and_assoc]
  · rename_i h
    first
      |rfl
      | (split
         · rename_i i j
           exact absurd rfl (h i j)
         · rfl)
@[simp] theorem VF:iH f σ au=(f σ au).bind λx a=>(match x with
 |.ref n=>(match a[n]? with
  |some (.dT kvs)=>.ok (aJ (kvs.map (·.1))) (a.set n (.fT kvs))
  |_=>.stuck)
 |_=>.stuck):=rfl
@[simp] theorem rf:aG it k is bd c f σ au=(it σ au).bind λd b=>if d.length<=sizeLine then(bN bd c f d (aV k is σ) b).bind λe a=>.ok (.lst e) a else .stuck:=rfl
@[simp] theorem Gd:mi f σ au=(f σ au).bind λx a=>(match x with
 |.ref n=>(match a[n]? with
  |some (.lst xs)=>.ok (.lst xs) (a.set n .dead)
  |_=>.stuck)
 |_=>.stuck):=rfl
@[simp] theorem VG:dX σ au=.ok none au:=rfl
@[simp] theorem Kz:dW f σ au=(f σ au).bind λv a=>(match v with
 |.int i=>.ok (some i) a
 |_=>.stuck):=rfl
@[simp] theorem Gg {lo:DS->aa->bJ (Option Int)}:lI f lo hi σ au=(f σ au).bind λx c=>(lo σ c).bind λl b=>(hi σ b).bind λh a=>(match x with
 |.tup xs=>.ok (.tup (cutD xs l h)) a
 |x=>match eY a x with
  |some xs=>.ok (.lst (cutD xs l h)) a
  |none=>.stuck):=rfl
@[simp] theorem Q2:bO f g σ au=(f σ au).bind λx b=>(match x,eY b x with
 |.ref n,some _=>(g σ b).bind λc a=>(match c,a[n]? with
  |[y],some (.lst xs)=>if xs.length<sizeLine then .ok .non (a.set n (.lst (xs++[y]))) else .stuck
  |_,_=>.stuck)
 |_,_=>.stuck):=rfl
@[simp] theorem NE:fh f g σ au=(f σ au).bind λx b=>(match x,eY b x with
 |.ref n,some _=>(g σ b).bind λc a=>(match c,a[n]? with
  |[y],some (.lst xs)=>(match eY a y with
   |some zs=>if xs.length+zs.length<=sizeLine then .ok .non (a.set n (.lst (xs++zs))) else .stuck
   |none=>.stuck)
  |_,_=>.stuck)
 |_,_=>.stuck):=rfl
@[simp] theorem M7:fz f g h σ au=(h σ au).bind λv c=>(f σ c).bind λx b=>(g σ b).bind λy a=>(match x,y with
 |.ref n,.int k=>(match a[n]? with
  |some (.lst xs)=>(match kH xs.length k with
   |some j=>.ok (.nx σ) (a.set n (.lst (xs.set j v)))
   |none=>.stuck)
  |_=>.stuck)
 |_,_=>.stuck):=rfl
@[simp] theorem L0:i8 f g h σ au=(f σ au).bind λx b=>(match pairsOf b x with
 |some _=>(g σ b).bind λy c=>(h σ c).bind λz a=>(match pairsOf a x,eJ y with
  |some kvs,some k=>.ok ((cW kvs k).getD z) a
  |_,_=>.stuck)
 |none=>.stuck):=rfl
@[simp] theorem VE:kL f g σ au=(f σ au).bind λx b=>(match pairsOf b x with
 |some _=>(g σ b).bind λy a=>(match x,eJ y with
  |.ref n,some k=>(match a[n]? with
   |some (.dT kvs)=>(match cW kvs k with
    |some v=>.ok v (a.set n (.dT (iJ kvs k)))
    |none=>.stuck)
   |_=>.stuck)
  |_,_=>.stuck)
 |none=>.stuck):=rfl
@[simp] theorem EN:gk f g h σ au=(h σ au).bind λv c=>(f σ c).bind λx b=>(g σ b).bind λy a=>(match x,eJ y with
 |.ref n,some k=>(match a[n]? with
  |some (.dT kvs)=>if kvs.length<sizeLine then .ok (.nx σ) (a.set n (.dT (iZ kvs k v))) else .stuck
  |_=>.stuck)
 |_,_=>.stuck):=rfl
theorem wG:cG n np b ds au=if ds.length=np then(match b (ds.map some++List.replicate (n-np) none) au with
 |.ok (.ret v) st'=>.ok v st'
 |.ok (.nx _) st'=>.ok .non st'
 |.exc x st'=>.exc x st'
 |_=>.stuck) else .stuck:=rfl
@[simp] theorem Pj [DecidableRel C]:oI C h (.int i) (.int j) au=if C i j then .ok (h i j) au else .stuck:=rfl
@[simp] theorem Vy:aO (.int i) (.int j) au=.ok (.int (i+j)) au:=rfl
@[simp] theorem sr:aO (.tup a) (.tup b) au=if a.length+b.length<=sizeLine then .ok (.tup (a++b)) au else .stuck:=rfl
@[simp] theorem Vz:gc (.int i) (.int j) au=.ok (.bl (decide (i<j))) au:=rfl
@[simp] theorem VA:jt (.int i) au=.ok (.int (-i)) au:=rfl
@[simp] theorem rA (ns:List Int):bC (ns.map .int)=some ns:=by
 induction ns with
 |nil=>rfl
 |cons n ns ih=>rw[cf,bC,ih];rfl
@[simp] theorem TB (l:List (List Int)):fD (aJ l)=some l:=by
 induction l with
 |nil=>rfl
 |cons n ns ih=>
  unfold aJ at ih ⊢;rw[cf,fD,rA,ih];rfl
@[simp] theorem rq (ns:List Int):eJ (aL ns)=some ns:=rA ns
theorem Co:dataOf au (.int i)=some (.int i):=rfl
@[simp] theorem Gp:qR (.int i) (.int j) au=.ok (.bl (decide (i=j))) au:=by
 show eV false (.int i) (.int j) au=_;unfold eV;rw[Co,Co];dsimp only;rw[if_pos ⟨rfl,rfl⟩];show bJ.ok (D.bl (i==j)) au=_;rw[show(i==j)=decide (i=j) from by rw[mJ];simp]
@[simp] theorem Gr:oj (.int i) (.int j) au=.ok (.bl (!decide (i=j))) au:=by
 show eV true (.int i) (.int j) au=_;unfold eV;rw[Co,Co];dsimp only;rw[if_pos ⟨rfl,rfl⟩];show bJ.ok (D.bl (!(i==j))) au=_;rw[show(i==j)=decide (i=j) from by rw[mJ];simp]
theorem QZ(a:List Int):cC (a.map .int)=some (dI a):=by
 induction a with
 |nil=>rfl
 |cons n a ih=>rw[cf,cC,ih];rfl
theorem NA(l:List (List Int)):cC (aJ l)=some (l.map d5):=by
 induction l with
 |nil=>rfl
 |cons n ns ih=>
  unfold aJ at ih ⊢;rw[cf,cC,ih,fy,QZ];rfl
abbrev aK(l:List (List Int)):D:=.tup (aJ l)
theorem Qi(l:List (List Int)):dataOf au (aK l)=some (.tuple (l.map d5)):=by
 show(cC (aJ l)).map PyData.tuple=_;rw[NA];rfl
theorem Kq(a b:List (List Int)):eV neg (aK a) (aK b) au=.ok (.bl (if neg then !decide (a=b) else decide (a=b))) au:=by
 unfold eV;rw[Qi,Qi];dsimp only;rw[if_pos ⟨RX a,RX b⟩];have e:PyData.eqv (.tuple (a.map d5)) (.tuple (b.map d5))=decide (a=b):=QV a b;rw[e]
theorem am(n:Nat)(h:n<=1000000):n<=sizeLine:=by rw[jo];lia
theorem cQ(n:Nat)(h:n<=1000000):n<sizeLine:=by rw[jo];lia
theorem ya(I:Nat->DS->aa->Prop):∀(j:List D) (k:Nat) (b:DS) (a:aa),I k b a ->
  (∀i x b a,j[i]?=some x->I (k+i) b a->∃g e d,bd x b=some g/\body g a=.ok (.nx e) d/\I (k+i+1) e d)->∃f c,dk bd body j b a=.ok (.nx f) c/\I (k+j.length) f c
 |[],k,b,a,h,_=>⟨b,a,rfl,h⟩
 |x::j,k,b,a,h,s=>by
  obtain⟨g,e,d,q,l,r⟩:=s 0 x b a rfl h;obtain⟨f,c,m,p⟩:=ya I j (k+1) e d r λi y b a n o=>by
   have:=s (i+1) y b a (by simpa using n) (by rw[show k+(i+1)=k+1+i by lia];exact o);rw[show k+(i+1)+1=k+1+i+1 by lia] at this;exact this
  refine⟨f,c,?_,by rw[dN,show k+(j.length+1)=k+1+j.length by lia];exact p⟩;unfold dk;rw[q];dsimp only;rw[l];exact m
theorem p7(I:Nat->DS->aa->Prop) (f:I 0 σ au)
  (s:∀i x σ au,xs[i]?=some x->I i σ au->∃a d c,bd x σ=some a/\body a au=.ok (.nx d) c/\I (i+1) d c):∃b st',dk bd body xs σ au=.ok (.nx b) st'/\I xs.length b st':=by
 have:=ya I xs 0 σ au f λi x σ au g e=>by
  rw[jI] at e ⊢;exact s i x σ au g e
 rw[jI] at this;exact this
theorem BR{lo:Int}(h:(rng lo n)[i]?=some x):i<n/\x=.int (lo+i):=rg h
theorem mw(lo:Int)(n:Nat):(rng lo n).length=n:=by simp[rng]
theorem EZ(I:Nat->List D->DS->aa->Prop):∀(n:List D) (k:Nat) (a:List D) (l:DS) (j:aa),I k a l j ->
  (∀i x a l j,n[i]?=some x->I (k+i) a l j->∃d b e,bd x l=some d/\c d j=.ok b e/\((b=false/\I (k+i+1) a d e)\/(b=true/\∃y g,f d e=.ok y g/\I (k+i+1) (a++[y]) d g))) ->
  ∃p o m,bN bd c f n l j=.ok p m/\I (k+n.length) (a++p) o m
 |[],k,a,l,j,h,_=>⟨[],l,j,rfl,by rw[kn];exact h⟩
 |x::n,k,a,l,j,h,s=>by
  have w:∀i y a l j,n[i]?=some y->I (k+1+i) a l j->∃d b e,bd y l=some d/\c d j=.ok b e/\((b=false/\I (k+1+i+1) a d e)\/(b=true/\∃z g,f d e=.ok z g/\I (k+1+i+1) (a++[z]) d g)):=λi y a l j C E=>by
   have:=s (i+1) y a l j (by simpa using C) (by rw[show k+(i+1)=k+1+i by lia];exact E);rw[show k+(i+1)+1=k+1+i+1 by lia] at this;exact this
  obtain⟨d,b,e,u,v,q⟩:=s 0 x a l j rfl h;rcases q with⟨rfl,q⟩|⟨rfl,y,g,A,q⟩
  ·obtain⟨p,o,m,t,r⟩:=EZ I n (k+1) a d e q w;refine⟨p,o,m,?_,by rw[dN,show k+(n.length+1)=k+1+n.length by lia];exact r⟩;unfold bN;rw[u];dsimp only;rw[v];exact t
  ·obtain⟨p,o,m,t,r⟩:=EZ I n (k+1) (a++[y]) d g q w;refine⟨y::p,o,m,?_,by rw[dN,show k+(n.length+1)=k+1+n.length by lia];rw[eh] at r;exact r⟩;unfold bN;rw[u];dsimp only;rw[v];dsimp only[zw];rw[if_pos rfl,A];dsimp only[zw];rw[t]
   rfl
theorem uy(I:Nat->List D->DS->aa->Prop) (l:I 0 [] σ au)
  (s:∀i x d σ au,xs[i]?=some x->I i d σ au->∃a b e,bd x σ=some a/\c a au=.ok b e/\((b=false/\I (i+1) d a e)\/(b=true/\∃y g,f a e=.ok y g/\I (i+1) (d++[y]) a g))):
  ∃j h st',bN bd c f xs σ au=.ok j st'/\I xs.length j h st':=by
 have:=EZ I xs 0 [] σ au l λi x d σ au m k=>by
  rw[jI] at k ⊢;exact s i x d σ au m k
 rw[jI] at this
 simpa using this
theorem Tv(I:Nat->DS->aa->Prop)(d:DS->aa->Prop) (t:I k σ au)(p:k<mQ)
  (s:∀j σ au,I j σ au->∃b e,c σ au=.ok b e/\((b=false/\d σ e)\/(b=true/\∃i g f,body σ e=.ok (.nx g) f/\I i g f/\i<j))):∃a st',dy c body σ au=.ok (.nx a) st'/\d a st':=by
 have l:∀n j σ au,I j σ au->j<n->∃a st',dv c body n σ au=.ok (.nx a) st'/\d a st':=by
  intro n
  induction n with
  |zero=>intro j σ au _ h;lia
  |succ n ih=>
   intro j σ au q r;obtain⟨b,e,v,h⟩:=s j σ au q;unfold dv;rw[v];dsimp only[zw];rcases h with⟨rfl,h⟩|⟨rfl,i,g,f,m,w,x⟩
   ·exact⟨σ,e,by rw[if_neg (by decide)],h⟩
   ·obtain⟨a,st',o,u⟩:=ih i g f w (by lia);refine⟨a,st',?_,u⟩;rw[if_pos rfl,m];exact o
 exact l mQ k σ au t p
@[simp] theorem VT:cD au (.tup xs)=some xs:=rfl
@[simp] theorem VS:cD au (.scr xs)=some xs:=rfl
@[simp] theorem VR:cD au (.lst xs)=some xs:=rfl
@[simp] theorem VQ:fY (.tup xs)=some xs:=rfl
@[simp] theorem VO:fY (.lst xs)=some xs:=rfl
@[simp] theorem VP:fY (.scr xs)=some xs:=rfl
@[simp] theorem VC:eY au (.lst xs)=some xs:=rfl
theorem oD(h:au[n]?=some (.lst xs)):eY au (.ref n)=some xs:=by
 unfold eY;dsimp only;rw[h]
theorem wn(h:au[n]?=some (.lst xs)):cD au (.ref n)=some xs:=oD h
theorem lR(h:cD au x=some xs)(a:L2.atI xs i=some d):cL x (.int i) au=.ok d au:=by
 unfold cL;rw[h];dsimp only;rw[a]
@[simp] theorem VL:cZ [.tup xs] au=.ok (.int xs.length) au:=rfl
@[simp] theorem VI:cZ [.lst xs] au=.ok (.int xs.length) au:=rfl
@[simp] theorem VJ:cZ [.scr xs] au=.ok (.int xs.length) au:=rfl
@[simp] theorem Vw:lK [.int i] au=.ok (.int (if i<0 then -i else i)) au:=rfl
@[simp] theorem Vt:BG g [.int i,.int j] au=.ok (.int (g i j)) au:=rfl
@[simp] theorem Lu:hV [aL ns] au=.ok (.int ns.sum) au:=by
 unfold hV;simp
@[simp] theorem VU:bE [.tup xs] au=.ok (.tup xs) au:=rfl
@[simp] theorem TC:bE [.lst xs] au=.ok (.tup xs) au:=rfl
theorem FB(h:au[n]?=some (.lst xs)):bE [.ref n] au=.ok (.tup xs) au:=by
 unfold bE;dsimp only;rw[oD h]
theorem UJ{l:List (List Int)}(h:l.length<=1000000):bf [.lst (aJ l)] au=.ok (.lst (aJ (aX l))) au:=by
 unfold bf;simp[h]
theorem UI(h:au[n]?=some (.dT kvs))(a:kvs.length<=1000000):bf [.ref n] au=.ok (.lst (aJ (aX (kvs.map (·.1))))) au:=by
 unfold bf eY pairsOf;simp[h,a]
theorem EY{j:Nat}(h:xs[j]?=some d):L2.atI xs (j:Int)=some d:=B1 h
theorem kR{a:aa}(h:n<a.length):(a.set n o)[n]?=some o:=pH h
section
variable {au:aa}{n:Nat}
theorem zh{o:O}(h:au[n]?=some o):n<au.length:=(cn.mp h).1
end
theorem M9{a:aa}:(a.set n o).set n p=a.set n p:=List.set_set _
section
variable {au:aa}{n:Nat}{i:Int}
theorem IT{o:O}(h:au[n]?=some o):au.set n o=au:=by
 apply DJ;intro i;by_cases e:i=n
 ·subst e;rw[pH (zh h),h]
 ·rw[dU (cJ e)]
end
theorem iN{a:List D}(h:a.length=np)(e:b (a.map some++List.replicate (n-np) none) au=.ok (.ret v) st'):cG n np b a au=.ok v st':=by
 rw[wG,if_pos h,e]
theorem rL{a:List D}(h:a.length=np)(e:b (a.map some++List.replicate (n-np) none) au=.ok (.nx σ) st'):cG n np b a au=.ok .non st':=by
 rw[wG,if_pos h,e]
noncomputable abbrev fC(c x:Int):O:=.lst [.int c,.int x]
def dJ(a:aa) (n:Nat):Prop:=∃c x:Int,a[n]?=some (fC c x)/\0<=c/\0<=x
structure ef (au st':aa) (n:Nat):Prop where
 len:au.length<=st'.length
 keep:∀ i,i<au.length->i≠n->st'[i]?=au[i]?
 bag:dJ st' n
theorem ef.trans(a:ef au st1 n)(b:ef st1 st2 n):ef au st2 n:=
 ⟨ay a.len b.len,λi d c=>(b.keep i (dq d a.len) c).trans (a.keep i d c),b.bag⟩
theorem ef.set{a:aa}{n:Nat}{c x:Int}(h:dJ a n)(f:0<=c)(b:0<=x):ef a (a.set n (fC c x)) n:=by
 obtain⟨_,_,e,_⟩:=h;exact⟨by rw[gR];exact bj _,λi _ d=>dU (cJ d),c,x,kR (zh e),f,b⟩
theorem ef.more{a:aa}{n:Nat}(h:dJ a n)(g:aa):ef a (a++g) n:=by
 obtain⟨c,x,e,d,b⟩:=h;exact⟨by rw[cx];lia,λi h _=>eR h,c,x,by rw[eR (zh e)];exact e,d,b⟩
theorem Ce{au:aa}{n:Nat}{m:Int}(o:dJ au n)(h1:1<=m)(T:m<2^1000):
  ∃r f,lV [.ref n,.int m] au=.ok (.int r) f/\0<=r/\r<m/\ef au f n/\f.length=au.length:=by
 obtain⟨c,x,i,w,G⟩:=id o;have E:∀{c x:Int}{au:aa},au[n]?=some (fC c x)->cL (.ref n) (.int 0) au=.ok (.int c) au:=λh=>lR (wn h) rfl
 have v:∀{c x:Int}{au:aa},au[n]?=some (fC c x)->cL (.ref n) (.int 1) au=.ok (.int x) au:=λh=>lR (wn h) rfl
 by_cases h0:0<c
 ·have d1:gp c m:=⟨by lia,T⟩
  have U:kH 2 0=some 0:=rfl;refine⟨c%m,au.set n (fC (c/m) x),iN rfl ?_,yT _ (by lia),Int.emod_lt_of_pos _ (by lia),ef.set o (Int.ediv_nonneg w (by lia)) G,gR⟩;simp[E i,h0,i,U,show(0:Int)<m by lia,d1]
 ·have g:=zh i
  have W:=Tv (c:=eB (aU gc (aA 4) (aA 1))) (body:=aD (fz (aA 0) (eC (.int 1)) (aU im (aU aO (aU bQ (aU cL (aA 0) (eC (.int 1))) (eC (.int 48271))) (eC (.int 7919))) (eC (.int 2147483647))))
   (aD (aF 3 (aU aO (aU bQ (aA 3) (eC (.int 1073741789))) (aU im (aU bQ (aU ju (aU cL (aA 0) (eC (.int 1))) (eC (.int 8))) (eC (.int 69621))) (eC (.int 1073741789)))))
   (aF 4 (aU bQ (aA 4) (eC (.int 1073741789)))))) (k:=1000) (σ:=[some (.ref n),some (.int m),none,some (.int 0),some (.int 1)]) (au:=au)
   (λj l s=>∃b a d rr:Int,l=[some (.ref n),some (.int m),none,some (.int d),some (.int rr)]/\s=au.set n (fC b a)/\0<=b/\0<=a/\0<=d/\j<=1000/\2^(1000-j)<=rr)
   (λl s=>∃b a d:Int,(∃rr,l=[some (.ref n),some (.int m),none,some (.int d),some (.int rr)])/\s=au.set n (fC b a)/\0<=b/\0<=a/\0<=d)
   ⟨c,x,0,1,rfl,(IT i).symm,w,G,by lia,by lia,by decide⟩ (by decide) (by
    rintro j l s ⟨b,a,d,rr,rfl,rfl,t,C,u,a4,X⟩;have A:(au.set n (fC b a))[n]?=some (fC b a):=kR g;by_cases hlt:rr<m
    ·have hj:1<=j:=by
      rcases Om j with z|z
      ·subst z;have a6:(2:Int)^1000<=rr:=X;lia
      ·exact z
     have I:kH 2 1=some 1:=rfl;have P:eN a 48271:=.inr ⟨by decide,by decide⟩;have Y:eN d 1073741789:=.inr ⟨by decide,by decide⟩;have R:eN rr 1073741789:=.inr ⟨by decide,by decide⟩;have g2:∀y:Int,(au.set n (fC b y))[n]?=some (fC b y):=λy=>kR g
     have J:∀y:Int,eN y 69621:=λy=>.inr ⟨by decide,by decide⟩
     have H:∀y:Int,gp y 8:=λy=>⟨by decide,by decide +kernel⟩
     refine⟨true,au.set n (fC b a),by simp[hlt],.inr ⟨rfl,j-1,_,au.set n (fC b ((a*48271+7919)%2147483647)),?_,⟨b,(a*48271+7919)%2147483647,d*1073741789+(a*48271+7919)%2147483647/8*69621%1073741789,rr*1073741789,rfl,rfl,t,?_,?_,by lia,?_⟩,by lia⟩⟩
     ·simp[v A,A,I,P,Y,R,J,H,v (g2 _)]
     ·exact yT _ (by lia)
     ·have t:0<=d*1073741789:=N5 u (by lia);have C:=yT ((a*48271+7919)%2147483647/8*69621) (show(1073741789:Int)≠0 by lia);lia
     ·have e:(2:Int)^(1000-(j-1))=2^(1000-j)*2:=by
       rw[←Int.pow_succ];congr 1;lia
      rw[e];have hp:(0:Int)<=2^(1000-j):=Int.pow_nonneg (by decide);lia
    ·exact⟨false,_,by simp[hlt],.inl ⟨rfl,b,a,d,⟨rr,rfl⟩,rfl,t,C,u⟩⟩)
  obtain⟨a0,f,e,b,a,d,p,q,Q,S,k3⟩:=W;obtain⟨rr,rfl⟩:=p;subst q;refine⟨d%m,au.set n (fC b a),iN rfl ?_,yT _ (by lia),Int.emod_lt_of_pos _ (by lia),ef.set o Q S,gR⟩;simp[E i,h0,e,show(0:Int)<m by lia]
theorem Ru{a:List Int}(h:j<a.length):L2.atI (a.map D.int) (j:Int)=some (.int a[j]):=B1 (by rw[fq,dr h];rfl)
theorem GR{a:List Int}{i:Nat}(C:a.length<=63)(A:i<=100000):∃c x:Int,0<=c/\0<=x/\wg [.scr (a.map .int),.int i] au=.ok (.ref au.length) (au++[fC c x]):=by
 have d:∃c:Int,0<=c/\ft (eB (aU gc (aA 1) (aE cZ (aB (aA 0) aC)))) (aF 2 (aE lK (aB (aU cL (aA 0) (aA 1)) aC))) fK [some (.scr (a.map .int)),some (.int i),some (.int 0),none,none] au
   = .ok (.nx [some (.scr (a.map .int)),some (.int i),some (.int c),none,none]) au:=by
  by_cases h:i<a.length
  ·have e:cL (.scr (a.map .int)) (.int i) au=.ok (.int a[i]) au:=lR rfl (Ru h);refine⟨if a[i]<0 then -a[i] else a[i],by split<;>lia,?_⟩;simp[h,e]
  ·exact⟨0,by lia,by simp[h]⟩
 obtain⟨c,r,f⟩:=d;have n:(if(60:Int)<(a.length:Int) then(60:Int) else a.length).toNat<=a.length:=by split<;>lia
 have W:=p7 (bd:=gN 4) (body:=aF 3 (aU im (aU aO (aU aO (aU bQ (aA 3) (eC (.int 48271))) (aU im (aU cL (aA 0) (aA 4)) (eC (.int 2147483647)))) (aA 4)) (eC (.int 2147483629))))
  (xs:=rng 0 (if(60:Int)<(a.length:Int) then(60:Int) else a.length).toNat) (σ:=[some (.scr (a.map .int)),some (.int i),some (.int c),some (.int (7919*i+17)),none]) (au:=au)
  (λj m s=>s=au/\∃(b:Int) (v:Option D),m=[some (.scr (a.map .int)),some (.int i),some (.int c),some (.int b),v]/\0<=b) ⟨rfl,_,none,rfl,by lia⟩ (by
   rintro j x m s w ⟨rfl,b,v,rfl,k⟩;obtain⟨z,rfl⟩:=BR w;have g:j<a.length:=by lia
   have e:cL (.scr (a.map .int)) (.int (0+j)) s=.ok (.int a[j]) s:=lR rfl (by rw[qr];exact Ru g);rw[qr] at e;have t:eN b 48271:=.inr ⟨by decide,by decide⟩;refine⟨_,[some (.scr (a.map .int)),some (.int i),some (.int c),some (.int ((b*48271+a[j]%2147483647+j)%2147483629)),some (.int (0+j))],s,rfl,?_,rfl,_,_,rfl,yT _ (by lia)⟩
   simp[e,t])
 obtain⟨y,u,e,rfl,b,v,rfl,k⟩:=W;have q:eN 7919 (i:Int):=.inl ⟨by decide,by decide⟩;have p:kf 10 18:=⟨by decide,by decide,by decide⟩
 have o:cO (if(60:Int)<(a.length:Int) then(60:Int) else a.length):=by
  split<;>exact mV (by lia) (by lia)
 by_cases hlt:c<1000000000000000000
 ·refine⟨0,b,by lia,k,iN rfl ?_⟩;have l:=am 2 (by lia);simp at f;simp[f,q,o,e,p,hlt,l]
 ·refine⟨c,b,r,k,iN rfl ?_⟩;have l:=am 2 (by lia);simp at f;simp[f,q,o,e,p,hlt,l]
theorem eT(h:s σ au=.ok (.nx σ1) st1)(k:t σ1 st1=r):aD s t σ au=r:=by
 rw[IS,h];exact k
noncomputable def aR(a:List (List Int)) (k:List Int):List (List Int):=if k∈a then a.filter (λx=>decide (x≠k)) else a++[k]
def aP(l:List (List Int)):List (List Int):=l.foldl aR []
theorem kX:x∈aR ks k↔(x∈ks/\x≠k)\/(x=k/\k∉ks):=by
 unfold aR;split
 ·rename_i h;simp[fH,h]
 ·rename_i h;simp only[eO,fJ];constructor
  ·rintro(z|rfl)
   ·exact .inl ⟨z,λe=>h (e ▸ z)⟩
   ·exact .inr ⟨rfl,h⟩
  ·rintro(⟨z,_⟩|⟨z,_⟩)
   ·exact .inl z
   ·exact .inr z
theorem qj{c:List (List Int)}(h:c.Nodup):(aR c k).Nodup:=by
 unfold aR;split
 ·exact h.filter _
 ·rename_i f;rw[sP];exact⟨h,by simp,λa g b d=>by simp at d;subst d;exact λe=>f (e ▸ g)⟩
theorem R1(a:List (List Int))(k:List Int):(aR a k).length<=a.length+1:=by
 unfold aR;split
 ·exact qA (vr _ _)
 ·simp
theorem qe:∀(l b:List (List Int)),b.Nodup->(l.foldl aR b).Nodup/\(l.foldl aR b).length<=b.length+l.length/\∀x,x∈l.foldl aR b↔(l.count x+if x∈b then 1 else 0)%2=1
 |[],b,h=>⟨h,by simp,λx=>by by_cases e:x∈b<;>simp[e]⟩
 |a::l,b,h=>by
  obtain⟨d,g,f⟩:=qe l (aR b a) (qj h);refine⟨d,?_,λx=>?_⟩
  ·have:=R1 b a;rw[sN,dN];lia
  ·rw[sN,f x,yS];by_cases e:x=a
   ·subst e;by_cases k:x∈b
    ·have q:x∉aR b x:=by rw[kX];simp[k]
     simp only[q,k,h8,jm,vb]<;>lia
    ·have q:x∈aR b x:=by rw[kX];simp[k]
     simp only[q,k,h8,jm,vb]<;>lia
   ·have c:(a==x)=false:=by simpa using λz:a=x=>e z.symm
    by_cases k:x∈b
    ·have q:x∈aR b a:=by rw[kX];simp[k,e]
     simp[q,k,c]
    ·have q:x∉aR b a:=by rw[kX];simp[k,e]
     simp[q,k,c]
theorem qi(l:List (List Int)):(aP l).Nodup:=(qe l [] mI).1
theorem zx(l:List (List Int)):(aP l).length<=l.length:=by have:=(qe l [] mI).2.1;simpa [aP] using this
theorem rm:x∈aP l↔l.count x%2=1:=by have:=(qe l [] mI).2.2 x;simpa [aP] using this
theorem C2{a b:List (List Int)}(d:a.Nodup)(c:b.Nodup)(h:∀x,x∈a↔x∈b):a.Perm b:=(List.perm_ext_iff_of_nodup d c).mpr h
theorem FL{a:List (List Int)}(h:a.Perm b):aX a=aX b:=Fb ((ze a).trans h) (CF a)
def aQ(l:List (List Int)):List (List Int):=aX (aP l)
theorem vS{l m:List (List Int)}(a:m.Nodup)(h:∀x,x∈m↔l.count x%2=1):aX m=aQ l:=FL (C2 a (qi l) λx=>by rw[h,rm])
theorem Mw:x∈aQ l↔l.count x%2=1:=by unfold aQ;rw[(ze _).mem_iff,rm]
theorem jj(h:x∈aQ l):x∈l:=by
 rw[Mw] at h;rcases Om (l.count x) with z|z
 ·rw[z] at h;cases h
 ·exact y6.mp z
theorem C1(l:List (List Int)):(aQ l).length<=l.length:=by unfold aQ;rw[wz];exact zx l
theorem zr(l:List (List Int)):(aQ l).Nodup:=(ze _).nodup_iff.mpr (qi l)
noncomputable abbrev aS(a:List (List Int)):List (List Int×D):=a.map λk=>(k,.bl true)
theorem Fy:cW (aS ks) k=if k∈ks then some (.bl true) else none:=by
 induction ks with
 |nil=>rfl
 |cons a ks ih=>
  unfold cW aS at ih ⊢;rw[cf,lZ];by_cases e:a=k
  ·simp[e]
  ·simp only[dM e];rw[ih];simp[bU,show ¬ k=a from λz=>e z.symm]
theorem TM:iJ (aS ks) k=aS (ks.filter λx=>decide (x≠k)):=by
 unfold iJ aS;rw[N8]
 rfl
theorem Fu(h:k∉ks):iZ (aS ks) k (.bl true)=aS (ks++[k]):=by
 unfold iZ;rw[if_neg]
 ·simp[aS]
 ·simp only[List.any_map,List.any_eq_true,not_exists,not_and];intro x a e;have:x=k:=by simpa using e
  exact h (this ▸ a)
theorem CB(h:au[n]?=some (.dT kvs)):pairsOf au (.ref n)=some kvs:=by
 unfold pairsOf;dsimp only;rw[h]
theorem MD(h:au[n]?=some (.fT kvs)):pairsOf au (.ref n)=some kvs:=by
 unfold pairsOf;dsimp only;rw[h]
theorem yt(h:pairsOf au (.ref n)=some kvs):i3 false (aL k) (.ref n) au=.ok (.bl (cW kvs k).isSome) au:=by
 unfold i3;rw[rq,h]
 rfl
theorem Mu(h:pairsOf au (.ref n)=some kvs)(a:cW kvs k=some v):fv (.ref n) (aL k) au=.ok v au:=by
 unfold fv;rw[rq,h];dsimp only;rw[a]
theorem uB(h:au[n]?=some (.dT (aS ks)))(f:ks.length<=1000000):gP [.ref n,aL k] au=.ok .non (au.set n (.dT (aS (aR ks k)))):=by
 have a:=yt (k:=k) (CB h);rw[Fy] at a;by_cases hk:k∈ks
 ·refine rL (σ:=[some (.ref n),some (aL k)]) rfl ?_;rw[if_pos hk] at a;have e:cW (aS ks) k=some (.bl true):=by rw[Fy,if_pos hk]
  have b:aR ks k=ks.filter λx=>decide (x≠k):=by unfold aR;rw[if_pos hk]
  rw[b,←TM];have g:=CB h;have c:=rq k;simp only[aL,aS] at *
  simp[a,g,c,h,e]
 ·refine rL (σ:=[some (.ref n),some (aL k)]) rfl ?_;rw[if_neg hk] at a;have b:aR ks k=ks++[k]:=by unfold aR;rw[if_neg hk]
  rw[b,←Fu hk];have c:=rq k;have d:(aS ks).length<sizeLine:=by rw[az];exact cQ _ f
  simp only[aL,aS] at *
  simp[a,c,h,d];rw[az] at d;exact d
theorem zu{l:List (List Int)}{i:Nat}(h:(aJ l)[i]?=some x):∃k,l[i]?=some k/\x=aL k:=by
 unfold aJ at h;rw[fq] at h;cases e:l[i]? with
 |none=>rw[e] at h;cases h
 |some k=>rw[e] at h;exact⟨k,rfl,(fW h).symm⟩
theorem zd(l:List (List Int)):(aJ l).length=l.length:=az _
theorem zg{a:Type}{l:List a}{i:Nat}{k:a}(h:l[i]?=some k):l.take (i+1)=l.take i++[k]:=by
 obtain⟨b,e⟩:=cn.mp h;rw[OT b,e]
theorem oY(a:List D)(k:Nat):cutD a none (some (k:Int))=a.take k:=by
 unfold cutD;rw[HT.QD,HT.yB,N6,Nat.sub_zero];rcases Nat.le_total k a.length with h|h
 ·rw[lh h]
 ·rw[yW h,eQ,vw h]
theorem Qg(a:List D)(k:Nat):cutD a (some (k:Int)) none=a.drop k:=by
 unfold cutD;rw[HT.QD,HT.yB];rcases Nat.le_total k a.length with h|h
 ·rw[lh h,vw (by rw[py];exact bj _)]
 ·rw[yW h,Oe,List.drop_of_length_le h];simp
theorem J2:oy [aL r] au=.ok (.bl (decide (r.length<=6)&&decide (r.sum<=16))) au:=by
 refine iN rfl ?_;have e:=Lu (au:=au) (ns:=r);simp only[aL] at *
 by_cases h:r.length<=6
 ·have a:(r.length:Int)<=6:=by lia
  simp[e,h,a]
 ·have a:¬ (r.length:Int)<=6:=by lia
  simp[e,h,a]
noncomputable def ai(c b:List (List Int)):List (List Int):=c.flatMap λa=>b.map (a++·)
theorem RS(c b:List (List Int))(a:List Int):ai (c++[a]) b=ai c b++b.map (a++·):=by
 unfold ai;rw[pC];simp
theorem Dh(l a:List (List Int))(h:a.Nodup):(l.foldl aR a).length<=a.length+l.length:=(qe l a h).2.1
theorem wA(c b:List (List Int)):(ai c b).length=c.length*b.length:=by
 unfold ai
 induction c with
 |nil=>simp
 |cons a l ih=>rw[sO,cx,ih,az,dN,Do,Nat.add_comm]
theorem TW:x∈ai d c↔∃a∈d,∃b∈c,a++b=x:=by
 unfold ai;simp[ll]
theorem yA{a b:List Int}:(a.map D.int)++(b.map D.int)=(a++b).map D.int:=gC.symm
theorem C3(h:au[n]?=some (.dT (aS ks)))(a:ks.length<=1000000):bf [.ref n] au=.ok (.lst (aJ (aX ks))) au:=by
 rw[UI h (by rw[az];exact a),gi]
 congr 2
 exact congrArg (λl=>aJ (aX l)) (List.map_id ks)
theorem Fi(S:∀r∈ai one other,r.length<=6/\r.sum<=16)(hl:one.length*other.length<=1000000)(Q:(aP (ai one other)).length<=1000000):
  ∃g,nL [aK one,aK other] au=.ok (aK (aQ (ai one other))) (au++g):=by
 have m:∀(a:List Int) (c:List (List Int)) (v w:Option D),a∈one->c.Nodup->c.length+other.length<=1000000->∃h f,dk (gN 4) (aD (aF 5 (aU aO (aA 3) (aA 4)))
   (aD (ft (gw (dY (aE oy (aB (aA 5) aC)))) eD fK) (bq (aE gP (aB (aA 2) (aB (aA 5) aC)))))) (aJ other) [some (aK one),some (aK other),some (.ref au.length),some (aL a),v,w] (au++[.dT (aS c)])
   = .ok (.nx [some (aK one),some (aK other),some (.ref au.length),some (aL a),h,f]) (au++[.dT (aS ((other.map (a++·)).foldl aR c))]):=λa c v w p U Y=>by
  have W:=p7 (bd:=gN 4) (body:=aD (aF 5 (aU aO (aA 3) (aA 4))) (aD (ft (gw (dY (aE oy (aB (aA 5) aC)))) eD fK) (bq (aE gP (aB (aA 2) (aB (aA 5) aC))))))
   (xs:=aJ other) (σ:=[some (aK one),some (aK other),some (.ref au.length),some (aL a),v,w]) (au:=au++[.dT (aS c)])
   (λj l s=>(∃h f,l=[some (aK one),some (aK other),some (.ref au.length),some (aL a),h,f])/\s=au++[.dT (aS (((other.take j).map (a++·)).foldl aR c))]) ⟨⟨v,w,rfl⟩,rfl⟩ (by
    rintro j y l s z ⟨⟨h,f,rfl⟩,rfl⟩;obtain⟨b,E,rfl⟩:=zu z;have t:a++b∈ai one other:=TW.mpr ⟨a,p,b,db E,rfl⟩;obtain⟨C,X⟩:=S _ t;have G:=J2 (au:=au++[.dT (aS (((other.take j).map (a++·)).foldl aR c))]) (r:=a++b);rw[eK C,eK X] at G;have I:(au++[O.dT (aS (((other.take j).map (a++·)).foldl aR c))])[au.length]?=some (.dT (aS (((other.take j).map (a++·)).foldl aR c))):=by simp
    have d:(((other.take j).map (a++·)).foldl aR c).length<=1000000:=by
     have q:=Dh ((other.take j).map (a++·)) c U;have H:(other.take j).length<=other.length:=by rw[fj];exact ko _ _
     rw[az] at q;lia
    have o:=uB (k:=a++b) I d;have R:aO (aL a) (aL b) (au++[.dT (aS (((other.take j).map (a++·)).foldl aR c))])=.ok (aL (a++b)) (au++[.dT (aS (((other.take j).map (a++·)).foldl aR c))]):=by
     rw[sr,if_pos,yA];rw[az,az];rw[cx] at C;exact am _ (by lia)
    have P:(au++[O.dT (aS (((other.take j).map (a++·)).foldl aR c))]).set au.length (.dT (aS (aR (((other.take j).map (a++·)).foldl aR c) (a++b))))=au++[.dT (aS (((other.take (j+1)).map (a++·)).foldl aR c))]:=by
     rw[zg E,gC,kr];simp
    rw[P] at o;refine⟨[some (aK one),some (aK other),some (.ref au.length),some (aL a),some (aL b),f],[some (aK one),some (aK other),some (.ref au.length),some (aL a),some (aL b),some (aL (a++b))],au++[.dT (aS (((other.take (j+1)).map (a++·)).foldl aR c))],rfl,?_,⟨_,_,rfl⟩,rfl⟩;refine eT (σ1:=[some (aK one),some (aK other),some (.ref au.length),some (aL a),some (aL b),some (aL (a++b))]) (st1:=au++[.dT (aS (((other.take j).map (a++·)).foldl aR c))]) ?_ ?_
    ·rw[xK,wF];show(aO (aL a) (aL b) _).bind _=_;rw[R]
     rfl
    ·refine eT (σ1:=[some (aK one),some (aK other),some (.ref au.length),some (aL a),some (aL b),some (aL (a++b))]) (st1:=au++[.dT (aS (((other.take j).map (a++·)).foldl aR c))]) ?_ ?_
     ·rw[k9,rS,um,jF];show((((oy [aL (a++b)] _).bind _).bind _).bind _)=_;rw[G]
      rfl
     ·rw[Cc,jF];show((gP [.ref au.length,aL (a++b)] _).bind _)=_;rw[o]
      rfl)
  obtain⟨A,x,e,⟨h,f,rfl⟩,rfl⟩:=W;rw[zd,eQ] at e;exact⟨h,f,e⟩
 have W:=p7 (bd:=gN 3) (body:=bz (aH (aA 1)) (gN 4) (aD (aF 5 (aU aO (aA 3) (aA 4))) (aD (ft (gw (dY (aE oy (aB (aA 5) aC)))) eD fK) (bq (aE gP (aB (aA 2) (aB (aA 5) aC)))))))
  (xs:=aJ one) (σ:=[some (aK one),some (aK other),some (.ref au.length),none,none,none]) (au:=au++[.dT []])
  (λi l s=>(∃u v w,l=[some (aK one),some (aK other),some (.ref au.length),u,v,w])/\s=au++[.dT (aS (aP (ai (one.take i) other)))]) ⟨⟨none,none,none,rfl⟩,rfl⟩ (by
   rintro i y l s z ⟨⟨u,v,w,rfl⟩,rfl⟩;obtain⟨a,p,rfl⟩:=zu z;have T:i<one.length:=(cn.mp p).1;have d:(aP (ai (one.take i) other)).length+other.length<=1000000:=by
    have q:=zx (ai (one.take i) other);rw[wA] at q;have H:(one.take i).length=i:=by rw[fj];lia
    rw[H] at q;have J:(i+1)*other.length<=one.length*other.length:=Ow _ T;rw[Do] at J;lia
   obtain⟨h,f,e⟩:=m a (aP (ai (one.take i) other)) v w (db p) (qi _) d;refine⟨[some (aK one),some (aK other),some (.ref au.length),some (aL a),v,w],[some (aK one),some (aK other),some (.ref au.length),some (aL a),h,f],au++[.dT (aS (aP (ai (one.take (i+1)) other)))],rfl,?_,⟨_,_,_,rfl⟩,rfl⟩;have o:(other.map (a++·)).foldl aR (aP (ai (one.take i) other))=aP (ai (one.take (i+1)) other):=by
    rw[zg p,RS];unfold aP;rw[kr]
   rw[o] at e;rw[vJ];show dk _ _ (aJ other) _ _=_
   exact e)
 obtain⟨A,x,e,⟨u,v,w,rfl⟩,rfl⟩:=W;rw[zd,eQ] at e;refine⟨[.dT (aS (aP (ai one other)))],iN rfl ?_⟩;refine eT (σ1:=[some (aK one),some (aK other),some (.ref au.length),none,none,none]) (st1:=au++[.dT []]) (by simp) ?_;refine eT (σ1:=[some (aK one),some (aK other),some (.ref au.length),u,v,w]) (st1:=au++[.dT (aS (aP (ai one other)))]) ?_ ?_
 ·rw[vJ];exact e
 ·have o:=C3 (au:=au++[.dT (aS (aP (ai one other)))]) (n:=au.length) (ks:=aP (ai one other)) (by simp) Q;rw[p8,jF,oC,jF];show((((bf [.ref au.length] _).bind _).bind _).bind _)=_;rw[o]
  rfl
end Dd
namespace K07
open L2
noncomputable def f9(e k:Int):Bool:=decide (V.int (Builtin.bitAnd e k)=V.int k)
theorem TD(a b:Nat):Builtin.bitAnd (a:Int) (b:Int)=((a&&&b:Nat):Int):=rfl
theorem Mx(a b:Nat):f9 a b=decide (a&&&b=b):=by
 unfold f9;rw[TD];by_cases h:a&&&b=b
 ·rw[h];simp
 ·rw[dM h];refine dM λe=>h ?_
  injection e with e
  exact_mod_cast e
end K07
namespace K23
open L2 K07
noncomputable def fZ(a b c:Int):List Int:=if 0<c then[a+b-c,c] else[a+b]
def ap(a b:Int) (n:Nat):List (List Int):=((List.range n).filter λ(c:Nat)=>f9 (b-c-1) (a-2*c)).map λ(c:Nat)=>fZ a b c
theorem Rh{a b:Int}{n:Nat}(h:f9 (b-n-1) (a-2*n)=true):ap a b (n+1)=ap a b n++[fZ a b n]:=by
 unfold ap;rw[va,mN,gC];simp[DB,h]
theorem QA{a b:Int}{n:Nat}(h:¬ f9 (b-n-1) (a-2*n)=true):ap a b (n+1)=ap a b n:=by
 unfold ap;rw[va,mN];simp[DB,h]
theorem rx(a b:Int)(n:Nat):(ap a b n).length<=n:=by
 unfold ap;rw[az];exact ay (vr _ _) (by simp)
end K23
namespace Dd
open L2 K07 K23
theorem Uv:CT [.int e,.int k] au=.ok (.bl (f9 e k)) au:=by
 refine iN rfl ?_;have:decide (Builtin.bitAnd e k=k)=f9 e k:=by
  unfold f9;rw[mJ];simp
 simp[this]
theorem Uq:oN [.int i] au=.ok (.bl true) au:=rfl
theorem L4:Dc [.int a,.int b] au=.ok (.bl (decide (a<2*b))) au:=by
 refine iN rfl ?_;have m:eN 2 b:=.inl ⟨by decide,by decide⟩;simp[m]
theorem FH(r:List Int):(r.map D.int).length=r.length:=az _
theorem qd{r:List Int}{i:Nat}{x:Int}(h:r[i]?=some x):cL (aL r) (.int i) au=.ok (.int x) au:=lR rfl (B1 (by rw[fq,h];rfl))
theorem P9:cZ [aL r] au=.ok (.int r.length) au:=by show bJ.ok (D.int ((r.map D.int).length:Nat)) au=_;rw[az]
theorem Vn(P:1<=a)(q:a<=60)(J:-1000<=b)(I:b<=1000):∃g,wB [.int a,.int b] au=.ok (.lst (aJ (aX (ap a b (a/2+1).toNat)))) (au++g):=by
 have W:=p7 (bd:=gN 3) (body:=FV) (xs:=rng 0 (a/2+1).toNat) (σ:=[some (.int a),some (.int b),some (.ref au.length),none]) (au:=au++[.lst []])
  (λi o s=>(∃v,o=[some (.int a),some (.int b),some (.ref au.length),v])/\s=au++[.lst (aJ (ap a b i))]) ⟨⟨none,rfl⟩,rfl⟩ (by
   rintro i y o s G ⟨⟨v,rfl⟩,rfl⟩;obtain⟨Q,rfl⟩:=BR G;have t:i<=60:=by lia
   have R:=rx a b i;have m:eN 2 (0+(i:Int)):=.inl ⟨by decide,by decide⟩;have h:=Uv (au:=au++[.lst (aJ (ap a b i))]) (e:=b-(0+(i:Int))-1) (k:=a-2*(0+(i:Int)));have l:(au++[O.lst (aJ (ap a b i))])[au.length]?=some (.lst (aJ (ap a b i))):=by simp
   have p:=oD l;have f:(aJ (ap a b i)).length<sizeLine:=by rw[zd];exact cQ _ (by lia)
   have r:=am 1 (by lia);have x:=am 2 (by lia);refine⟨[some (.int a),some (.int b),some (.ref au.length),some (.int (0+i))],[some (.int a),some (.int b),some (.ref au.length),some (.int (0+i))],au++[.lst (aJ (ap a b (i+1)))],rfl,?_,⟨_,rfl⟩,rfl⟩;unfold FV;rw[qr] at *
   by_cases c:f9 (b-i-1) (a-2*i)=true
   ·rw[Rh c];rw[c] at h;by_cases c2:0<i
    ·have n:fZ a b i=[a+b-i,(i:Int)]:=by unfold fZ;rw[if_pos (by lia)]
     have d:(ap a b i).length<sizeLine:=by rw[zd] at f;exact f
     simp[h,m,p,d,c2,x,n,lu,aJ]
    ·have C:i=0:=by lia
     subst C;have n:fZ a b 0=[a+b]:=by unfold fZ;rw[if_neg (by lia)]
     have d:(ap a b 0).length<sizeLine:=by rw[zd] at f;exact f
     simp at h m;simp[h,m,p,d,r,n,lu,aJ]
   ·have z:f9 (b-i-1) (a-2*i)=false:=by simpa using c
    rw[QA c];rw[z] at h
    simp[h,m,lu])
 obtain⟨H,E,e,⟨v,rfl⟩,rfl⟩:=W;rw[mw] at e;refine⟨[.lst (aJ (ap a b (a/2+1).toNat))],iN rfl ?_⟩;have u:gp a 2:=⟨by decide,by decide +kernel⟩
 have w:cO (a/2+1):=mV (by lia) (by lia);have j:(ap a b (a/2+1).toNat).length<=1000000:=by have:=rx a b (a/2+1).toNat;lia
 have l:(au++[O.lst (aJ (ap a b (a/2+1).toNat))])[au.length]?=some (.lst (aJ (ap a b (a/2+1).toNat))):=by simp
 have A:bf [.ref au.length] (au++[.lst (aJ (ap a b (a/2+1).toNat))])=.ok (.lst (aJ (aX (ap a b (a/2+1).toNat)))) (au++[.lst (aJ (ap a b (a/2+1).toNat))]):=by
  unfold bf;simp[oD l,j]
 simp[u,w,e,A]
noncomputable def bg(r:List Int) (p:Nat):Prop:=∃a b:Int,r[p]?=some a/\r[p+1]?=some b/\a<2*b
instance (r:List Int) (p:Nat):Decidable (bg r p):=
 match h1:r[p]?,h2:r[p+1]? with
 |some a,some b=>if h:a<2*b then .isTrue ⟨a,b,h1,h2,h⟩ else .isFalse λ⟨x,y,e1,e2,e3⟩=>by rw[h1] at e1;rw[h2] at e2;cases e1;cases e2;exact h e3
 |none,_=>.isFalse λ⟨x,y,e1,_⟩=>by rw[h1] at e1;cases e1
 |some _,none=>.isFalse λ⟨x,y,_,e2,_⟩=>by rw[h2] at e2;cases e2
theorem RP{r:List Int}{p:Int}:oM [aL r,.int p] au=.ok (.bl (decide (0<=p/\bg r p.toNat))) au:=by
 have m:=Uq (au:=au) (i:=p);have d:=P9 (au:=au) (r:=r);by_cases h:0<=p/\p<r.length-1
 ·obtain⟨k,rfl⟩:∃k:Nat,p=k:=⟨p.toNat,by lia⟩
  have n:k<r.length:=by lia
  have u:k+1<r.length:=by lia
  have f:r[k]?=some r[k]:=dr n;have l:r[k+1]?=some r[k+1]:=dr u;have o:=qd (au:=au) f;have j:=qd (au:=au) l;rw[u4] at j;have q:=L4 (au:=au) (a:=r[k]) (b:=r[k+1]);have v:(r[k]<2*r[k+1])↔bg r k:=⟨λz=>⟨_,_,f,l,z⟩,λ⟨a,b,g,c,z⟩=>by rw[f] at g;rw[l] at c;cases g;cases c;exact z⟩
  refine iN rfl ?_;have s:(k:Int)<r.length-1:=h.2;simp only[aL] at *
  generalize D.tup (r.map D.int)=R at *
  simp[m,d,o,s,lu];simp at j;simp[j,q,v]
 ·have t:¬ (0<=p/\bg r p.toNat):=λe=>by
   obtain⟨z,a,b,g,c,_⟩:=e;have:=(cn.mp c).1;exact h ⟨z,by lia⟩
  refine iN rfl ?_;rw[dM t];simp only[aL] at *
  generalize D.tup (r.map D.int)=R at *
  by_cases z:0<=p
  ·have c:¬ p<(r.length:Int)-1:=λy=>h ⟨z,y⟩
   simp[m,d,z,c,lu]
  ·simp[m,d,z,lu]
def br(r:List Int) (p:Nat):List (List Int):=(aX (ap (r.getD p 0) (r.getD (p+1) 0) (r.getD p 0/2+1).toNat)).map λtwo=>r.take p++two++r.drop (p+2)
theorem R0(r:List Int)(p:Nat):(br r p).length<=(r.getD p 0/2+1).toNat:=by
 unfold br;rw[az,wz];exact rx _ _ _
theorem RU:∀r∈ap a b n,r.length<=2:=λr d=>by
 unfold ap at d;obtain⟨c,_,rfl⟩:=cP.mp d;show(fZ a b c).length<=2;unfold fZ;split<;>simp
theorem Rb{a b:List Int}(h:a.length+b.length<=1000000):aO (aL a) (aL b) au=.ok (aL (a++b)) au:=by
 rw[sr,if_pos (by rw[az,az];exact am _ h),yA]
theorem xV(r:List Int)(k:Nat):cutD (r.map .int) none (some (k:Int))=(r.take k).map .int:=by rw[oY,List.map_take]
theorem QU(r:List Int)(k:Nat):cutD (r.map .int) (some (k:Int)) none=(r.drop k).map .int:=by rw[Qg,List.map_drop]
theorem Sg{r:List Int}{p:Nat}(P:p+1<r.length)(T:r.length<=100)(C:1<=r.getD p 0)(k:r.getD p 0<=60)(t:-1000<=r.getD (p+1) 0)(o:r.getD (p+1) 0<=1000):
  ∃g,rR [aL r,.int p] au=.ok (.lst (aJ (br r p))) (au++g):=by
 have u:r[p]?=some (r.getD p 0):=by rw[dO,dr (by lia)];rfl
 have I:r[p+1]?=some (r.getD (p+1) 0):=by rw[dO,dr (by lia)];rfl
 generalize hA:r.getD p 0=a at *
 generalize hB:r.getD (p+1) 0=b at *
 obtain⟨g,e⟩:=Vn (au:=au) C k t o;have S:(aX (ap a b (a/2+1).toNat)).length<=100:=by
  rw[wz];have:=rx a b (a/2+1).toNat;lia
 have W:=uy (bd:=gN 0) (c:=aI) (f:=aU aO (aU aO (aA 2) (aA 0)) (aA 1)) (xs:=aJ (aX (ap a b (a/2+1).toNat))) (σ:=[none,some (aL (r.drop (p+2))),some (aL (r.take p))]) (au:=au++g)
  (λi h n s=>s=au++g/\(∃v,n=[v,some (aL (r.drop (p+2))),some (aL (r.take p))])/\h=aJ (((aX (ap a b (a/2+1).toNat)).take i).map λtwo=>r.take p++two++r.drop (p+2))) ⟨rfl,⟨none,rfl⟩,rfl⟩ (by
   rintro i y h n s G ⟨rfl,⟨v,rfl⟩,rfl⟩;obtain⟨two,q,rfl⟩:=zu G;have Q:two.length<=2:=RU two ((ze _).mem_iff.mp (db q));have X:(r.take p).length<=100:=by rw[fj];lia
   have U:(r.drop (p+2)).length<=100:=by rw[py];lia
   have x:=Rb (au:=au++g) (a:=r.take p) (b:=two) (by lia);have j:=Rb (au:=au++g) (a:=r.take p++two) (b:=r.drop (p+2)) (by rw[cx];lia);refine⟨[some (aL two),some (aL (r.drop (p+2))),some (aL (r.take p))],true,au++g,rfl,rfl,.inr ⟨rfl,aL (r.take p++two++r.drop (p+2)),au++g,?_,rfl,⟨_,rfl⟩,?_⟩⟩
   ·show(aO (aL (r.take p)) (aL two) (au++g)).bind _=_;rw[x];exact j
   ·rw[zg q,gC]
    simp[aJ])
 obtain⟨J,H,E,j,rfl,_,rfl⟩:=W;rw[zd,eQ] at j;refine⟨g,iN rfl ?_⟩;have d:(aJ (aX (ap a b (a/2+1).toNat))).length<=sizeLine:=by rw[zd];exact am _ (by lia)
 have z:=qd (au:=au) u;have l:=qd (au:=au) I;rw[u4] at l;have w:=xV r p;have m:=QU r (p+2);rw[u4] at m;refine eT (σ1:=[some (aL r),some (.int p),some (aL (r.take p)),none]) (st1:=au) (by simp[w]) ?_;refine eT (σ1:=[some (aL r),some (.int p),some (aL (r.take p)),some (aL (r.drop (p+2)))]) (st1:=au) ?_ ?_
 ·simp at m;simp[m]
 ·have A:aH (aE wB (aB (aU cL (aA 0) (aA 1)) (aB (aU cL (aA 0) (aU aO (aA 1) (eC (.int 1)))) aC))) [some (aL r),some (.int p),some (aL (r.take p)),some (aL (r.drop (p+2)))] au=.ok (aJ (aX (ap a b (a/2+1).toNat))) (au++g):=by
   simp only[aL] at *
   generalize D.tup (r.map D.int)=R at *
   simp at l;simp[z,l,e]
  rw[p8,rf,A,zw,if_pos d];show((bN _ _ _ _ [none,some (aL (r.drop (p+2))),some (aL (r.take p))] _).bind _).bind _=_;rw[j];unfold br;rw[hA,hB]
  rfl
theorem Uo{l a:List (List Int)}(h:a.Nodup):(l.foldl aR a).Nodup:=(qe l a h).1
theorem NH{l a:List (List Int)}(h:a.Nodup):aX (l.foldl aR a)=aQ (a++l):=by
 refine vS (Uo h) λx=>?_
 rw[(qe l a h).2.2,qx,yU h];by_cases e:x∈a<;>simp[e]<;>lia
theorem UW{l:List (List Int)}(o:l.Nodup)(p:l.length<=1000000):CZ [aK l] au=.ok (.ref au.length) (au++[.dT (aS l)]):=by
 have W:=p7 (bd:=gN 2) (body:=uS) (xs:=aJ l) (σ:=[some (aK l),some (.ref au.length),none]) (au:=au++[.dT []])
  (λi c s=>(∃v,c=[some (aK l),some (.ref au.length),v])/\s=au++[.dT (aS (l.take i))]) ⟨⟨none,rfl⟩,rfl⟩ (by
   rintro i y c s h ⟨⟨v,rfl⟩,rfl⟩;obtain⟨k,a,rfl⟩:=zu h;have f:(au++[O.dT (aS (l.take i))])[au.length]?=some (.dT (aS (l.take i))):=by simp
   have q:=(cn.mp a).1;have d:k∉l.take i:=λz=>by
    have e:(l.take (i+1)).Nodup:=(DL (i+1) l).nodup o;rw[zg a,sP] at e;exact e.2.2 k z k (by simp) rfl
   have b:(aS (l.take i)).length<sizeLine:=by
    rw[az,fj];exact cQ _ (by lia)
   have m:=rq k;have n:=Fu d;refine⟨[some (aK l),some (.ref au.length),some (aL k)],[some (aK l),some (.ref au.length),some (aL k)],au++[.dT (aS (l.take (i+1)))],rfl,?_,⟨_,rfl⟩,rfl⟩;rw[zg a,←n];unfold uS;simp only[aL] at *
   rw[EN];simp only[tP,zw,se,zI,OF,m,f,b,h8]
   simp)
 obtain⟨j,g,e,⟨v,rfl⟩,rfl⟩:=W;rw[zd,eQ] at e;refine iN rfl ?_;refine eT (σ1:=[some (aK l),some (.ref au.length),none]) (st1:=au++[.dT []]) (by simp) ?_;refine eT (σ1:=[some (aK l),some (.ref au.length),v]) (st1:=au++[.dT (aS l)]) (by rw[vJ];exact e) rfl
theorem Nm{r:List Int}(h:r.length<=1000000)(l:DS):aG (aH (aA 1)) 1 [] (gN 0) aI (aE oN (aB (aA 0) aC)) [some τ0,some (aL r)] au=.ok (.lst (r.map λ_=>D.bl true)) au:=by
 have W:=uy (bd:=gN 0) (c:=aI) (f:=aE oN (aB (aA 0) aC)) (xs:=r.map D.int) (σ:=[none]) (au:=au)
  (λi b d s=>s=au/\(∃v,d=[v])/\b=(r.take i).map λ_=>D.bl true) ⟨rfl,⟨none,rfl⟩,rfl⟩ (by
   rintro i y b d s a ⟨rfl,⟨v,rfl⟩,rfl⟩;rw[fq] at a;cases hx:r[i]? with
   |none=>rw[hx] at a;cases a
   |some x=>
    rw[hx] at a;cases a;refine⟨[some (.int x)],true,s,rfl,rfl,.inr ⟨rfl,.bl true,s,rfl,rfl,⟨_,rfl⟩,?_⟩⟩;rw[zg hx]
    simp)
 obtain⟨k,j,g,e,rfl,_,rfl⟩:=W;rw[FH,eQ] at e;rw[rf];show(if(r.map D.int).length<=sizeLine then _ else _)=_;rw[if_pos (by rw[FH];exact am _ h)];show((bN _ _ _ _ [none] _).bind _)=_;rw[e]
 rfl
theorem UH(r:List Int):cU (r.map λ_=>D.bl true)=some (r.map λ_=>true):=by
 induction r with
 |nil=>rfl
 |cons a r ih=>rw[cf,cU,ih];rfl
theorem U0(h:au[n]?=some (.dT (aS ks)))(b:r∈ks)(e:r.length<=1000000):wu [.ref n,aL r] au=.ok (.bl true) au:=by
 refine iN rfl ?_;have i:=Nm (au:=au) (τ0:=.ref n) e [];have a:=yt (k:=r) (CB h);rw[Fy,if_pos b] at a;have d:jb true [.lst (r.map λ_=>D.bl true)] au=.ok (.bl true) au:=by
  unfold jb;simp[UH]
 have c:aE fi (aB (aA 1) (aB (eC (.ty "tuple")) aC)) [some (.ref n),some (aL r)] au=.ok (.bl true) au:=rfl
 have g:aE (jb true) (aB (aG (aH (aA 1)) 1 [] (gN 0) aI (aE oN (aB (aA 0) aC))) aC) [some (.ref n),some (aL r)] au=.ok (.bl true) au:=by
  rw[jF,oC,i];exact d
 have f:aU (i3 false) (aA 1) (aA 0) [some (.ref n),some (aL r)] au=.ok (.bl true) au:=a;show aY _ [some (.ref n),some (aL r)] au=_;rw[p8,sd,c,zw];show(i9 _ _ [some (.ref n),some (aL r)] au).bind _=_;rw[sd,g,zw];show(aU (i3 false) (aA 1) (aA 0) [some (.ref n),some (aL r)] au).bind _=_;rw[f]
 rfl
theorem Vb(h:au[n]?=some (.dT (aS ks)))(R:ks.Nodup)(X:ks.length<=500000)(E:r∈ks)(T:r.length<=100)(u:bg r p)
  (H:1<=r.getD p 0)(l:r.getD p 0<=60)(x:-1000<=r.getD (p+1) 0)(q:r.getD (p+1) 0<=1000):
  ∃g,C7 [.ref n,aL r,.int p] au=.ok .non ((au.set n (.dT (aS ((r::br r p).foldl aR ks))))++g):=by
 have Q:p+1<r.length:=by
  obtain⟨a,b,_,z,_⟩:=u;exact(cn.mp z).1
 have j:=zh h;have C:=U0 h E (by lia);have t:=RP (au:=au) (r:=r) (p:=p);rw[eK (p:=0<=(p:Int)/\bg r (p:Int).toNat) ⟨by lia,by rw[nW];exact u⟩] at t;have G:=uB (k:=r) h (by lia);obtain⟨g,A⟩:=Sg (au:=au.set n (.dT (aS (aR ks r)))) Q T H l x q;have Y:=R0 r p;have m:=qj (k:=r) R;have J:=R1 ks r;have W:=p7 (bd:=gN 3) (body:=FR) (xs:=aJ (br r p)) (σ:=[some (.ref n),some (aL r),some (.int p),none]) (au:=au.set n (.dT (aS (aR ks r)))++g)
  (λi d s=>(∃v,d=[some (.ref n),some (aL r),some (.int p),v])/\s=au.set n (.dT (aS (((br r p).take i).foldl aR (aR ks r))))++g) ⟨⟨none,rfl⟩,rfl⟩ (by
   rintro i y d s P ⟨⟨v,rfl⟩,rfl⟩;obtain⟨k,o,rfl⟩:=zu P;have f:(au.set n (.dT (aS (((br r p).take i).foldl aR (aR ks r))))++g)[n]?=some (.dT (aS (((br r p).take i).foldl aR (aR ks r)))):=by
    rw[eR (by rw[gR];exact j),kR j]
   have c:(((br r p).take i).foldl aR (aR ks r)).length<=1000000:=by
    have:=Dh ((br r p).take i) (aR ks r) m;rw[fj] at this;lia
   have w:=uB (k:=k) f c;have S:(au.set n (.dT (aS (((br r p).take i).foldl aR (aR ks r))))++g).set n (.dT (aS (aR (((br r p).take i).foldl aR (aR ks r)) k)))=au.set n (.dT (aS (((br r p).take (i+1)).foldl aR (aR ks r))))++g:=by
    rw[zg o,kr,List.set_append_left _ _ (by rw[gR];exact j),M9]
    rfl
   rw[S] at w;refine⟨[some (.ref n),some (aL r),some (.int p),some (aL k)],[some (.ref n),some (aL r),some (.int p),some (aL k)],_,rfl,?_,⟨_,rfl⟩,rfl⟩;unfold FR;rw[Cc,jF];show((gP [.ref n,aL k] _).bind _)=_;rw[w]
   rfl)
 obtain⟨U,I,e,⟨v,rfl⟩,rfl⟩:=W;rw[zd,eQ] at e;refine⟨g,rL (σ:=[some (.ref n),some (aL r),some (.int p),v]) rfl ?_⟩;refine eT (σ1:=[some (.ref n),some (aL r),some (.int p),none]) (st1:=au) ?_ ?_
 ·rw[k9,rS,um,jF];show((((wu [.ref n,aL r] au).bind _).bind _).bind _)=_;rw[C]
  rfl
 refine eT (σ1:=[some (.ref n),some (aL r),some (.int p),none]) (st1:=au) ?_ ?_
 ·rw[k9,rS,um,jF];show((((oM [aL r,.int p] au).bind _).bind _).bind _)=_;rw[t]
  rfl
 refine eT (σ1:=[some (.ref n),some (aL r),some (.int p),none]) (st1:=au.set n (.dT (aS (aR ks r)))) ?_ ?_
 ·rw[Cc,jF];show((gP [.ref n,aL r] au).bind _)=_;rw[G]
  rfl
 ·rw[vJ,xj,jF];show((((rR [aL r,.int p] _).bind _)).bind _)=_;rw[A];exact e
structure je (f:Nat->D) (kvs:List (List Int×D)) (l:List (List Int)):Prop where
 nd:(kvs.map (·.1)).Nodup
 mem:∀k,k∈kvs.map (·.1)↔k∈l
 val:∀p∈kvs,p.2=f (l.count p.1)
 len:kvs.length<=l.length
theorem je.nil(f:Nat->D):je f [] []:=⟨mI,λk=>by simp,λp h=>(by cases h),by simp⟩
theorem je.at(h:je f b l)(k:List Int):cW b k=if k∈l then some (f (l.count k)) else none:=by
 have d:∀b:List (List Int×D),(∀p∈b,p.2=f (l.count p.1))->cW b k=if k∈b.map (·.1) then some (f (l.count k)) else none:=by
  intro b
  induction b with
  |nil=>intro _;rfl
  |cons a b c=>
   intro g;have c:=c λp i=>g p (cr _ i)
   unfold cW at c ⊢;rw[lZ];by_cases e:a.1=k
   ·have:=g a dS;simp only[e,qo,Option.map_some,cf,bU,true_or,h8];rw[this,e]
   ·simp only[dM e];rw[c];simp only[cf,bU,show ¬ k=a.1 from λz=>e z.symm,false_or]
 rw[d b h.val];simp only[h.mem]
theorem je.put(h:je f kvs l)(k:List Int):je f (iZ kvs k (f (l.count k+1))) (l++[k]):=by
 have any:(kvs.any λd=>decide (d.1=k))=decide (k∈l):=by
  rw[mJ,qw,←h.mem,List.any_eq_true,cP];constructor
  ·rintro⟨x,m,e⟩;exact⟨x,m,by simpa using e⟩
  ·rintro⟨p,hp,e⟩;exact⟨p,hp,by simpa using e⟩
 unfold iZ;rw[any];by_cases hk:k∈l
 ·rw[if_pos (by simpa using hk)];have c:(kvs.map λd=>if d.1=k then(d.1,f (l.count k+1)) else d).map (·.1)=kvs.map (·.1):=by
   rw[gi]
   congr 1
   funext p
   dsimp only[Function.comp];split<;>rfl
  refine⟨by rw[c];exact h.nd,λx=>?_,λp hp=>?_,?_⟩
  ·rw[c,h.mem,eO,fJ];exact⟨.inl,λz=>z.elim id λe=>e ▸ hk⟩
  ·obtain⟨q,o,rfl⟩:=cP.mp hp;have:=h.val q o;by_cases e:q.1=k
   ·rw[if_pos e];dsimp only;rw[e,qx];simp
   ·rw[if_neg e,this,qx];have:List.count q.1 [k]=0:=by rw[vg];simpa using e
    rw[this];rfl
  ·rw[az,cx];have:=h.len;lia
 ·rw[if_neg (by simpa using hk)];refine⟨?_,λx=>?_,λp hp=>?_,?_⟩
  ·rw[gC,sP];refine⟨h.nd,by simp,λa i b g=>?_⟩;simp at g;subst g;exact λe=>hk ((h.mem _).mp (e ▸ i))
  ·rw[gC,eO,h.mem,eO];simp
  ·rcases eO.mp hp with hp|hp
   ·have n:=h.val p hp;have j:p.1≠k:=λe=>hk ((h.mem _).mp (e ▸ cP.mpr ⟨p,hp,rfl⟩))
    rw[n,qx];have:List.count p.1 [k]=0:=by rw[vg];simpa using j
    rw[this];rfl
   ·simp at hp;subst hp;rw[qx,vg.mpr hk];simp
  ·rw[cx,cx];have:=h.len;simp;exact this
noncomputable def lC(n:Nat):D:=.bl (decide (n%2=1))
theorem N1(n:Nat):lC (n+1)=.bl (!decide (n%2=1)):=by
 unfold lC
 congr 1
 by_cases h:n%2=1
 ·rw[eK h,dM (by lia)];rfl
 ·rw[dM h,eK (by lia)];rfl
theorem C0(X:fY x=some (aJ l))(hl:l.length<=1000000)(j:(aP l).length<=1000000):∃g,oO [x] au=.ok (aK (aQ l)) (au++g):=by
 have W:=p7 (bd:=gN 2) (body:=FM) (xs:=aJ l) (σ:=[some x,some (.ref au.length),none]) (au:=au++[.dT []])
  (λi d s=>∃(v:Option D) (a:List (List Int×D)),d=[some x,some (.ref au.length),v]/\s=au++[.dT a]/\je lC a (l.take i)) ⟨none,[],rfl,rfl,je.nil _⟩ (by
   rintro i y d s C ⟨v,a,rfl,rfl,b⟩;obtain⟨k,n,rfl⟩:=zu C;have A:=b.put k;have r:(au++[O.dT a])[au.length]?=some (.dT a):=by simp
   have m:(cW a k).getD (.bl false)=.bl (decide ((l.take i).count k%2=1)):=by
    rw[b.at];split
    ·rfl
    ·rename_i z;rw[vg.mpr z];rfl
   have u:=rq k;have P:=CB r;have E:a.length<sizeLine:=by
    have h1:=b.len;have h2:(l.take i).length<=l.length:=by rw[fj];exact ko _ _
    exact cQ _ (by lia)
   refine⟨[some x,some (.ref au.length),some (aL k)],[some x,some (.ref au.length),some (aL k)],au++[.dT (iZ a k (lC ((l.take i).count k+1)))],rfl,?_,some (aL k),_,rfl,rfl,by rw[zg n];exact A⟩;rw[N1];unfold FM;simp only[aL] at *
   simp only[EN,xh,L0,se,tP,zI,OF,zw,P,u,m,r,E,h8]
   simp)
 obtain⟨Y,R,e,v,a,rfl,rfl,b⟩:=W;rw[zd,eQ] at b;have V:=uy (bd:=gN 0) (c:=dY (aU fv (aA 1) (aA 0))) (f:=aA 0) (xs:=aJ (a.map (·.1))) (σ:=[none,some (.ref au.length)]) (au:=au++[.fT a])
  (λi q d s=>s=au++[.fT a]/\(∃w:Option D,d=[w,some (.ref au.length)])/\q=aJ (((a.map (·.1)).take i).filter λk=>decide (l.count k%2=1))) ⟨rfl,⟨none,rfl⟩,rfl⟩ (by
   rintro i y q d s C ⟨rfl,⟨w,rfl⟩,rfl⟩;obtain⟨k,n,rfl⟩:=zu C;have r:(au++[O.fT a])[au.length]?=some (.fT a):=by simp
   have G:k∈l:=(b.mem k).mp (db n);have m:cW a k=some (lC (l.count k)):=by rw[b.at,if_pos G]
   have u:fv (.ref au.length) (aL k) (au++[O.fT a])=.ok (lC (l.count k)) _:=Mu (MD r) m;refine⟨[some (aL k),some (.ref au.length)],decide (l.count k%2=1),au++[.fT a],rfl,?_,?_⟩
   ·rw[um];show((fv (.ref au.length) (aL k) (au++[O.fT a])).bind _)=_;rw[u]
    rfl
   ·by_cases j:l.count k%2=1
    ·refine .inr ⟨eK j,aL k,_,rfl,rfl,⟨_,rfl⟩,?_⟩;rw[zg n,mN];simp[j,aJ]
    ·refine .inl ⟨dM j,rfl,⟨_,rfl⟩,?_⟩;rw[zg n,mN]
     simp[j,aJ])
 obtain⟨ys,S,Q,m,rfl,⟨w,rfl⟩,rfl⟩:=V;rw[zd,eQ] at m;refine⟨[.fT a],iN rfl ?_⟩;have I:((a.map (·.1)).filter λk=>decide (l.count k%2=1)).Nodup:=b.nd.filter _;have H:∀k,k∈((a.map (·.1)).filter λk=>decide (l.count k%2=1))↔l.count k%2=1:=λk=>by
  rw[fH,b.mem,qw];refine⟨λh=>h.2,λh=>⟨?_,h⟩⟩;rcases Om (l.count k) with z|z
  ·rw[z] at h;cases h
  ·exact y6.mp z
 have E:aX ((a.map (·.1)).filter λk=>decide (l.count k%2=1))=aQ l:=vS I H;have t:((a.map (·.1)).filter λk=>decide (l.count k%2=1)).length<=1000000:=by
  have p:=C2 I (qi l) λk=>by rw[H,rm]
  rw[p.length_eq];exact j
 have J:=UJ (au:=au++[.fT a]) t;rw[E] at J;have o:(aJ (a.map (·.1))).length<=sizeLine:=by
  rw[zd,az];exact am _ (by have:=b.len;lia)
 refine eT (σ1:=[some x,some (.ref au.length),none]) (st1:=au++[.dT []]) (by simp) ?_;refine eT (σ1:=[some x,some (.ref au.length),v]) (st1:=au++[.dT a]) (by simp[X,e]) ?_;have U:aG (iH (aA 1)) 1 [1] (gN 0) (dY (aU fv (aA 1) (aA 0))) (aA 0) [some x,some (.ref au.length),v] (au++[.dT a])=.ok (.lst (aJ ((a.map (·.1)).filter λk=>decide (l.count k%2=1)))) (au++[.fT a]):=by
  rw[rf];have T:iH (aA 1) [some x,some (.ref au.length),v] (au++[.dT a])=.ok (aJ (a.map (·.1))) (au++[.fT a]):=by
   simp
  rw[T,zw,if_pos o];show(bN _ _ _ _ [none,some (.ref au.length)] _).bind _=_;rw[m]
  rfl
 rw[p8,jF,oC,jF,oC,U];simp only[zw,wW,J,TC]
theorem Ca{m:Int}(h:m<=1000):m<2^1000:=Int.lt_of_le_of_lt h (by decide +kernel)
theorem JJ(b:0<j)(a:j<=1000):gp i j:=⟨b,Int.lt_of_le_of_lt a (by decide +kernel)⟩
theorem i4(a:-10000<=j)(b:j<=10000):eN i j:=.inr ⟨by lia,by lia⟩
theorem f6(a:-10000<=j)(b:j<=10000):cO j:=mV (by lia) (by lia)
theorem Nn(b:f σ au=.ok (.ref n) st1)(a:st1[n]?=some (.lst xs0))(c:g σ st1=.ok [y] st2)(e:st2[n]?=some (.lst xs))(d:xs.length<sizeLine):
  bO f g σ au=.ok .non (st2.set n (.lst (xs++[y]))):=by
 rw[Q2,b,zw,oD a];dsimp only;rw[c,zw,e];dsimp only;rw[if_pos d]
structure af (r:List Int) (most:Int) (long:Nat):Prop where
 pos:∀p∈r,1<=p
 sum:r.sum<=most
 len:r.length<=long
theorem zm{r:List Int}(h:∀p∈r,1<=p):0<=r.sum:=by
 induction r with
 |nil=>simp
 |cons a r ih=>
  rw[kl];have:=h a dS;have:=ih λp b=>h p (cr _ b)
  lia
theorem ef.over(d:ef au s n)(j:n<au.length)(h:au.length<=k):ef au (s.set k o) n:=by
 obtain⟨c,x,b,f,e⟩:=d.bag;exact⟨by rw[gR];exact d.len,λi a g=>by rw[dU (by lia)];exact d.keep i a g,c,x,by rw[dU (by lia)];exact b,f,e⟩
theorem EX(a:List D)(y:D):L2.atI (a++[y]) (-1)=some y:=by
 unfold L2.atI kH;rw[cx];have e:((-1:Int)+((a.length+[y].length:Nat):Int)).toNat=a.length:=by simp;lia
 rw[if_neg (by lia),if_pos (by simp;lia),e];simp
theorem TR{n:Nat}{m L:Int}{S:Nat}(eL:L=S)(a2:S<=100)(H:dJ au n)(h0:0<=m)(h1:m<=900):∃r b,wh [.ref n,.int m,.int L] au=.ok (aL r) b/\af r m S/\ef au b n:=by
 have G:n<au.length:=by obtain⟨_,_,e,_⟩:=H;exact zh e
 have B0:dJ (au++[.lst []]) n:=(ef.more H [.lst []]).bag;obtain⟨t,st1,e1,t0,t1,D1,X⟩:=Ce B0 (m:=L+1) (by lia) (Ca (by lia));have k1:st1[au.length]?=some (.lst []):=by rw[D1.keep au.length (by simp) (by lia)];simp
 have W:=p7 (bd:=gN 5) (body:=FN) (xs:=rng 0 t.toNat) (σ:=[some (.ref n),some (.int m),some (.int L),some (.ref au.length),some (.int m),none]) (au:=st1)
  (λi A s=>ef au s n/\au.length<s.length/\∃(r:List Int) (left:Int) (v:Option D),A=[some (.ref n),some (.int m),some (.int L),some (.ref au.length),some (.int left),v]/\left=m-r.sum/\s[au.length]?=some (.lst (r.map .int))/\af r m i)
  ⟨(ef.more H _).trans D1,by rw[X];simp,[],m,none,rfl,by simp,k1,⟨λp h=>(by cases h),by simpa using h0,by simp⟩⟩ (by
   rintro i x A s hx ⟨l,g,r,left,v,rfl,a,u,c⟩;obtain⟨hi,rfl⟩:=BR hx;generalize hI:(0:Int)+(i:Int)=I;unfold FN;have rs:=zm c.pos;have a3:i<200:=by lia
   by_cases hpos:0<left
   ·obtain⟨C,s2,e2,a0,a1,U,l2⟩:=Ce l.bag (m:=3) (by lia) (Ca (by lia));have w:∃q:Int,1<=q/\q<=left/\cL (.lst [.int left,.int (if 5<left then 5 else left),.int (if 2<left then 2 else left)]) (.int C) s2=.ok (.int q) s2:=by
     rcases(show C=0\/C=1\/C=2 by lia) with rfl|rfl|rfl
     ·exact⟨left,by lia,by lia,rfl⟩
     ·exact⟨if 5<left then 5 else left,by split<;>lia,by split<;>lia,rfl⟩
     ·exact⟨if 2<left then 2 else left,by split<;>lia,by split<;>lia,rfl⟩
    obtain⟨q,q1,q2,e3⟩:=w;obtain⟨p,s3,J,b0,b1,Y,l3⟩:=Ce U.bag (m:=q) q1 (Ca (by lia));have R:s2[au.length]?=some (.lst (r.map .int)):=by rw[U.keep au.length g (by lia)];exact u
    have T:s3[au.length]?=some (.lst (r.map .int)):=by rw[Y.keep au.length (by lia) (by lia)];exact R
    have E:=am 3 (by lia);have P:(r.map D.int).length<sizeLine:=by rw[FH];exact cQ _ (by have:=c.len;lia)
    have d:au.length<s3.length:=by lia
    have y:aB (aU aO (eC (.int 1)) (aE lV (aB (aA 0) (aB (aU cL (ip (aB (aA 4) (aB (aE gn (aB (aA 4) (aB (eC (.int 5)) aC))) (aB (aE gn (aB (aA 4) (aB (eC (.int 2)) aC))) aC)))) (aE lV (aB (aA 0) (aB (eC (.int 3)) aC)))) aC)))) aC
      [some (.ref n),some (.int m),some (.int L),some (.ref au.length),some (.int left),some (.int I)] s=.ok [.int (1+p)] s3:=by
     simp[e2,e3,J,E]
    have o:=Nn (f:=aA 3) (σ:=[some (.ref n),some (.int m),some (.int L),some (.ref au.length),some (.int left),some (.int I)]) rfl u y T P;have k:(s3.set au.length (.lst (r.map D.int++[D.int (1+p)])))[au.length]?=some (.lst ((r++[1+p]).map .int)):=by
     rw[kR d,gC];rfl
    have j:cL (.ref au.length) (.int (-1)) (s3.set au.length (.lst (r.map D.int++[D.int (1+p)])))=.ok (.int (1+p)) (s3.set au.length (.lst (r.map D.int++[D.int (1+p)]))):=by
     refine lR (wn k) ?_;rw[gC];exact EX _ _
    refine⟨[some (.ref n),some (.int m),some (.int L),some (.ref au.length),some (.int left),some (.int I)],[some (.ref n),some (.int m),some (.int L),some (.ref au.length),some (.int (left-(1+p))),some (.int I)],s3.set au.length (.lst (r.map D.int++[D.int (1+p)])),rfl,?_,?_,by rw[gR];exact d,r++[1+p],_,_,rfl,?_,k,?_⟩
    ·rw[k9];show(if decide (0<left)=true then _ else _)=_;rw[if_pos (eK hpos)];refine eT (σ1:=[some (.ref n),some (.int m),some (.int L),some (.ref au.length),some (.int left),some (.int I)]) (st1:=s3.set au.length (.lst (r.map D.int++[D.int (1+p)]))) ?_ ?_
     ·rw[Cc,o]
      rfl
     ·simp[j]
    ·exact((l.trans U).trans Y).over G (bj _)
    ·rw[a,gQ];simp;lia
    ·refine⟨λz hz=>?_,?_,?_⟩
     ·rcases eO.mp hz with hz|hz
      ·exact c.pos z hz
      ·simp at hz;lia
     ·rw[gQ];simp;lia
     ·rw[cx];have:=c.len;simp;lia
   ·refine⟨[some (.ref n),some (.int m),some (.int L),some (.ref au.length),some (.int left),some (.int I)],[some (.ref n),some (.int m),some (.int L),some (.ref au.length),some (.int left),some (.int I)],s,rfl,?_,l,g,r,left,_,rfl,a,u,⟨c.pos,c.sum,qA c.len⟩⟩;rw[k9];show(if decide (0<left)=true then _ else _)=_;rw[if_neg (by rw[dM hpos];decide)]
    rfl)
 obtain⟨a4,b,e,l,g,r,left,v,rfl,a,u,c⟩:=W;rw[mw] at c;refine⟨r,b,iN rfl ?_,⟨c.pos,c.sum,by have:=c.len;lia⟩,l⟩;have a5:=am 0 (by lia);have Q:cO t:=f6 (by lia) (by lia);refine eT (σ1:=[some (.ref n),some (.int m),some (.int L),some (.ref au.length),none,none]) (st1:=au++[.lst []]) (by simp) ?_;refine eT (σ1:=[some (.ref n),some (.int m),some (.int L),some (.ref au.length),some (.int m),none]) (st1:=au++[.lst []]) (by simp) ?_;refine eT (σ1:=[some (.ref n),some (.int m),some (.int L),some (.ref au.length),some (.int left),v]) (st1:=b) ?_ ?_
 ·have J:jw (aB (aE lV (aB (aA 0) (aB (aU aO (aA 2) (eC (.int 1))) aC))) aC) [some (.ref n),some (.int m),some (.int L),some (.ref au.length),some (.int m),none] (au++[.lst []])=.ok (rng 0 t.toNat) st1:=by
   simp[e1,Q]
  rw[vJ,J];exact e
 ·rw[p8,jF];show((bE [.ref au.length] b).bind _)=_;rw[FB u]
  rfl
theorem Us{n:Nat}{A m L:Int}{j:Nat}(R:L=j)(v:j<=100)(hA:0<=A)(U:A<=60)(E:dJ au n)(P:0<=m)(Y:m<=900):
  ∃l b,ry [.ref n,.int A,.int m,.int L] au=.ok (aK l) b/\(∀r∈l,af r m j)/\l.Nodup/\(l.length:Int)<=A/\tY l/\ef au b n:=by
 obtain⟨t,st1,H,t0,t1,T,_⟩:=Ce E (m:=A+1) (by lia) (Ca (by lia));have W:=uy (bd:=gN 0) (c:=aI) (f:=aE wh (aB (aA 1) (aB (aA 2) (aB (aA 3) aC)))) (xs:=rng 0 t.toNat) (σ:=[none,some (.ref n),some (.int m),some (.int L)]) (au:=st1)
  (λi e u s=>ef au s n/\(∃w:Option D,u=[w,some (.ref n),some (.int m),some (.int L)])/\∃l:List (List Int),e=aJ l/\(∀r∈l,af r m j)/\l.length=i) ⟨T,⟨none,rfl⟩,[],rfl,λr h=>(by cases h),rfl⟩ (by
   rintro i y e u s hy ⟨d,⟨w,rfl⟩,l,rfl,p,C⟩;obtain⟨r,J,q,Q,S⟩:=TR R v d.bag P Y;refine⟨[some y,some (.ref n),some (.int m),some (.int L)],true,s,rfl,rfl,.inr ⟨rfl,aL r,J,?_,d.trans S,⟨_,rfl⟩,l++[r],by simp[aJ],λz hz=>?_,by simp[C]⟩⟩
   ·simp[q]
   ·rcases eO.mp hz with hz|hz
    ·exact p z hz
    ·simp at hz;subst hz
     exact Q)
 obtain⟨ys,X,a,q,d,_,l,rfl,p,C⟩:=W;rw[mw] at C;obtain⟨g,I⟩:=C0 (au:=a) (x:=.lst (aJ l)) (l:=l) rfl (by lia) (by have:=zx l;lia);refine⟨aQ l,a++g,iN rfl ?_,λr h=>p r (jj h),zr l,by have:=C1 l;lia,CF _,d.trans (.more d.bag g)⟩;have o:cO t:=f6 (by lia) (by lia);have k:(rng 0 t.toNat).length<=sizeLine:=by rw[mw];exact am _ (by lia)
 have G:jw (aB (aE lV (aB (aA 0) (aB (aU aO (aA 1) (eC (.int 1))) aC))) aC) [some (.ref n),some (.int A),some (.int m),some (.int L)] au=.ok (rng 0 t.toNat) st1:=by
  simp[H,o]
 show aY _ [some (.ref n),some (.int A),some (.int m),some (.int L)] au=_;rw[p8,jF,oC,rf,G,zw,if_pos k];show(((((bN _ _ _ _ [none,some (.ref n),some (.int m),some (.int L)] st1).bind _).bind _).bind _).bind _)=_;rw[q];show((oO [.lst (aJ l)] a).bind _)=_;rw[I]
 rfl
end Dd
namespace Dd
open L2
def WP{b:Type}(r:bJ b) (Q:b->aa->Prop):Prop:=match r with
 |.ok a au=>Q a au
 |_=>False
theorem WP.get{b:Type}{r:bJ b}{Q:b->aa->Prop}(h:WP r Q):∃a au,r=.ok a au/\Q a au:=by
 cases r with
 |ok a au=>exact⟨a,au,rfl,h⟩
 |exc x au=>exact h.elim
 |stuck=>exact h.elim
theorem WP.of{b:Type}{r:bJ b}{Q:b->aa->Prop}{a:b}(e:r=.ok a au)(h:Q a au):WP r Q:=by rw[e];exact h
theorem WP.mono{c:Type}{r:bJ c}{Q Q':c->aa->Prop}(h:WP r Q)(k:∀a b,Q a b->Q' a b):WP r Q':=by
 obtain⟨a,b,rfl,q⟩:=h.get;exact k a b q
theorem zk{c b:Type}{r:bJ c}{f:c->aa->bJ b}{Q:b->aa->Prop}:WP (r.bind f) Q=WP r (λa d=>WP (f a d) Q):=by
 cases r<;>rfl
def j3(t:SS) (Q:Fl->aa->Prop):Fl->aa->Prop:=λfl a=>match fl with
 |.nx σ=>WP (t σ a) Q
 |fl=>Q fl a
theorem sA:WP (aD s t σ au) Q=WP (s σ au) (j3 t Q):=by
 unfold aD;cases s σ au with
 |ok fl st1=>cases fl<;>rfl
 |exc x au=>rfl
 |stuck=>rfl
theorem BZ{d:Type} [Decidable c]{a b:bJ d}{Q:d->aa->Prop}:WP (if c then a else b) Q=if c then WP a Q else WP b Q:=by
 split<;>rfl
theorem Ff{b:Type} [Decidable c]{a:bJ b}{Q:b->aa->Prop}:WP (if c then a else .stuck) Q=(c/\WP a Q):=by
 by_cases h:c
 ·rw[if_pos h];simp[h]
 ·rw[if_neg h];simp[h,WP]
def tz(Q:D->aa->Prop):Fl->aa->Prop:=λb a=>match b with
 |.ret v=>Q v a
 |.nx _=>Q .non a
 |_=>False
theorem fQ{n a:Nat}{b:SS}{c:List D}{d:aa}{Q:D->aa->Prop}(h:c.length=a)(k:WP (b (c.map some++List.replicate (n-a) none) d) (tz Q)):WP (cG n a b c d) Q:=by
 obtain⟨g,f,e,q⟩:=k.get;unfold cG;rw[if_pos h,e];cases g<;>first|exact q|exact q.elim
def bK(Q:Bool->aa->Prop):D->aa->Prop:=λv a=>match v with
 |.bl b=>Q b a
 |_=>False
def gK(b:SG) (Q:Fl->aa->Prop) (c:DS):D->aa->Prop:=λv a=>match b v c with
 |some σ1=>Q (.nx σ1) a
 |none=>False
theorem W:(∀{G:Type}{a:G}{e:aa}{Q:G->aa->Prop},WP (.ok a e) Q=Q a e)
 /\ (∀{s t:SS}{m:DS}{e:aa}{Q:Fl->aa->Prop},WP (aD s t m e) Q=WP (s m e) (j3 t Q))
 /\ (∀{t:SS}{m:DS}{e:aa}{Q:Fl->aa->Prop},j3 t Q (.nx m) e=WP (t m e) Q)
 /\ (∀{t:SS}{v:D}{e:aa}{Q:Fl->aa->Prop},j3 t Q (.ret v) e=Q (.ret v) e)
 /\ (∀{t:SS}{m:DS}{e:aa}{Q:Fl->aa->Prop},j3 t Q (.brk m) e=Q (.brk m) e)
 /\ (∀{t:SS}{m:DS}{e:aa}{Q:Fl->aa->Prop},j3 t Q (.ct m) e=Q (.ct m) e)
 /\ (∀{v:D}{e:aa}{Q:D->aa->Prop},tz Q (.ret v) e=Q v e)
 /\ (∀{m:DS}{e:aa}{Q:D->aa->Prop},tz Q (.nx m) e=Q .non e)
 /\ (∀{b:Bool}{e:aa}{Q:Bool->aa->Prop},bK Q (.bl b) e=Q b e)
 /\ (∀{d:D}{m:DS}{e:aa}{Q:D->aa->Prop},WP (eC d m e) Q=Q d e)
 /\ (∀{g:D->D->aa->bJ D}{f p:SE}{m:DS}{e:aa}{Q:D->aa->Prop},WP (aU g f p m e) Q=WP (f m e) (λx l=>WP (p m l) (λy r=>WP (g x y r) Q)))
 /\ (∀{g:D->aa->bJ D}{f:SE}{m:DS}{e:aa}{Q:D->aa->Prop},WP (qT g f m e) Q=WP (f m e) (λx l=>WP (g x l) Q))
 /\ (∀{g:List D->aa->bJ D}{f:SA}{m:DS}{e:aa}{Q:D->aa->Prop},WP (aE g f m e) Q=WP (f m e) (λx l=>WP (g x l) Q))
 /\ (∀{m:DS}{e:aa}{Q:List D->aa->Prop},WP (aC m e) Q=Q [] e)
 /\ (∀{f:SE}{g:SA}{m:DS}{e:aa}{Q:List D->aa->Prop},WP (aB f g m e) Q=WP (f m e) (λx l=>WP (g m l) (λn r=>Q (x::n) r)))
 /\ (∀{f:SE}{m:DS}{e:aa}{Q:Bool->aa->Prop},WP (eB f m e) Q=WP (f m e) (bK Q))
 /\ (∀{f p:ST}{m:DS}{e:aa}{Q:Bool->aa->Prop},WP (ny f p m e) Q=WP (f m e) (λb l=>if b=true then WP (p m l) Q else Q false l))
 /\ (∀{f p:ST}{m:DS}{e:aa}{Q:Bool->aa->Prop},WP (vz f p m e) Q=WP (f m e) (λb l=>if b=true then Q true l else WP (p m l) Q))
 /\ (∀{f:ST}{m:DS}{e:aa}{Q:Bool->aa->Prop},WP (gw f m e) Q=WP (f m e) (λb l=>Q (!b) l))
 /\ (∀{m:DS}{e:aa}{Q:Bool->aa->Prop},WP (aI m e) Q=Q true e)
 /\ (∀{f p:SE}{m:DS}{e:aa}{Q:D->aa->Prop},WP (i9 f p m e) Q=WP (f m e) (bK λb l=>if b=true then WP (p m l) Q else Q (.bl false) l))
 /\ (∀{f p:SE}{m:DS}{e:aa}{Q:D->aa->Prop},WP (SF f p m e) Q=WP (f m e) (bK λb l=>if b=true then Q (.bl true) l else WP (p m l) Q))
 /\ (∀{f:SE}{m:DS}{e:aa}{Q:D->aa->Prop},WP (lJ f m e) Q=WP (f m e) (bK λb l=>Q (.bl (!b)) l))
 /\ (∀{c:ST}{f p:SE}{m:DS}{e:aa}{Q:D->aa->Prop},WP (BD c f p m e) Q=WP (c m e) (λb l=>if b=true then WP (f m l) Q else WP (p m l) Q))
 /\ (∀{g:SA}{m:DS}{e:aa}{Q:D->aa->Prop},WP (aT g m e) Q=WP (g m e) (λn l=>n.length<=sizeLine/\Q (.tup n) l))
 /\ (∀{g:SA}{m:DS}{e:aa}{Q:D->aa->Prop},WP (ip g m e) Q=WP (g m e) (λn l=>n.length<=sizeLine/\Q (.lst n) l))
 /\ (∀{g:SA}{m:DS}{e:aa}{Q:D->aa->Prop},WP (cM g m e) Q=WP (g m e) (λn l=>n.length<=sizeLine/\Q (.ref l.length) (l++[.lst n])))
 /\ (∀{m:DS}{e:aa}{Q:D->aa->Prop},WP (dZ m e) Q=Q (.ref e.length) (e++[.dT []]))
 /\ (∀{m:DS}{e:aa}{Q:Fl->aa->Prop},WP (fK m e) Q=Q (.nx m) e)
 /\ (∀{m:DS}{e:aa}{Q:Fl->aa->Prop},WP (zW m e) Q=Q (.brk m) e)
 /\ (∀{m:DS}{e:aa}{Q:Fl->aa->Prop},WP (V4 m e) Q=Q (.ct m) e)
 /\ (∀{m:DS}{e:aa}{Q:Fl->aa->Prop},WP (qK m e) Q=Q (.ret .non) e)
 /\ (∀{f:SE}{m:DS}{e:aa}{Q:Fl->aa->Prop},WP (aY f m e) Q=WP (f m e) (λv l=>Q (.ret v) l))
 /\ (∀{f:SE}{m:DS}{e:aa}{Q:Fl->aa->Prop},WP (bq f m e) Q=WP (f m e) (λ_ l=>Q (.nx m) l))
 /\ (∀{i:Nat}{f:SE}{m:DS}{e:aa}{Q:Fl->aa->Prop},WP (aF i f m e) Q=WP (f m e) (λv l=>Q (.nx (m.set i (some v))) l))
 /\ (∀{u:SG}{f:SE}{m:DS}{e:aa}{Q:Fl->aa->Prop},WP (qJ u f m e) Q=WP (f m e) (gK u Q m))
 /\ (∀{c:ST}{s t:SS}{m:DS}{e:aa}{Q:Fl->aa->Prop},WP (ft c s t m e) Q=WP (c m e) (λb l=>if b=true then WP (s m l) Q else WP (t m l) Q))
 /\ (∀{w:SA}{u:SG}{z:SS}{m:DS}{e:aa}{Q:Fl->aa->Prop},WP (bz w u z m e) Q=WP (w m e) (λn l=>WP (dk u z n m l) Q))
 /\ (∀{w:SA}{k:Nat}{is:List Nat}{u:SG}{c:ST}{f:SE}{m:DS}{e:aa}{Q:D->aa->Prop},WP (aG w k is u c f m e) Q=WP (w m e) (λn l=>n.length<=sizeLine/\WP (bN u c f n (aV k is m) l) (λH r=>Q (.lst H) r)))
 /\ (∀{w:SA}{k:Nat}{is:List Nat}{u:SG}{c:ST}{f:SE}{m:DS}{e:aa}{Q:D->aa->Prop},WP (nt w k is u c f m e) Q=WP (w m e) (λn l=>n.length<=sizeLine/\WP (bN u c f n (aV k is m) l) (λH r=>Q (.ref r.length) (r++[.lst H]))))
 /\ (∀{C:Int->Int->Prop} [DecidableRel C] {h:Int->Int->D}{i j:Int}{e:aa}{Q:D->aa->Prop},WP (oI C h (.int i) (.int j) e) Q=(C i j/\Q (h i j) e))
 /\ (∀{i j:Int}{e:aa}{Q:D->aa->Prop},WP (aO (.int i) (.int j) e) Q=Q (.int (i+j)) e)
 /\ (∀{a b:List D}{e:aa}{Q:D->aa->Prop},WP (aO (.tup a) (.tup b) e) Q=(a.length+b.length<=sizeLine/\Q (.tup (a++b)) e))
 /\ (∀{i j:Int}{e:aa}{Q:D->aa->Prop},WP (gc (.int i) (.int j) e) Q=Q (.bl (decide (i<j))) e)
 /\ (∀{i j:Int}{e:aa}{Q:D->aa->Prop},WP (eV false (.int i) (.int j) e) Q=Q (.bl (decide (i=j))) e)
 /\ (∀{i j:Int}{e:aa}{Q:D->aa->Prop},WP (eV true (.int i) (.int j) e) Q=Q (.bl (!decide (i=j))) e)
 /\ (∀{i:Int}{e:aa}{Q:D->aa->Prop},WP (jt (.int i) e) Q=Q (.int (-i)) e)
 /\ (∀{i j:Int}{g:Int->Int->Int}{e:aa}{Q:D->aa->Prop},WP (BG g [.int i,.int j] e) Q=Q (.int (g i j)) e)
 /\ (∀{i:Int}{e:aa}{Q:D->aa->Prop},WP (lK [.int i] e) Q=Q (.int (if i<0 then -i else i)) e)
 /\ (∀{b:Bool}{e:aa}{Q:D->aa->Prop},WP (PU [.bl b] e) Q=Q (.int (if b=true then 1 else 0)) e)
 /\ (∀{n:List D}{e:aa}{Q:D->aa->Prop},WP (cZ [.tup n] e) Q=Q (.int n.length) e)
 /\ (∀{n:List D}{e:aa}{Q:D->aa->Prop},WP (cZ [.lst n] e) Q=Q (.int n.length) e)
 /\ (∀{n:List D}{e:aa}{Q:D->aa->Prop},WP (cZ [.scr n] e) Q=Q (.int n.length) e)
 /\ (∀{n:List D}{e:aa}{Q:D->aa->Prop},WP (bE [.tup n] e) Q=Q (.tup n) e)
 /\ (∀{n:List D}{e:aa}{Q:D->aa->Prop},WP (bE [.lst n] e) Q=Q (.tup n) e)
 /\ (∀{n:List D}{e:aa}{Q:D->aa->Prop},WP (qU [.tup n] e) Q=Q (.lst n) e)
 /\ (∀{n:List D}{e:aa}{Q:D->aa->Prop},WP (qU [.lst n] e) Q=Q (.lst n) e)
 /\ (∀{d:D}{m:DS}{e:aa}{Q:D->aa->Prop},WP (aA 0 (some d::m) e) Q=Q d e)
 /\ (∀{i:Nat}{m:DS}{e:aa}{Q:D->aa->Prop}{o:Option D},WP (aA (i+1) (o::m) e) Q=WP (aA i m e) Q)
 /\ (∀{f:SE}{m:DS}{e:aa}{Q:List D->aa->Prop},WP (aH f m e) Q=WP (f m e) (λx l=>∃n,fY x=some n/\Q n l))
 /\ (∀{f:SE}{m:DS}{e:aa}{Q:Bool->aa->Prop},WP (dY f m e) Q=WP (f m e) (λx l=>∃b,lu l x=some b/\Q b l))
 /\ (∀{g:SA}{m:DS}{e:aa}{Q:List D->aa->Prop},WP (jw g m e) Q=WP (g m e) (λn l=>∃j,n=[.int j]/\cO j/\Q (rng 0 j.toNat) l))
 /\ (∀{g:SA}{m:DS}{e:aa}{Q:List D->aa->Prop},WP (tM g m e) Q=WP (g m e) (λn l=>∃i j,n=[.int i,.int j]/\cO i/\cO j/\Q (rng i (j-i).toNat) l)):=by
 have E:∀{G:Type}{c:Prop} [Decidable c] {a:G}{e:aa}{Q:G->aa->Prop},WP (if c then .ok a e else .stuck) Q=(c/\Q a e):=λ{G c _ a e Q}=>Ff
 refine⟨rfl,sA,rfl,rfl,rfl,rfl,rfl,rfl,rfl,rfl,?_⟩;refine⟨?_,?_⟩
 ·intros;rw[wF,zk];congr;funext x l;rw[zk]
 refine⟨zk,zk,rfl,?_⟩;refine⟨?_,?_⟩
 ·intros;rw[oC,zk];congr;funext x l;rw[zk];rfl
 refine⟨?_,?_⟩
 ·intros;rw[Pz,zk];congr;funext x l;cases x<;>rfl
 refine⟨?_,?_⟩
 ·intros;rw[GQ,zk];congr;funext x l;rw[BZ];rfl
 refine⟨?_,?_⟩
 ·intros;rw[FY,zk];congr;funext x l;rw[BZ];rfl
 refine⟨zk,rfl,?_⟩;refine⟨?_,?_⟩
 ·intros;rw[sd,zk];congr;funext x l;cases x<;>try rfl
  rename_i b;cases b<;>rfl
 refine⟨?_,?_⟩
 ·intros;rw[Gf,zk];congr;funext x l;cases x<;>try rfl
  rename_i b;cases b<;>rfl
 refine⟨?_,?_⟩
 ·intros;rw[xh,zk];congr;funext x l;cases x<;>rfl
 refine⟨?_,?_⟩
 ·intros;rw[Ge,zk];congr;funext x l;rw[BZ]
 refine⟨?_,?_⟩
 ·intros;rw[Hx,zk];congr;funext x l;rw[E]
 refine⟨?_,?_⟩
 ·intros;rw[Hw,zk];congr;funext x l;rw[E]
 refine⟨?_,?_⟩
 ·intros;rw[JZ,zk];congr;funext x l;rw[E]
 refine⟨rfl,rfl,rfl,rfl,rfl,zk,zk,zk,?_⟩;refine⟨?_,?_⟩
 ·intro u f m e Q;unfold qJ;rw[zk];congr;funext x l;unfold gK;cases u x m<;>rfl
 refine⟨?_,?_⟩
 ·intros;rw[k9,zk];congr;funext x l;rw[BZ]
 refine⟨zk,?_⟩;refine⟨?_,?_⟩
 ·intros;rw[rf,zk];congr;funext x l;rw[Ff,zk];rfl
 refine⟨?_,?_⟩
 ·intros;unfold nt;rw[zk];congr;funext x l;rw[Ff,zk];rfl
 refine⟨?_,?_⟩
 ·intros;rw[Pj,E]
 refine⟨rfl,?_⟩;refine⟨?_,?_⟩
 ·intros;rw[sr,E]
 refine⟨rfl,?_⟩;refine⟨?_,?_⟩
 ·intros;rw[show ∀i j e,eV false (.int i) (.int j) e=_ from λi j e=>Gp];rfl
 refine⟨?_,?_⟩
 ·intros;rw[show ∀i j e,eV true (.int i) (.int j) e=_ from λi j e=>Gr];rfl
 refine⟨rfl,rfl,rfl,rfl,rfl,rfl,rfl,rfl,rfl,rfl,rfl,λ{d m e Q}=>rfl,λ{i m e Q o}=>rfl,?_⟩;refine⟨?_,?_⟩
 ·intros;rw[xj,zk];congr;funext x l
  cases h:fY x with
  |none=>simp[WP]
  |some n=>simp[WP]
 refine⟨?_,?_⟩
 ·intros;rw[um,zk];congr;funext x l
  cases h:lu l x with
  |none=>simp[WP]
  |some n=>simp[WP]
 refine⟨?_,?_⟩
 ·intros;rw[Gj,zk];congr;funext x l
  split
  ·rw[E];simp[cO]
  ·rename_i A;have:∀j,x≠[D.int j]:=λj h=>A j h
   simp[WP,this]
 ·intros;rw[Gk,zk];congr;funext x l
  split
  ·rw[E];simp only[cO,List.cons.injEq,D.int.injEq,and_true];apply propext;constructor
   ·rintro⟨h,q⟩;exact⟨_,_,⟨rfl,rfl⟩,h.1,h.2,q⟩
   ·rintro⟨R,P,⟨rfl,rfl⟩,J,I,q⟩;exact⟨⟨J,I⟩,q⟩
  ·rename_i A;have:∀i j,x≠[D.int i,D.int j]:=λi j h=>A i j h
   simp[WP,this]
def hD(I:DS->aa->Prop) (Q:Fl->aa->Prop):Fl->aa->Prop:=λb a=>match b with
 |.nx σ=>I σ a
 |.ct σ=>I σ a
 |.brk σ=>Q (.nx σ) a
 |.ret v=>Q (.ret v) a
theorem RV{j:SG}{d:SS}{Q:Fl->aa->Prop}(I:Nat->DS->aa->Prop):∀(e:List D) (k:Nat) (c:DS) (b:aa),I k c b ->
  (∀i x c b,e[i]?=some x->I (k+i) c b->∃f,j x c=some f/\WP (d f b) (hD (I (k+i+1)) Q))->(∀c b,I (k+e.length) c b->Q (.nx c) b)->WP (dk j d e c b) Q
 |[],k,c,b,h,_,q=>q c b h
 |x::e,k,c,b,h,s,q=>by
  obtain⟨f,r,w⟩:=s 0 x c b rfl h;obtain⟨n,g,m,w⟩:=w.get;unfold dk;rw[r];dsimp only;rw[m]
  have l:∀a,I (k+0+1) a g->WP (dk j d e a g) Q:=λa t=>RV I e (k+1) a g t (λi y c b o p=>by
   have:=s (i+1) y c b (by simpa using o) (by rw[show k+(i+1)=k+1+i by lia];exact p);rw[show k+(i+1)+1=k+1+i+1 by lia] at this
   exact this) (λc b h=>q c b (by rw[dN,show k+(e.length+1)=k+1+e.length by lia];exact h))
  cases n with
  |nx a=>exact l a w
  |ct a=>exact l a w
  |brk a=>exact w
  |ret v=>exact w
theorem fR(I:Nat->DS->aa->Prop) (e:I 0 b a)
  (s:∀i x b a,xs[i]?=some x->I i b a->∃c,bd x b=some c/\WP (body c a) (hD (I (i+1)) Q))(q:∀b a,I xs.length b a->Q (.nx b) a):WP (dk bd body xs b a) Q:=
 RV I xs 0 b a e (λi x b a f d=>by rw[jI] at d ⊢;exact s i x b a f d) λb a h=>q b a (by rw[jI] at h;exact h)
theorem L:(∀{I:DS->aa->Prop}{Q:Fl->aa->Prop}{b:DS}{a:aa},hD I Q (.nx b) a=I b a)
 /\ (∀{I:DS->aa->Prop}{Q:Fl->aa->Prop}{b:DS}{a:aa},hD I Q (.ct b) a=I b a)
 /\ (∀{I:DS->aa->Prop}{Q:Fl->aa->Prop}{b:DS}{a:aa},hD I Q (.brk b) a=Q (.nx b) a)
 /\ (∀{I:DS->aa->Prop}{Q:Fl->aa->Prop}{v:D}{a:aa},hD I Q (.ret v) a=Q (.ret v) a):=⟨rfl,rfl,rfl,rfl⟩
theorem FP{n:SG}{c:ST}{f:SE}(I:Nat->List D->DS->aa->Prop):∀(j:List D) (k:Nat) (a:List D) (e:DS) (au:aa) (Q:List D->aa->Prop),I k a e au ->
  (∀i x a e au,j[i]?=some x->I (k+i) a e au->∃d,n x e=some d/\WP (c d au) (λb g=>if b=true then WP (f d g) (λy l=>I (k+i+1) (a++[y]) d l) else I (k+i+1) a d g)) ->
  (∀m e au,I (k+j.length) (a++m) e au->Q m au)->WP (bN n c f j e au) Q
 |[],k,a,e,au,Q,h,_,q=>q [] e au (by rw[kn];exact h)
 |x::j,k,a,e,au,Q,h,s,q=>by
  obtain⟨d,A,w⟩:=s 0 x a e au rfl h;obtain⟨b,g,t,w⟩:=w.get;have p:∀i y a e au,j[i]?=some y->I (k+1+i) a e au->∃d,n y e=some d/\WP (c d au) (λb g=>if b=true then WP (f d g) (λy l=>I (k+1+i+1) (a++[y]) d l) else I (k+1+i+1) a d g):=λi y a e au v z=>by
   have:=s (i+1) y a e au (by simpa using v) (by rw[show k+(i+1)=k+1+i by lia];exact z);rw[show k+(i+1)+1=k+1+i+1 by lia] at this;exact this
  have r:∀(o:List D) e au,I (k+1+j.length) o e au->I (k+(x::j).length) o e au:=λo e au h=>by rw[dN,show k+(j.length+1)=k+1+j.length by lia];exact h
  unfold bN;rw[A];dsimp only;rw[t];dsimp only[zw];cases b with
  |false=>
   rw[if_neg (by decide)] at w ⊢;exact FP I j (k+1) a d g Q w p λm e au h=>q m e au (r _ _ _ h)
  |true=>
   rw[if_pos rfl] at w ⊢;obtain⟨y,l,u,w⟩:=w.get;rw[u];dsimp only[zw];rw[zk];exact FP I j (k+1) (a++[y]) d l _ w p λm e au h=>q (y::m) e au (r _ _ _ (by rw[eh] at h;exact h))
theorem yG(I:Nat->List D->DS->aa->Prop) (n:I 0 [] g a)
  (s:∀i x e g a,xs[i]?=some x->I i e g a->∃d,bd x g=some d/\WP (c d a) (λb j=>if b=true then WP (f d j) (λy l=>I (i+1) (e++[y]) d l) else I (i+1) e d j))
  (q:∀k g a,I xs.length k g a->Q k a):WP (bN bd c f xs g a) Q:=
 FP I xs 0 [] g a Q n (λi x e g a o m=>by rw[jI] at m ⊢;exact s i x e g a o m) λk g a h=>q k g a (by rw[jI] at h;simpa using h)
theorem re{p:SG}{c:ST}{f:SE}{k:Type}(S:DS->Prop)(P:k->Bool)(G:k->D)(E:k->D){as:List k}{d:DS}{g:aa}{Q:List D->aa->Prop}(v:S d)
  (s:∀x∈as,∀d,S d->∃a,p (E x) d=some a/\S a/\WP (c a g) (λb e=>e=g/\b=P x)/\(P x=true->WP (f a g) (λy e=>e=g/\y=G x)))
  (q:Q ((as.filter P).map G) g):WP (bN p c f (as.map E) d g) Q:=by
 refine yG (λi j d n=>S d/\n=g/\j=((as.take i).filter P).map G) ⟨v,rfl,rfl⟩ (λi x j d n o l=>?_) λI d n l=>?_
 ·obtain⟨C,rfl,rfl⟩:=l;rw[fq] at o;obtain⟨z,m,rfl⟩:=iE.mp o;obtain⟨a,u,h,w,t⟩:=s z (db m) d C;refine⟨a,u,w.mono λb e r=>?_⟩;obtain⟨rfl,rfl⟩:=r;cases hP:P z with
  |false=>
   rw[if_neg (by decide)];refine⟨h,rfl,?_⟩;rw[zg m,mN,l9 (by rw[hP];decide)];simp
  |true=>
   rw[if_pos rfl];refine(t hP).mono λy A H=>?_
   obtain⟨rfl,rfl⟩:=H;refine⟨h,rfl,?_⟩;rw[zg m,mN,l8 hP,gC];simp
 ·obtain⟨_,rfl,rfl⟩:=l;rw[az,eQ];exact q
theorem V:(∀{c:Type}{a b:c}{l:List c},(a::l).set 0 b=b::l)
 /\ (∀{c:Type}{a b:c}{l:List c}{i:Nat},(a::l).set (i+1) b=a::l.set i b)
 /\ (∀{e:DS}{k:Nat}{is:List Nat},aV k is e=List.replicate k none++is.map λi=>(e[i]?).getD none)
 /\ (∀{c:Type}{a:c}{k:Nat},List.replicate (k+1) a=a::List.replicate k a)
 /\ (∀{c:Type}{a:c},List.replicate 0 a=[])
 /\ (∀{c g:Type}{f:c->g}{a:c}{l:List c},(a::l).map f=f a::l.map f)
 /\ (∀{c g:Type}{f:c->g},([]:List c).map f=[])
 /\ (∀{c:Type}{a:c}{l m:List c},(a::l)++m=a::(l++m))
 /\ (∀{c:Type}{l:List c},[]++l=l)
 /\ (∀{c:Type}{a:c}{l:List c},(a::l)[0]?=some a)
 /\ (∀{c:Type}{a:c}{l:List c}{i:Nat},(a::l)[i+1]?=l[i]?)
 /\ (∀{c:Type}{a:c}{d:c},(some a).getD d=a)
 /\ (∀{i:Nat}{d:D}{e:DS},gN i d e=some (e.set i (some d)))
 /\ (∀{p:Prop} [Decidable p],(decide p=true)=p)
 /\ (∀{p:Prop} [Decidable p],((!decide p)=true)=¬ p)
 /\ (∀{b:Bool},((!b)=true)=(b=false))
 /\ (∀{a b:Prop},(if True then a else b)=a)
 /\ (∀{a b:Prop},(if False then a else b)=b)
 /\ (∀{a b:Prop},(if true=true then a else b)=a)
 /\ (∀{a b:Prop},(if false=true then a else b)=b)
 /\ (∀{c:Type}{a b:c},(if True then a else b)=a)
 /\ (∀{c:Type}{a b:c},(if False then a else b)=b)
 /\ ((true=false)=False)/\((false=true)=False)/\((true=true)=True)/\((false=false)=True)/\((¬ True)=False)/\((¬ False)=True):=by
 refine⟨rfl,rfl,rfl,rfl,rfl,rfl,rfl,rfl,rfl,rfl,?_,rfl,rfl,?_,?_,?_,rfl,rfl,rfl,rfl,rfl,rfl,by simp,by simp,by simp,by simp,by simp,by simp⟩
 ·intros;rfl
 ·intro p _;simp
 ·intro p _;simp
 ·intro b;simp
theorem M:(∀{f:SE}{m:DS}{d:aa}{Q:Option Int->aa->Prop},WP (dW f m d) Q=WP (f m d) (λv c=>∃i,v=.int i/\Q (some i) c))
 /\ (∀{m:DS}{d:aa}{Q:Option Int->aa->Prop},WP (dX m d) Q=Q none d)
 /\ (∀{f:SE}{lo G:DS->aa->bJ (Option Int)}{m:DS}{d:aa}{Q:D->aa->Prop},WP (lI f lo G m d) Q=WP (f m d) (λx c=>WP (lo m c) (λl p=>WP (G m p) (λh r=>(∃o,x=.tup o/\Q (.tup (cutD o l h)) r)\/(∃o,eY r x=some o/\Q (.lst (cutD o l h)) r)))))
 /\ (∀{f:SE}{m:DS}{d:aa}{Q:D->aa->Prop},WP (mi f m d) Q=WP (f m d) (λx c=>∃n o,x=.ref n/\c[n]?=some (.lst o)/\Q (.lst o) (c.set n .dead)))
 /\ (∀{f g h:SE}{m:DS}{d:aa}{Q:Fl->aa->Prop},WP (fz f g h m d) Q=WP (h m d) (λv c=>WP (f m c) (λx p=>WP (g m p) (λy r=>∃n k o j,x=.ref n/\y=.int k/\r[n]?=some (.lst o)/\kH o.length k=some j/\Q (.nx m) (r.set n (.lst (o.set j v)))))))
 /\ (∀{f:SE}{g:SA}{m:DS}{d:aa}{Q:D->aa->Prop},WP (bO f g m d) Q=WP (f m d) (λx c=>∃n s,x=.ref n/\c[n]?=some (.lst s)/\WP (g m c) (λw p=>∃y o,w=[y]/\p[n]?=some (.lst o)/\o.length<sizeLine/\Q .non (p.set n (.lst (o++[y]))))))
 /\ (∀{x:D}{d:aa}{Q:D->aa->Prop},WP (hV [x] d) Q=∃t,(cD d x).bind bC=some t/\Q (.int t.sum) d)
 /\ (∀{x:D}{u:Bool}{d:aa}{Q:D->aa->Prop},WP (jb u [x] d) Q=∃E,(eY d x).bind cU=some E/\Q (.bl (if u then E.all id else E.any id)) d)
 /\ (∀{x:D}{gt:Bool}{d:aa}{Q:D->aa->Prop},WP (qV gt [x] d) Q=∃n t,(cD d x).bind bC=some (n::t)/\Q (.int (ce gt n t)) d)
 /\ (∀{g:SA}{m:DS}{d:aa}{Q:List D->aa->Prop},WP (iG g m d) Q=WP (g m d) (λo c=>∃a b,o=[.tup a,.tup b]/\Q (bY a b) c))
 /\ (∀{i:Nat}{g:D->D->aa->bJ D}{f:SE}{m:DS}{d:aa}{Q:Fl->aa->Prop},WP (lw i g f m d) Q=∃x,m[i]?=some (some x)/\WP (f m d) (λy c=>WP (g x y c) (λz p=>Q (.nx (m.set i (some z))) p))):=by
 refine⟨?_,rfl,?_,?_,?_,?_,?_,?_,?_,?_,?_⟩
 ·intros;rw[Kz,zk];congr;funext x c
  cases x<;>simp[WP]
 ·intros;rw[Gg,zk];congr;funext x c;rw[zk];congr;funext l p;rw[zk];congr;funext h r
  apply propext;split
  ·constructor
   ·intro q;exact .inl ⟨_,rfl,q⟩
   ·rintro(⟨o,e,q⟩|⟨o,e,q⟩)
    ·cases e;exact q
    ·cases e
  ·rename_i C;constructor
   ·intro q;split at q
    ·rename_i o e;exact .inr ⟨o,e,q⟩
    ·exact q.elim
   ·rintro(⟨o,e,q⟩|⟨o,e,q⟩)
    ·exact absurd e (C o)
    ·rw[e];exact q
 ·intros;rw[Gd,zk];congr;funext x c
  apply propext;constructor
  ·intro q;split at q
   ·split at q
    ·rename_i o e;exact⟨_,o,rfl,e,q⟩
    ·exact q.elim
   ·exact q.elim
  ·rintro⟨n,o,rfl,e,q⟩;dsimp only;rw[e];exact q
 ·intros;rw[M7,zk];congr;funext v c;rw[zk];congr;funext x p;rw[zk];congr;funext y r
  apply propext;constructor
  ·intro q;split at q
   ·split at q
    ·split at q
     ·exact⟨_,_,_,_,rfl,rfl,by assumption,by assumption,q⟩
     ·exact q.elim
    ·exact q.elim
   ·exact q.elim
  ·rintro⟨n,k,o,j,rfl,rfl,J,A,q⟩;dsimp only;rw[J];dsimp only;rw[A];exact q
 ·intros;rw[Q2,zk];congr;funext x c
  apply propext;constructor
  ·intro q;split at q
   ·rename_i n s e;rw[zk] at q;have I:c[n]?=some (.lst s):=by
     unfold eY at e;dsimp only at e;split at e
     ·cases e;assumption
     ·cases e
    refine⟨n,s,rfl,I,q.mono λw p h=>?_⟩;split at h
    ·split at h
     ·exact⟨_,_,rfl,by assumption,by assumption,h⟩
     ·exact h.elim
    ·exact h.elim
   ·exact q.elim
  ·rintro⟨n,s,rfl,e,q⟩;rw[oD e];dsimp only;rw[zk];refine q.mono λw p h=>?_
   obtain⟨y,o,rfl,A,H,h⟩:=h;rw[A];dsimp only;rw[if_pos H];exact h
 ·intro x d Q;unfold hV;dsimp only;cases h:(cD d x).bind bC with
  |none=>simp[WP]
  |some t=>simp[WP]
 ·intro x u d Q;unfold jb;dsimp only;cases h:(eY d x).bind cU with
  |none=>simp[WP]
  |some t=>simp[WP]
 ·intro x gt d Q;unfold qV;dsimp only;cases h:(cD d x).bind bC with
  |none=>simp[WP]
  |some t=>
   cases t with
   |nil=>simp[WP]
   |cons n t=>
    apply propext;constructor
    ·intro q;exact⟨_,_,rfl,q⟩
    ·rintro⟨a,b,e,q⟩;cases e;exact q
 ·intro g m d Q;unfold iG;rw[zk];congr;funext x c
  apply propext;constructor
  ·intro q;split at q
   ·exact⟨_,_,rfl,q⟩
   ·exact q.elim
  ·rintro⟨a,b,rfl,q⟩;exact q
 ·intro i g f m d Q;rw[IQ];apply propext;constructor
  ·intro q;split at q
   ·rename_i x e;rw[zk] at q;exact⟨x,e,q.mono λy c h=>by rw[zk] at h;exact h⟩
   ·exact q.elim
  ·rintro⟨x,e,q⟩;rw[e];dsimp only;rw[zk];exact q.mono λy c h=>by rw[zk];exact h
theorem N:(∀{g:List D}{P:List D->Prop},(∃f,D.tup g=D.tup f/\P f)=P g)
 /\ (∀{i:Int}{P:Int->Prop},(∃j,D.int i=D.int j/\P j)=P i)
 /\ (∀{g:List D}{h:aa}{P:List D->Prop},(∃f,eY h (.tup g)=some f/\P f)=False)
 /\ (∀{g:List D}{h:aa}{P:List D->Prop},(∃f,eY h (.lst g)=some f/\P f)=P g)
 /\ (∀{g:List D}{P:List D->Prop},(∃f,fY (.tup g)=some f/\P f)=P g)
 /\ (∀{g:List D}{P:List D->Prop},(∃f,fY (.lst g)=some f/\P f)=P g)
 /\ (∀{b:Bool}{h:aa}{P:Bool->Prop},(∃c,lu h (.bl b)=some c/\P c)=P b)
 /\ (∀{i:Int}{P:Int->Prop},(∃j,[D.int i]=[D.int j]/\P j)=P i)
 /\ (∀{i j:Int}{P:Int->Int->Prop},(∃k l,[D.int i,D.int j]=[D.int k,D.int l]/\P k l)=P i j)
 /\ (∀{x:D}{P:D->Prop},(∃y,[x]=[y]/\P y)=P x)
 /\ (∀{a b:List D}{P:List D->List D->Prop},(∃c d,[D.tup a,D.tup b]=[.tup c,.tup d]/\P c d)=P a b)
 /\ (∀{p:Prop},(p\/False)=p)/\(∀{p:Prop},(True/\p)=p):=by
 refine⟨?_,?_,?_,?_,?_,?_,?_,?_,?_,?_,?_,by simp,by simp⟩
 ·intros;apply propext;exact⟨λ⟨_,e,p⟩=>by cases e;exact p,λp=>⟨_,rfl,p⟩⟩
 ·intros;apply propext;exact⟨λ⟨_,e,p⟩=>by cases e;exact p,λp=>⟨_,rfl,p⟩⟩
 ·intros;apply propext;exact⟨λ⟨_,e,p⟩=>(by cases e),λp=>p.elim⟩
 ·intros;apply propext;exact⟨λ⟨_,e,p⟩=>by cases e;exact p,λp=>⟨_,rfl,p⟩⟩
 ·intros;apply propext;exact⟨λ⟨_,e,p⟩=>by cases e;exact p,λp=>⟨_,rfl,p⟩⟩
 ·intros;apply propext;exact⟨λ⟨_,e,p⟩=>by cases e;exact p,λp=>⟨_,rfl,p⟩⟩
 ·intros;apply propext;exact⟨λ⟨_,e,p⟩=>by cases e;exact p,λp=>⟨_,rfl,p⟩⟩
 ·intros;apply propext;exact⟨λ⟨_,e,p⟩=>by cases e;exact p,λp=>⟨_,rfl,p⟩⟩
 ·intros;apply propext;exact⟨λ⟨_,_,e,p⟩=>by cases e;exact p,λp=>⟨_,_,rfl,p⟩⟩
 ·intros;apply propext;exact⟨λ⟨_,e,p⟩=>by cases e;exact p,λp=>⟨_,rfl,p⟩⟩
 ·intros;apply propext;exact⟨λ⟨_,_,e,p⟩=>by cases e;exact p,λp=>⟨_,_,rfl,p⟩⟩
theorem GS{a:List Int}{i:Nat}(b:a.length<=63)(h:i<=100000)(k:∀g,dJ (au++g) au.length->Q (.ref au.length) (au++g)):WP (wg [.scr (a.map .int),.int i] au) Q:=by
 obtain⟨c,x,d,f,e⟩:=GR (au:=au) b h;exact WP.of e (k _ ⟨c,x,by simp,d,f⟩)
theorem uP{a:Type}(l:List a):(l.filter λ_=>true)=l:=Oq.mpr (by simp)
theorem RI{b:Type}(P:b->Bool):∀a:List b,cU (a.map λx=>.bl (P x))=some (a.map P)
 |[]=>rfl
 |x::a=>by rw[cf,cU,RI P a];rfl
theorem uE{R:Fl->aa->Prop}(h:WP (s σ au) R)(k:∀b a,R b a->j3 t Q b a):WP (aD s t σ au) Q:=by
 rw[sA];exact h.mono k
theorem vM(h:au[n]?=some (.dT (aS ks)))(a:ks.length<=1000000)(q:Q .non (au.set n (.dT (aS (aR ks k))))):WP (gP [.ref n,aL k] au) Q:=WP.of (uB h a) q
theorem CQ(h:au[n]?=some (.dT (aS ks)))(a:ks.length<=1000000)(q:Q (.lst (aJ (aX ks))) au):WP (bf [.ref n] au) Q:=WP.of (C3 h a) q
theorem UO(e:fY x=some (aJ l))(f:l.length<=1000000)(k:∀g,Q (aK (aQ l)) (au++g)):WP (CS [x] au) Q:=by
 refine fQ rfl ?_;simp only[W,V];refine⟨_,e,?_⟩;refine fR (λi a s=>(∃v,a=[some x,some (.ref au.length),v])/\s=au++[.dT (aS (aP (l.take i)))]) ⟨⟨_,rfl⟩,rfl⟩ ?_ ?_
 ·rintro i y a s d ⟨⟨v,rfl⟩,rfl⟩;obtain⟨r,b,rfl⟩:=zu d;refine⟨_,rfl,?_⟩;unfold Da;simp only[W,V,L];have c:=zx (l.take i);have h:(l.take i).length<=l.length:=by rw[fj];exact ko _ _
  refine vM (ks:=aP (l.take i)) (by simp) (by lia) ⟨⟨_,rfl⟩,?_⟩;rw[zg b];unfold aP;rw[kr];simp
 ·rintro a s ⟨⟨v,rfl⟩,rfl⟩;rw[zd,eQ];simp only[W,V];have c:=zx l;refine CQ (ks:=aP l) (by simp) (by lia) ?_;simp only[W,V];exact k _
theorem EW{b a:List (List Int)}(c:b.length+a.length<=1000000)(k:∀g,Q (aK (aQ (b++a))) (au++g)):WP (oA [aK b,aK a] au) Q:=by
 refine fQ rfl ?_;simp only[W,V];refine⟨by rw[zd,zd];exact am _ (by lia),?_⟩;refine UO (l:=b++a) (by simp[fY,aJ]) (by simp;lia) k
end Dd
namespace K03
end K03
namespace K13
open PyProof.Rows
end K13
namespace Dd
open L2 K13
theorem CG(I:Nat->DS->aa->Prop) (t:I k d e)(p:k<1000000)
  (s:∀j d e,I j d e->WP (c d e) (λb g=>if b=true then WP (body d g) (hD (λa f=>∃i,i<j/\I i a f) Q) else Q (.nx d) g)):WP (dy c body d e) Q:=by
 have l:∀n j d e,I j d e->j<n->WP (dv c body n d e) Q:=by
  intro n
  induction n with
  |zero=>intro j d e _ h;lia
  |succ n ih=>
   intro j d e q r;obtain⟨b,g,x,w⟩:=(s j d e q).get;unfold dv;rw[x];dsimp only[zw];cases b with
   |false=>exact w
   |true=>
    rw[if_pos rfl] at w ⊢;obtain⟨o,f,m,w⟩:=w.get;rw[m];cases o with
    |nx a=>obtain⟨i,u,h⟩:=w;exact ih i a f h (by lia)
    |ct a=>obtain⟨i,u,h⟩:=w;exact ih i a f h (by lia)
    |brk a=>exact w
    |ret v=>exact w
 exact l mQ k d e t p
end Dd
namespace Dd
open L2
noncomputable abbrev cq:=List Int
def mP:Int->cq->Int
 |_,[]=>0
 |w,x::r=>w*x+mP (2*w+1) r
theorem Rf{r:cq}(l:r.length<=4)(q:Q (.int (mP 1 r)) au):WP (wq [aL r] au) Q:=by
 refine fQ rfl ?_;simp only[W,V];refine⟨r.map .int,rfl,?_⟩;refine fR (λi c s=>∃(t w:Int) (v:Option D),c=[some (aL r),some (.int t),some (.int w),v]/\s=au/\t+mP w (r.drop i)=mP 1 r/\0<=w/\w+1<=((2^(i+1):Nat):Int)) ⟨0,1,_,rfl,rfl,by simp,by lia,by decide⟩ ?_ ?_
 ·rintro i x c s d ⟨t,w,v,rfl,rfl,b,k,g⟩;obtain⟨y,a,rfl⟩:∃y,r[i]?=some y/\x=.int y:=by
   rw[fq] at d;obtain⟨y,a,rfl⟩:=iE.mp d;exact⟨y,a,rfl⟩
  have f:i<r.length:=by
   rcases mG i r.length with h|h
   ·exact h
   ·rw[zC h] at a;cases a
  have m:w<=32:=by
   have:2^(i+1)<=2^5:=DQ (by decide) (by lia);lia
  have e:r.drop i=y::r.drop (i+1):=by
   rw[jY f];rw[dr f] at a;cases a
   rfl
  rw[e,mP] at b;refine⟨_,rfl,?_⟩;unfold Sb;simp only[W,V,M,L];refine⟨.int t,rfl,.inl ⟨by lia,by lia⟩,WP.of (show oI (λ_ _=>True) (λi j=>D.int (i+j)) (.int t) (.int (w*y)) s=.ok (.int (t+w*y)) s from rfl) ⟨.inl ⟨by lia,by lia⟩,t+w*y,2*w+1,_,rfl,rfl,by rw[←b];lia,by lia,?_⟩⟩;rw[yP];lia
 ·rintro c s ⟨t,w,v,rfl,rfl,b,k,g⟩;rw[az,Oe] at b;simp only[W,V];rw[show t=mP 1 r by rw[←b];simp[mP]];exact q
end Dd
namespace K37
end K37
namespace Dd
open L2 K13
theorem kS(o a:O)(g:aa):(au++o::g).set au.length a=au++a::g:=by simp
theorem iQ(o:O)(g:aa):(au++o::g)[au.length]?=some o:=by simp
end Dd
namespace K13
end K13
namespace Dd
open L2 K13
theorem Rp:WP (fh f g σ au) Q=WP (f σ au) (λx c=>∃n a,x=.ref n/\c[n]?=some (.lst a)/\WP (g σ c) (λj b=>∃y d i,j=[y]/\b[n]?=some (.lst d)/\eY b y=some i/\d.length+i.length<=sizeLine/\Q .non (b.set n (.lst (d++i))))):=by
 rw[NE,zk]
 congr
 funext x c
 apply propext;constructor
 ·intro q;split at q
  ·rename_i n a e;rw[zk] at q;have o:c[n]?=some (.lst a):=by
    unfold eY at e;dsimp only at e;split at e
    ·cases e;assumption
    ·cases e
   refine⟨n,a,rfl,o,q.mono λj b h=>?_⟩;split at h
   ·split at h
    ·split at h
     ·exact⟨_,_,_,rfl,by assumption,by assumption,by assumption,h⟩
     ·exact h.elim
    ·exact h.elim
   ·exact h.elim
  ·exact q.elim
 ·rintro⟨n,a,rfl,e,q⟩;rw[oD e];dsimp only;rw[zk];refine q.mono λj b h=>?_
  obtain⟨y,d,i,rfl,k,l,m,h⟩:=h;rw[k];dsimp only;rw[l];dsimp only;rw[if_pos m];exact h
end Dd
namespace Dd
open L2
theorem _root_.List.set_getElem_self'{a:Type}{s:List a}{x:a}(h:s[m]?=some x):s.set m x=s:=by
 obtain⟨b,rfl⟩:=cn.mp h;exact List.set_getElem_self b
end Dd
namespace K39
end K39
namespace Dd
open L2
namespace Tab
noncomputable abbrev RN:=List Nat
def nz(r:RN):RN:=r.foldr (λx l=>match l with
 |[]=>bif Nat.beq x 0 then[] else[x]
 |y::l=>x::y::l) []
def gt(l:RN) (p:Nat):Nat:=l.getD p 0
def put(l:RN) (p:Nat) (v:Nat):RN:=l.take p++v::l.drop (p+1)
noncomputable def lo(a b:Nat):Nat:=bif Nat.ble a b then a else b
abbrev T3:=RN×RN×Nat
def jr(a j:Nat) (p:T3) (x:Nat):List T3:=bif Nat.beq (Nat.land (gt p.1 a) x) 0 then[(put p.1 a (gt p.1 a+x),put p.2.1 (j-1) (gt p.2.1 (j-1)-x),p.2.2-x*2^j)] else[]
def js(i j:Nat) (p:T3):List T3:=(List.range (lo (gt p.2.1 (j-1)) (p.2.2/2^j)+1)).flatMap (jr (i+j-1) j p)
def mY(i:Nat) (a:Nat) (b:List (RN×RN)):Nat->List T3
 |0=>b.map λp=>(p.1,p.2,a)
 |k+1=>(mY i a b k).flatMap (js i (k+1))
def nr(i:Nat) (p:T3):List (RN×RN):=bif Nat.beq (Nat.land (gt p.1 (i-1)) p.2.2) 0 then[(put p.1 (i-1) (gt p.1 (i-1)+p.2.2),p.2.1)] else[]
def Ed(i:Nat) (a:Nat) (w:Nat) (b:List (RN×RN)):List (RN×RN):=(mY i a b w).flatMap (nr i)
def mh(r s:RN):Nat->List (RN×RN)
 |0=>[(List.replicate (r.length+s.length) 0,s)]
 |k+1=>Ed (k+1) (gt r k) s.length (mh r s k)
def dg(p:RN×RN):RN:=p.2++List.replicate (p.1.length-p.2.length) 0
def cB(p:RN×RN):List RN:=bif (p.1.zip (dg p)).all λq=>Nat.beq (Nat.land q.1 q.2) 0 then[(p.1.zip (dg p)).map λq=>q.1+q.2] else[]
def aN(r s:RN):List RN:=((mh r s r.length).flatMap cB).map nz
def tJ(left:RN) (j:Nat) (w:Nat×RN):List (Nat×RN):=(List.range (lo (gt left (j-1)) (w.1/2^j)+1)).map λx=>(w.1-x*2^j,w.2++[x])
def Pl(a:Nat) (left:RN):Nat->List (Nat×RN)
 |0=>[(a,[])]
 |k+1=>(Pl a left k).flatMap (tJ left (k+1))
def tK(a:Nat) (left:RN):List RN:=(Pl a left 4).map λw=>w.1::w.2
def over(left a:RN):RN:=(List.range 4).map λj=>gt left j-gt a (j+1)
def sZ(b:Nat) (w:List RN×RN):List (List RN×RN):=(tK b w.2).map λa=>(w.1++[a],over w.2 a)
def D9(r s:RN):Nat->List (List RN×RN)
 |0=>[([],s)]
 |k+1=>(D9 r s k).flatMap (sZ (gt r k))
def Ec(r:RN):RN:=r++List.replicate (4-r.length) 0
def pK(r s:RN):List (List RN):=(D9 (Ec r) (Ec s) 4).map λw=>(0::w.2)::w.1
def Wk(a:List RN) (t i:Nat):Nat:=gt (a.getD i []) (t-i)
noncomputable def V8(t:Nat):List Nat:=(List.range 5).filter λi=>Nat.ble i t&&Nat.blt (t-i) 5
def AN(a:List RN) (t:Nat):RN:=(V8 t).map (Wk a t)
def free:Nat->RN->Bool
 |_,[]=>true
 |b,x::l=>bif Nat.beq (Nat.land b x) 0 then free (Nat.lor b x) l else false
def AT(a:List RN):Option RN:=bif (List.range 8).all λk=>free 0 (AN a (k+1)) then some (nz ((List.range 8).map λk=>(AN a (k+1)).sum)) else none
def tO(r s:RN):List RN:=(pK r s).filterMap AT
noncomputable def zU(x:Nat):Bool:=Nat.ble x 16
def gM(n c:Nat) (a:List (RN×RN)):Bool:=Nat.ble a.length 100&&a.all λp=>Nat.beq p.1.length n&&Nat.beq p.2.length c&&p.2.all zU
def gT(n c:Nat) (a:List T3):Bool:=Nat.ble a.length 100&&a.all λp=>Nat.beq p.1.length n&&Nat.beq p.2.1.length c&&p.2.1.all zU&&zU p.2.2
def tV(r s:RN):Bool:=((List.range (r.length+1)).all λk=>gM (r.length+s.length) s.length (mh r s k))&&((List.range r.length).all λk=>(List.range (s.length+1)).all λj=>gT (r.length+s.length) s.length (mY (k+1) (gt r k) (mh r s k) j))
def gL(left:RN) (j:Nat) (a:List (Nat×RN)):Bool:=Nat.ble a.length 100&&a.all λw=>zU w.1&&Nat.beq w.2.length j&&(w.2.zip left).all λq=>Nat.ble q.1 q.2
def gB(k:Nat) (a:List (List RN×RN)):Bool:=Nat.ble a.length 100&&a.all λw=>Nat.beq w.1.length k&&Nat.beq w.2.length 4&&w.2.all zU&&w.1.all λl=>Nat.beq l.length 5
def PQ(r s:RN):Bool:=((List.range 5).all λk=>gB k (D9 r s k))&&((List.range 4).all λk=>(D9 r s k).all λw=>(List.range 5).all λj=>gL w.2 j (Pl (gt r k) w.2 j))
def PR(r s:RN):Bool:=tV r s&&PQ (Ec r) (Ec s)&&decide (aN r s=tO r s)
def dc:Nat->RN->Nat
 |_,[]=>0
 |w,x::r=>w*x+dc (2*w+1) r
def fB:List RN:=(List.range 17).flatMap λa=>(List.range 6).flatMap λb=>(List.range 3).flatMap λc=>(List.range 2).flatMap λd=>bif Nat.ble (a+3*b+7*c+15*d) 16 then[nz [a,b,c,d]] else[]
def cm(r:RN):Bool:=fB.all λs=>bif Nat.ble (dc 1 r+dc 1 s) 16 then PR r s else true
def nv:Bool:=fB.all cm
theorem Cf{o:Type}{r:SG}{k:SS}{m:aa}{Q:Fl->aa->Prop}(E:o->D)(f:o->List D)(S:DS->Prop)(B:Nat){d:List o}{b:List D}{h:DS}{g:aa}(A:S h)(C:(b++d.flatMap f).length<=B)
  (t:∀a∈d,∀h b g,S h->(b++f a).length<=B->∃j,r (E a) h=some j/\∀R:Fl->aa->Prop,(∀c l,S c->R (.nx c) (m++(.lst (b++f a)::l)))->WP (k j (m++(.lst b::g))) R)
  (q:∀c l,S c->Q (.nx c) (m++(.lst (b++d.flatMap f)::l))):WP (dk r k (d.map E) h (m++(.lst b::g))) Q:=by
 refine fR (λi h s=>∃g,S h/\s=m++(.lst (b++(d.take i).flatMap f)::g)) ⟨g,A,by simp⟩ ?_ ?_
 ·rintro i x h s v ⟨g,n,rfl⟩;rw[fq] at v;obtain⟨z,p,rfl⟩:=iE.mp v;have e:(d.take (i+1)).flatMap f=(d.take i).flatMap f++f z:=by rw[zg p,pC];simp
  have u:((d.take (i+1)).flatMap f).length<=(d.flatMap f).length:=by
   conv=>rhs;rw[←kx (i+1) d,pC,cx]
   lia
  rw[e] at u;rw[cx] at C u;obtain⟨j,G,w⟩:=t z (db p) h (b++(d.take i).flatMap f) g n (by simp only[cx];lia);refine⟨j,G,w _ λc l y=>?_⟩;simp only[L];exact⟨l,y,by rw[e,eh]⟩
 ·rintro h s ⟨g,n,rfl⟩;rw[az,eQ];exact q _ _ n
noncomputable abbrev nI(n:Nat):D:=.int (n:Int)
abbrev rz(l:RN):D:=.tup (l.map nI)
def jM(p:T3):D:=.tup [rz p.1,rz p.2.1,nI p.2.2]
def lB(p:RN×RN):D:=.tup [rz p.1,rz p.2]
theorem Ee{l:RN}(h:p<l.length)(s:aa):cL (rz l) (.int p) s=.ok (nI (gt l p)) s:=
 lR rfl (B1 (j:=p) (xs:=l.map nI) (by rw[fq,dr h];unfold gt;rw[dO,dr h];rfl))
theorem rW{l:RN}{p v:Nat}{b:Int}(h:p<l.length)(c:l.length<=100)(a:(gt l p:Int)+b=v)(q:Q (rz (put l p v)) au):WP (ro [rz l,.int p,.int b] au) Q:=by
 refine fQ rfl ?_;simp only[W,V,M,Dd.N];refine WP.of (Ee h au) ?_;simp only[W,V,M,Dd.N];rw[oY,show((p:Int)+1)=((p+1:Nat):Int) by push_cast;rfl,Qg,a,←List.map_take,←List.map_drop];refine⟨by show 1<=sizeLine;decide,am _ (by simp;lia),am _ (by simp;lia),?_⟩;have e:(l.take p).map nI++[D.int (v:Int)]++(l.drop (p+1)).map nI=(put l p v).map nI:=by unfold put;simp
 rw[e];exact q
theorem rN(a b:Nat):(if(b:Int)<(a:Int) then(b:Int) else(a:Int))=(lo a b:Nat):=by
 unfold lo;cases c:Nat.ble a b with
 |true=>have:=ik c;rw[if_neg (by lia)];rfl
 |false=>
  have:¬ a<=b:=λz=>by rw[mO z] at c;cases c
  rw[if_pos (by lia)];rfl
theorem xo(a b:Nat):lo a b<=a:=by have:=rN a b;split at this<;>lia
theorem HN(a b:Nat):lo a b<=b:=by have:=rN a b;split at this<;>lia
theorem Em(a b:Nat):(Builtin.bitAnd (a:Int) (b:Int)=0)=(Nat.beq (Nat.land a b) 0=true):=by
 apply propext;rw[show Builtin.bitAnd (a:Int) (b:Int)=((Nat.land a b:Nat):Int) from rfl,Nat.beq_eq];lia
theorem IN(n:Nat):rng 0 n=(List.range n).map nI:=by
 unfold rng;exact pD λi _=>by rw[qr]
theorem GA{b:aa}{R:Fl->aa->Prop}(h:a<p.1.length)(l:p.1.length<=100)(t:1<=j)(k:j<=4)(m:j-1<p.2.1.length)(r:p.2.1.length<=100)
  (s:x<=gt p.2.1 (j-1))(d:x*2^j<=p.2.2)(f:x<=1000)(e:(acc++(jr a j p x).map jM).length<=1000)
  (q:R (.nx [v0,v1,some (nI j),some (nI a),some (.ref b.length),some (rz p.1),some (rz p.2.1),some (nI p.2.2),some (nI x)]) (b++(.lst (acc++(jr a j p x).map jM)::g))):
  WP (FU [v0,v1,some (nI j),some (nI a),some (.ref b.length),some (rz p.1),some (rz p.2.1),some (nI p.2.2),some (nI x)] (b++(.lst acc::g))) R:=by
 unfold FU;simp only[W,V];refine WP.of (Ee h _) ?_;simp only[W,V,Em,Dd.N];unfold jr at q e;cases c:Nat.beq (Nat.land (gt p.1 a) x) 0 with
 |false=>
  rw[c] at q;rw[if_neg (by decide)]
  simpa using q
 |true=>
  rw[c] at q e;rw[if_pos rfl];simp only[W,V,M];have o:acc.length<=999:=by simpa using e
  refine⟨_,_,rfl,iQ _ _,rW h l (v:=gt p.1 a+x) (by push_cast;rfl) ?_⟩;have n:((j:Int)-1)=((j-1:Nat):Int):=by lia
  rw[n];refine⟨trivial,rW m r (v:=gt p.2.1 (j-1)-x) (by lia) ?_⟩;refine⟨⟨by lia,by lia,by rw[Int.natAbs_natCast];exact jL f (by decide)⟩,trivial,by show 3<=sizeLine;decide,_,_,rfl,iQ _ _,cQ _ (by lia),?_⟩;rw[kS];have i:(p.2.2:Int)-(x:Int)*2^(j:Int).toNat=((p.2.2-x*2^j:Nat):Int):=by
   rw[nW,Int.ofNat_sub d]
   push_cast
   rfl
  rw[i];exact q
theorem HS(h:∀x∈l,x<=b):gt l p<=b:=by
 unfold gt;rw[dO];cases e:l[p]? with
 |none=>exact iT _
 |some x=>exact h x (db e)
theorem NN(h:x∈List.range (lo a (b/2^j)+1)):x<=a/\x*2^j<=b:=by
 have h:=bT.mp h;have c:=xo a (b/2^j);have d:=HN a (b/2^j);exact⟨by lia,ay (Ow _ (by lia:x<=b/2^j)) (Nat.div_mul_le_self _ _)⟩
theorem IU(a j:Nat):(a:Int)/2^(j:Int).toNat=((a/2^j:Nat):Int):=by
 rw[nW]
 push_cast
 rfl
structure Eh (n c:Nat) (p:T3):Prop where
 l1:p.1.length=n
 l2:p.2.1.length=c
 sm:∀x∈p.2.1,x<=16
 le:p.2.2<=16
section
variable {au:aa}
theorem MR{n c i j:Nat}{e:List T3}{Q:D->aa->Prop}(Y:1<=i)(t:1<=j)(m:j<=4)(U:i+j-1<n)(S:j-1<c)(H:n<=8)(E:c<=4)(A:∀p∈e,Eh n c p)(T:(e.flatMap (js i j)).length<=100)
  (k:∀g,Q (.lst ((e.flatMap (js i j)).map jM)) (au++g)):WP (Df [.lst (e.map jM),nI i,nI j] au) Q:=by
 refine fQ rfl ?_;have y:((i:Int)+(j:Int)-1)=((i+j-1:Nat):Int):=by lia
 have u:((j:Int)-1)=((j-1:Nat):Int):=by lia
 simp only[W,V,Dd.N,y];refine⟨by decide,?_⟩;refine Cf jM (λp=>(js i j p).map jM) (λb=>∃o l h d:Option D,b=[some (.lst (e.map jM)),some (nI i),some (nI j),some (nI (i+j-1)),some (.ref au.length),o,l,h,d]) 1000 ⟨_,_,_,_,rfl⟩ (by rw[u8,←vc,az];lia) ?_ ?_
 ·rintro p C b r g ⟨o,l,h,d,rfl⟩ a;obtain⟨I,X,s,J⟩:=A p C;refine⟨_,rfl,λR f=>?_⟩;unfold So;simp only[W,V,Dd.N,u];refine WP.of (Ee (by lia) _) ?_;simp only[W,V,Dd.N,IU,rN];have v:=xo (gt p.2.1 (j-1)) (p.2.2/2^j);have P:=HS (p:=j-1) s;refine⟨by lia,f6 (by lia) (by lia),?_⟩;rw[show((lo (gt p.2.1 (j-1)) (p.2.2/2^j):Nat)+1:Int).toNat=lo (gt p.2.1 (j-1)) (p.2.2/2^j)+1 by lia,IN];unfold js at a f;rw[vc] at a f;refine Cf nI (λx=>(jr (i+j-1) j p x).map jM) (λb=>∃d:Option D,b=[some (.lst (e.map jM)),some (nI i),some (nI j),some (nI (i+j-1)),some (.ref au.length),some (rz p.1),some (rz p.2.1),some (nI p.2.2),d]) 1000 ⟨_,rfl⟩ a ?_ ?_
  ·rintro x G b r g ⟨d,rfl⟩ q;obtain⟨z,w⟩:=NN G;refine⟨_,rfl,λR f=>?_⟩;exact GA (by lia) (by lia) t m (by lia) (by lia) z w (by lia) q (f _ _ ⟨_,rfl⟩)
  ·rintro b g ⟨d,rfl⟩;exact f _ _ ⟨_,_,_,_,rfl⟩
 ·rintro b g ⟨o,l,h,d,rfl⟩;simp only[W,V,M];refine⟨_,_,rfl,iQ _ _,?_⟩;rw[kS,←vc];exact k _
theorem Kf{n c i d w:Nat}{e:List (RN×RN)}{Q:D->aa->Prop}(S:1<=i)(ha:i+c<=n)(I:w=c)(E:n<=8)(u:c<=4)(hl:e.length<=100)(t:∀j,j<=c->(mY i d e j).length<=100/\∀p∈mY i d e j,Eh n c p)(P:(Ed i d c e).length<=100)
  (k:∀g,Q (.lst ((Ed i d c e).map lB)) (au++g)):WP (C9 [.lst (e.map lB),nI i,nI d,nI w] au) Q:=by
 subst I;refine fQ rfl ?_;have A:((i:Int)-1)=((i-1:Nat):Int):=by lia
 simp only[W,V,Dd.N];refine⟨by rw[az];exact am _ (by lia),?_⟩;refine re (as:=e) (λf=>∃a b,f=[a,b,some (nI d)]) (λ_=>true) (λp=>jM (p.1,p.2,d)) lB ⟨_,_,rfl⟩ ?_ ?_
 ·rintro p C f ⟨a,b,rfl⟩;refine⟨_,rfl,⟨_,_,rfl⟩,by simp only[W,uU],λ_=>?_⟩;simp only[W,V];exact⟨by show 3<=sizeLine;decide,trivial,rfl⟩
 rw[uP];have T:e.map (λp=>jM (p.1,p.2,d))=(mY i d e 0).map jM:=by show _=(e.map _).map _;rw[gi];rfl
 rw[T];refine⟨f6 (by lia) (by lia),f6 (by lia) (by lia),?_⟩;refine fR (λj f s=>(∃m:Option D,f=[some (.lst (e.map lB)),some (nI i),some (nI d),some (nI w),some (.lst ((mY i d e j).map jM)),m,none,none,none,none])/\∃g,s=au++g) ⟨⟨_,rfl⟩,[],by simp⟩ ?_ ?_
 ·rintro j x f s U ⟨⟨m,rfl⟩,g,rfl⟩;obtain⟨G,rfl⟩:=rg U;refine⟨_,rfl,?_⟩;unfold Si;simp only[W,V,L];rw[show((1:Int)+(j:Int))=((j+1:Nat):Int) by lia];have G:j<w:=by lia
  have o:=t j (by lia);have X:=t (j+1) (by lia);refine MR (n:=n) (c:=w) S (by lia) (by lia) (by lia) (by lia) E u o.2 X.1 λJ=>?_
  exact⟨⟨_,rfl⟩,g++J,by rw[eh]⟩
 ·rintro f s ⟨⟨m,rfl⟩,g,rfl⟩;rw[mw,show((w:Int)+1-1).toNat=w by lia];simp only[W,V,Dd.N];refine⟨by decide,?_⟩;refine Cf jM (λp=>(nr i p).map lB) (λf=>∃r y q:Option D,f=[some (.lst (e.map lB)),some (nI i),some (nI d),some (nI w),some (.lst ((mY i d e w).map jM)),m,some (.ref (au++g).length),r,y,q]) 1000 ⟨_,_,_,rfl⟩ (by rw[u8,←vc,az];unfold Ed at P;lia) ?_ ?_
  ·rintro p C f z o ⟨r,y,q,rfl⟩ h;obtain⟨Y,o2,o3,o4⟩:=(t w (bj _)).2 p C;refine⟨_,rfl,λR l=>?_⟩;unfold Sj;simp only[W,V,Dd.N,A];refine WP.of (Ee (by lia) _) ?_;simp only[W,V,Dd.N,Em];unfold nr at l h;cases c:Nat.beq (Nat.land (gt p.1 (i-1)) p.2.2) 0 with
   |false=>
    rw[c] at l;rw[if_neg (by decide)];have:=l [some (.lst (e.map lB)),some (nI i),some (nI d),some (nI w),some (.lst ((mY i d e w).map jM)),m,some (.ref (au++g).length),some (rz p.1),some (rz p.2.1),some (nI p.2.2)] o ⟨_,_,_,rfl⟩
    simpa using this
   |true=>
    rw[c] at l h;rw[if_pos rfl];have H:z.length<=999:=by simpa using h
    simp only[W,V,M,A];refine⟨_,_,rfl,iQ _ _,trivial,rW (by lia) (by lia) (v:=gt p.1 (i-1)+p.2.2) (by push_cast;rfl) ?_⟩;refine⟨by show 2<=sizeLine;decide,_,_,rfl,iQ _ _,cQ _ (by lia),?_⟩;rw[kS];exact l _ _ ⟨_,_,_,rfl⟩
  ·rintro f o ⟨r,y,q,rfl⟩;simp only[W,V,M];refine⟨_,_,rfl,iQ _ _,?_⟩;rw[kS,←vc,eh];exact k _
end
theorem FA{m:Nat}(a:m<=1000):gZ (.tup [.int 0]) (.int m) s=.ok (rz (List.replicate m 0)) s:=by
 unfold gZ;dsimp only;rw[if_pos ⟨by simp,by lia,by lia,by simp;lia⟩];unfold dw
 congr 2
 rw[nW]
 induction m with
 |zero=>rfl
 |succ k ih=>rw[nY,sQ,ih (by lia),nY];rfl
theorem EG:∀(a b:RN),bY (a.map nI) (b.map nI)=(a.zip b).map λq=>D.tup [nI q.1,nI q.2]
 |[],_=>by simp[bY]
 |_::_,[]=>by simp[bY]
 |x::a,y::b=>by
  rw[cf,cf,bY,EG a b,y9,cf]
theorem IZ{e:List (RN×RN)}(z:n<=8)(y:c<=n)(G:e.length<=100)(v:∀p∈e,p.1.length=n/\p.2.length=c)
  (k:∀g,Q (.lst ((e.flatMap cB).map rz)) (au++g)):WP (C6 [.lst (e.map lB)] au) Q:=by
 refine fQ rfl ?_;simp only[W,V,Dd.N];refine⟨by decide,?_⟩;have u:(e.flatMap λp=>(cB p).map rz).length<=1000:=by
  have:∀i:List (RN×RN),(i.flatMap λp=>(cB p).map rz).length<=i.length:=λi=>by
   induction i with
   |nil=>simp
   |cons a i ih=>
    rw[sO,cx,dN];have:((cB a).map rz).length<=1:=by
     unfold cB;cases((a.1.zip (dg a)).all λq=>Nat.beq (Nat.land q.1 q.2) 0)<;>simp
    lia
  have:=this e;lia
 refine Cf lB (λp=>(cB p).map rz) (λd=>∃l m j:Option D,d=[some (.lst (e.map lB)),some (.ref au.length),l,m,j]) 1000 ⟨_,_,_,rfl⟩ (by rw[u8];exact u) ?_ ?_
 ·rintro p w d o g ⟨l,m,j,rfl⟩ f;obtain⟨A,C⟩:=v p w;refine⟨_,rfl,λR h=>?_⟩;unfold Sf;simp only[W,V,Dd.N];refine⟨by show 1<=sizeLine;decide,?_⟩;rw[show(((p.1.map nI).length:Nat):Int)-(((p.2.map nI).length:Nat):Int)=((p.1.length-p.2.length:Nat):Int) by rw[az,az];lia];refine WP.of (FA (by lia)) ?_;simp only[W,V,Dd.N];rw[←gC,show p.2++List.replicate (p.1.length-p.2.length) 0=dg p from rfl];have E:(p.1.zip (dg p)).length<=8:=by rw[List.length_zip];lia
  refine⟨am _ (by simp;lia),?_⟩;simp only[W,V,M,Dd.N,EG];refine⟨by rw[az];exact am _ (by lia),?_⟩;refine re (as:=p.1.zip (dg p)) (λd=>∃a b,d=[a,b]) (λ_=>true) (λq=>.bl (Nat.beq (Nat.land q.1 q.2) 0)) (λq=>D.tup [nI q.1,nI q.2]) ⟨_,_,rfl⟩ ?_ ?_
  ·rintro q x d ⟨a,b,rfl⟩;refine⟨_,rfl,⟨_,_,rfl⟩,by simp only[W,uU],λ_=>?_⟩;simp only[W,V,Dd.N,Em]
   congr 1
   cases Nat.beq (Nat.land q.1 q.2) 0<;>rfl
  rw[uP];refine⟨_,(by exact RI _ _),?_⟩;have r:((p.1.zip (dg p)).map λq=>Nat.beq (Nat.land q.1 q.2) 0).all id=(p.1.zip (dg p)).all λq=>Nat.beq (Nat.land q.1 q.2) 0:=by
   rw[List.all_map];rfl
  simp only[h8,r];unfold cB at h f;cases c:(p.1.zip (dg p)).all λq=>Nat.beq (Nat.land q.1 q.2) 0 with
  |false=>
   rw[c] at h;simp only[W,V];have:=h [some (.lst (e.map lB)),some (.ref au.length),some (rz p.1),some (rz p.2),some (rz (dg p))] g ⟨_,_,_,rfl⟩
   simpa using this
  |true=>
   rw[c] at h f;have s:o.length<=999:=by simpa using f
   simp only[W,V,M,Dd.N,EG];refine⟨_,_,rfl,iQ _ _,by rw[az];exact am _ (by lia),?_⟩;refine re (as:=p.1.zip (dg p)) (λd=>∃a b,d=[a,b]) (λ_=>true) (λq=>nI (q.1+q.2)) (λq=>D.tup [nI q.1,nI q.2]) ⟨_,_,rfl⟩ ?_ ?_
   ·rintro q x d ⟨a,b,rfl⟩;refine⟨_,rfl,⟨_,_,rfl⟩,by simp only[W,uU],λ_=>?_⟩;simp only[W,V,Dd.N]
    push_cast
    rfl
   rw[uP];refine⟨_,_,rfl,iQ _ _,cQ _ (by lia),?_⟩;rw[kS];have:=h [some (.lst (e.map lB)),some (.ref au.length),some (rz p.1),some (rz p.2),some (rz (dg p))] g ⟨_,_,_,rfl⟩;have t:List.map rz (bif true then[(p.1.zip (dg p)).map λq=>q.1+q.2] else[])=[D.tup ((p.1.zip (dg p)).map λq=>nI (q.1+q.2))]:=by
    show[rz _]=_;unfold rz;rw[gi]
    rfl
   rw[t] at this;exact this
 ·rintro d g ⟨l,m,j,rfl⟩;simp only[W,V,M];refine⟨_,_,rfl,iQ _ _,?_⟩;rw[kS,←vc];exact k _
theorem Mt(l:RN):nz (l++[0])=nz l:=by
 unfold nz;rw[List.foldr_append]
 rfl
theorem Ko(h:x≠0):nz (l++[x])=l++[x]:=by
 have a:Nat.beq x 0=false:=by
  cases e:Nat.beq x 0 with
  |true=>exact absurd (gV e) h
  |false=>rfl
 induction l with
 |nil=>unfold nz;simp only[u8,Dv,List.foldr_nil,a,cond_false]
 |cons y l ih=>
  unfold nz at ih ⊢;rw[nV,Dv,ih];cases l<;>rfl
theorem Ur(r:RN):r=[]\/∃l x,r=l++[x]:=by
 rcases List.eq_nil_or_concat r with h|⟨l,x,h⟩
 ·exact .inl h
 ·exact .inr ⟨l,x,by simpa using h⟩
theorem HX(a:s[n]?=some (.lst ((l++[x]).map nI))):pU (aA 1) [v,some (.ref n)] s=.ok (nI x) (s.set n (.lst (l.map nI))):=by
 have b:((l++[x]).map nI)=l.map nI++[nI x]:=by simp
 show(match s[n]? with
  |some (.lst xs)=>match xs[xs.length-1]? with
   |some y=>bJ.ok y (s.set n (.lst xs.dropLast))
   |none=>.stuck
  |_=>.stuck)=_
 rw[a,b];simp
theorem Go{r:RN}(n:r.length<=1000)(k:∀g,Q (rz (nz r)) (au++g)):WP (Dk [rz r] au) Q:=by
 refine fQ rfl ?_;refine uE (R:=λb s=>b=.nx [some (rz r),some (.ref au.length)]/\s=au++[.lst (r.map nI)]) ?_ ?_
 ·simp only[W,V];exact WP.of (show ja [rz r] au=.ok (.ref au.length) (au++[.lst (r.map nI)]) from rfl) ⟨rfl,rfl⟩
 rintro b s ⟨rfl,rfl⟩;show WP _ _;refine uE (R:=λb s=>b=.nx [some (rz r),some (.ref au.length)]/\s=au++[.lst ((nz r).map nI)]) ?_ ?_
 ·refine CG (λm h s=>∃a:RN,m=a.length/\h=[some (rz r),some (.ref au.length)]/\s=au++[.lst (a.map nI)]/\nz a=nz r) (k:=r.length) ⟨r,rfl,rfl,rfl,rfl⟩ (by lia) ?_;rintro j h s ⟨a,rfl,rfl,rfl,e⟩;have d:(au++[O.lst (a.map nI)])[au.length]?=some (.lst (a.map nI)):=by simp
  rcases Ur a with rfl|⟨l,x,rfl⟩
  ·simp only[W,V];refine⟨false,?_,?_⟩
   ·show(eY (au++[O.lst []]) (.ref au.length)).map (λa=>!a.isEmpty)=some false;rw[oD (xs:=[]) (by simp)]
    rfl
   ·simp only[W,V];rw[←e];exact⟨trivial,rfl⟩
  ·have f:((l++[x]).map nI)=l.map nI++[nI x]:=by simp
   simp only[W,V];refine⟨true,?_,?_⟩
   ·show(eY (au++[O.lst ((l++[x]).map nI)]) (.ref au.length)).map (λa=>!a.isEmpty)=some true;rw[oD d,f];simp
   ·simp only[W,V];refine WP.of (lR (wn d) (by rw[f];exact EX _ _)) ?_;simp only[W,V];by_cases c:(x:Int)=0
    ·rw[if_pos c];have i:x=0:=by lia
     subst i;unfold Su;simp only[W];refine WP.of (HX d) ?_;simp only[L];exact⟨l.length,by simp,l,rfl,trivial,by rw[kS],by rw[←e,Mt]⟩
    ·rw[if_neg c];rw[←e,Ko (by lia)];exact⟨trivial,rfl⟩
 rintro b s ⟨rfl,rfl⟩;show WP _ _;simp only[W,V];refine WP.of (FB (xs:=(nz r).map nI) (by simp)) ?_;exact k _
end Tab
end Dd
namespace Dd
open L2 K07 K23
def bv(r:List Int):List Nat:=(List.range (r.length-1)).filter λp=>decide (bg r p)
noncomputable abbrev kC(l:List Nat):List D:=l.map λ(p:Nat)=>D.int (p:Int)
theorem CW:p∈bv r↔bg r p:=by
 unfold bv;rw[fH,bT,qw];refine⟨λh=>h.2,λh=>⟨?_,h⟩⟩;obtain⟨a,b,_,e,_⟩:=h;have:=(cn.mp e).1;lia
end Dd
namespace Dd
open L2
namespace Tab
def aM(l:RN):cq:=l.map λ(n:Nat)=>(n:Int)
def jZ(r:cq):RN:=r.map Int.toNat
theorem h7(l:RN):jZ (aM l)=l:=by
 unfold jZ aM;rw[gi]
 induction l with
 |nil=>rfl
 |cons a l ih=>rw[cf,ih];simp
theorem Cb(l:RN):rz l=aL (aM l):=by
 unfold rz aL aM;rw[gi]
 rfl
theorem M6(l:List RN):l.map rz=aJ (l.map aM):=by
 unfold aJ;rw[gi];exact pD λx _=>Cb x
theorem ER:∀(l:RN) (w:Nat),mP (w:Int) (aM l)=(dc w l:Nat)
 |[],_=>rfl
 |x::l,w=>by
  have:=ER l (2*w+1);unfold aM at this ⊢;rw[cf,mP,dc,show(2*(w:Int)+1)=((2*w+1:Nat):Int) by push_cast;rfl,this]
  push_cast
  rfl
theorem kW(h:(a&&b)=true):a=true/\b=true:=by simpa using h
structure GM (n c:Nat) (ps:List (RN×RN)):Prop where
 len:ps.length<=100
 l1:∀p∈ps,p.1.length=n/\p.2.length=c
theorem wH(h:gM n c ps=true):GM n c ps:=by
 obtain⟨b,g⟩:=kW h;refine⟨ik b,λp f=>?_⟩;have:=di.mp g p f;obtain⟨e,i⟩:=kW this;obtain⟨d,a⟩:=kW e;exact⟨gV d,gV a⟩
theorem Gi(h:gT n c a=true):a.length<=100/\∀p∈a,Eh n c p:=by
 obtain⟨d,m⟩:=kW h;refine⟨ik d,λp k=>?_⟩;have:=di.mp m p k;obtain⟨j,g⟩:=kW this;obtain⟨f,b⟩:=kW j;obtain⟨e,l⟩:=kW f;exact⟨gV e,gV l,λx i=>ik (di.mp b x i),ik g⟩
theorem yE(b:List (RN×RN)):(b.flatMap cB).length<=b.length:=by
 induction b with
 |nil=>simp
 |cons a qs ih=>
  rw[sO,cx,dN];have:(cB a).length<=1:=by
   unfold cB;cases((a.1.zip (dg a)).all λq=>Nat.beq (Nat.land q.1 q.2) 0)<;>simp
  lia
theorem NQ(a:tV r s=true):(aN r s).length<=100:=by
 obtain⟨c,d⟩:=kW a;have b:=wH (di.mp c r.length (bT.mpr (by lia)));unfold aN;rw[az];have:=yE (mh r s r.length);have:=b.len;lia
theorem Ew{r s:RN}(hr:r.length<=4)(S:s.length<=4)(ck:tV r s=true)(k:∀g,Q (.lst ((aN r s).map rz)) (au++g)):WP (Dj [rz r,rz s] au) Q:=by
 obtain⟨J,R⟩:=kW ck;have z:∀k,k<=r.length->GM (r.length+s.length) s.length (mh r s k):=λk C=>wH (di.mp J k (bT.mpr (by lia)))
 have H:∀k,k<r.length->∀j,j<=s.length->(mY (k+1) (gt r k) (mh r s k) j).length<=100/\∀p∈mY (k+1) (gt r k) (mh r s k) j,Eh (r.length+s.length) s.length p:=λk C j hj=>Gi (di.mp (di.mp R k (bT.mpr C)) j (bT.mpr (by lia)))
 refine fQ rfl ?_;simp only[W,V,Dd.N];refine⟨by show 1<=sizeLine;decide,?_⟩;rw[show((((r.map nI).length:Nat):Int)+(((s.map nI).length:Nat):Int))=((r.length+s.length:Nat):Int) by rw[az,az];push_cast;rfl];refine WP.of (FA (by lia)) ?_;refine⟨by show 2<=sizeLine;decide,by show 1<=sizeLine;decide,?_⟩;refine WP.of (show hH (aA 0) [some (rz r),some (rz s),some (.lst [D.tup [rz (List.replicate (r.length+s.length) 0),rz s]]),none,none] au=.ok (gd 1 (r.map nI)) au from rfl) ?_;refine fR (λi d t=>(∃A u:Option D,d=[some (rz r),some (rz s),some (.lst ((mh r s i).map lB)),A,u])/\∃g,t=au++g) ⟨⟨_,_,rfl⟩,[],by simp⟩ ?_ ?_
 ·rintro i x d t o ⟨⟨A,u,rfl⟩,g,rfl⟩;obtain⟨y,E,rfl⟩:=Cy o;rw[fq] at E;obtain⟨n,w,rfl⟩:=iE.mp E;have X:i<r.length:=by
   rcases mG i r.length with h|h
   ·exact h
   ·rw[zC h] at w;cases w
  have P:n=gt r i:=by unfold gt;rw[dO,w];rfl
  subst P;refine⟨_,rfl,?_⟩;unfold Ss;simp only[W,V,L];rw[show(1:Int)+(i:Int)=((i+1:Nat):Int) by lia,show(((s.map nI).length:Nat):Int)=((s.length:Nat):Int) by rw[az]];refine Kf (n:=r.length+s.length) (c:=s.length) (by lia) (by lia) rfl (by lia) S (z i (by lia)).len (H i X) (z (i+1) (by lia)).len λT=>?_
  exact⟨⟨_,_,rfl⟩,g++T,by rw[eh]⟩
 ·rintro d t ⟨⟨A,u,rfl⟩,g,rfl⟩;rw[ww,az];simp only[W,V];have m:=z r.length (bj _);refine IZ (n:=r.length+s.length) (c:=s.length) (by lia) (by lia) m.len m.l1 λI=>?_
  simp only[W,V,Dd.N];have h3:=yE (mh r s r.length);have h4:=m.len;refine⟨by rw[az];exact am _ (by lia),?_⟩;have e:∀l∈(mh r s r.length).flatMap cB,l.length<=8:=λl b=>by
   obtain⟨p,U,b⟩:=ll.mp b;have:=m.l1 p U;unfold cB at b;cases c:((p.1.zip (dg p)).all λq=>Nat.beq (Nat.land q.1 q.2) 0) with
   |false=>rw[c] at b;simp at b
   |true=>
    rw[c] at b;rw[fJ.mp b,az,List.length_zip];lia
  refine yG (λj f d t=>(∃v,d=[v])/\f=((((mh r s r.length).flatMap cB).take j).map nz).map rz/\∃g,t=au++g) ⟨⟨_,rfl⟩,rfl,g++I,by rw[eh]⟩ ?_ ?_
  ·rintro j x f d t o ⟨⟨v,rfl⟩,rfl,G,rfl⟩;rw[fq] at o;obtain⟨l,b,rfl⟩:=iE.mp o;refine⟨_,rfl,?_⟩;simp only[W,V];refine Go (by have:=e l (db b);lia) λY=>?_
   exact⟨⟨_,rfl⟩,by rw[zg b,gC,gC];rfl,G++Y,by rw[eh]⟩
  ·rintro ys d t ⟨⟨v,rfl⟩,rfl,G,rfl⟩;rw[az,eQ];exact k _
def mk(r s:cq):List cq:=(aN (jZ r) (jZ s)).map aM
structure Pr (r s:cq) (rn sn:RN):Prop where
 er:r=aM rn
 es:s=aM sn
 lr:rn.length<=4
 ls:sn.length<=4
 wt:dc 1 rn+dc 1 sn<=16
 ck:PR rn sn=true
theorem Cs{b d:Type}{f:b->List d}{c:Nat}:∀{l:List b},(∀x∈l,(f x).length<=c)->(l.flatMap f).length<=c*l.length
 |[],_=>by simp
 |a::l,h=>by
  have i:=h a (by simp);have g:=Cs (l:=l) λx e=>h x (cr _ e)
  rw[sO,cx,dN,Nat.mul_succ];lia
theorem Rc(A:List cq)(x:cq):aP (A++[x])=aR (aP A) x:=by
 unfold aP;rw[kr]
 rfl
theorem Fd{one other:List cq}(h1:one.length<=40)(h2:other.length<=40)(w:∀r∈one,∀s∈other,∃rn sn,Pr r s rn sn)(k:∀g,Q (aK (aQ (one.flatMap λr=>other.flatMap (mk r)))) (au++g)):WP (oB [aK one,aK other] au) Q:=by
 have E:∀r∈one,∀s∈other,(mk r s).length<=100:=λr e s q=>by
  obtain⟨rn,sn,p⟩:=w r e s q;unfold mk;rw[az,p.er,p.es,h7,h7];exact NQ (kW (kW p.ck).1).1
 have P:∀r∈one,∀j,((other.take j).flatMap (mk r)).length<=4000:=λr e j=>by
  have:=Cs (l:=other.take j) (f:=mk r) (c:=100) λs q=>E r e s (l5 q)
  have T:(other.take j).length<=other.length:=by rw[fj];exact ko _ _
  lia
 have I:∀i,((one.take i).flatMap λr=>other.flatMap (mk r)).length<=160000:=λi=>by
  have:=Cs (l:=one.take i) (f:=λr=>other.flatMap (mk r)) (c:=4000) λr e=>by
   have:=P r (l5 e) other.length
   rwa [eQ] at this
  have T:(one.take i).length<=one.length:=by rw[fj];exact ko _ _
  lia
 refine fQ rfl ?_;simp only[W,V,Dd.N];refine fR (λi a s=>(∃v h d:Option D,a=[some (aK one),some (aK other),some (.ref au.length),v,h,d])/\∃g,s=au++(.dT (aS (aP ((one.take i).flatMap λr=>other.flatMap (mk r))))::g)) ⟨⟨_,_,_,rfl⟩,[],rfl⟩ ?_ ?_
 ·rintro i y a s n ⟨⟨v,h,d,rfl⟩,g,rfl⟩;obtain⟨r,o,rfl⟩:=zu n;have e:=db o;refine⟨_,rfl,?_⟩;unfold Rs;simp only[W,V,Dd.N];refine fR (λj a s=>(∃h d:Option D,a=[some (aK one),some (aK other),some (.ref au.length),some (aL r),h,d])/\∃g,s=au++(.dT (aS (aP (((one.take i).flatMap λr=>other.flatMap (mk r))++(other.take j).flatMap (mk r))))::g)) ⟨⟨_,_,rfl⟩,g,by simp⟩ ?_ ?_
  ·rintro j y a s n ⟨⟨h,d,rfl⟩,g,rfl⟩;obtain⟨t,m,rfl⟩:=zu n;have G:=db m;obtain⟨rn,sn,p⟩:=w r e t G;have Y:mP 1 r=(dc 1 rn:Nat):=by rw[p.er];exact ER rn 1
   have et:mP 1 t=(dc 1 sn:Nat):=by rw[p.es];exact ER sn 1
   have hw:=p.wt;have H:=p.lr;have J:=p.ls;have u:mk r t=(aN rn sn).map aM:=by unfold mk;rw[p.er,p.es,h7,h7]
   refine⟨_,rfl,?_⟩;unfold Rr;simp only[W,V];refine Rf (by rw[p.er];unfold aM;rw[az];exact H) ?_;refine Rf (by rw[p.es];unfold aM;rw[az];exact J) ?_;simp only[W,V,Dd.N];rw[if_neg (by lia)];have A:aL r=rz rn:=by rw[p.er,Cb]
   have C:aL t=rz sn:=by rw[p.es,Cb]
   rw[A,C];refine Ew H J (kW (kW p.ck).1).1 λS=>?_
   simp only[W,V,Dd.N];rw[M6,←u,eh,nV];generalize g++S=g3;have x:=I i;have U:=P r e j;have b3:=E r e t G;refine fR (λz a s=>(∃d:Option D,a=[some (aK one),some (aK other),some (.ref au.length),some (rz rn),some (rz sn),d])/\s=au++(.dT (aS (aP (((one.take i).flatMap λr=>other.flatMap (mk r))++(other.take j).flatMap (mk r)++(mk r t).take z)))::g3)) ⟨⟨_,rfl⟩,by simp⟩ ?_ ?_
   ·rintro z y a s n ⟨⟨d,rfl⟩,rfl⟩;obtain⟨b,R,rfl⟩:=zu n;refine⟨_,rfl,?_⟩;unfold Rq;simp only[W,V,L];have X:=zx (((one.take i).flatMap λr=>other.flatMap (mk r))++(other.take j).flatMap (mk r)++(mk r t).take z);have b5:((mk r t).take z).length<=(mk r t).length:=by rw[fj];exact ko _ _
    rw[cx,cx] at X;refine vM (iQ _ _) (by lia) ⟨⟨_,rfl⟩,?_⟩;rw[kS,zg R,←eh,Rc]
   ·rintro a s ⟨⟨d,rfl⟩,rfl⟩;simp only[L];rw[←A,←C];refine⟨⟨_,_,rfl⟩,g3,?_⟩;rw[zd,eQ,zg m,pC,zH,eh]
  ·rintro a s ⟨⟨h,d,rfl⟩,g,rfl⟩;simp only[L];refine⟨⟨_,_,_,rfl⟩,g,?_⟩;rw[zd,eQ,zg o,pC,zH]
 ·rintro a s ⟨⟨v,h,d,rfl⟩,g,rfl⟩;rw[zd,eQ];have x:=I one.length;rw[eQ] at x;simp only[W,V];have U:=zx (one.flatMap λr=>other.flatMap (mk r));refine CQ (iQ _ _) (by lia) ?_;simp only[W,V];exact k _
theorem Wj:List.all [[],[0,0,0,1],[0,0,1],[0,0,2],[0,1],[0,1,1]] cm=true:=by decide +kernel
theorem Wi:List.all [[0,2],[0,2,1],[0,3],[0,3,1],[0,4],[0,5]] cm=true:=by decide +kernel
theorem Wh:List.all [[1],[1,0,0,1],[1,0,1],[1,0,2],[1,1],[1,1,1]] cm=true:=by decide +kernel
theorem Wg:List.all [[1,2],[1,2,1],[1,3],[1,4],[1,5],[2]] cm=true:=by decide +kernel
theorem Wf:List.all [[2,0,1],[2,0,2],[2,1],[2,1,1],[2,2],[2,2,1]] cm=true:=by decide +kernel
theorem We:List.all [[2,3],[2,4],[3],[3,0,1],[3,1],[3,1,1]] cm=true:=by decide +kernel
theorem Wd:List.all [[3,2],[3,2,1],[3,3],[3,4],[4],[4,0,1]] cm=true:=by decide +kernel
theorem Wc:List.all [[4,1],[4,1,1],[4,2],[4,3],[4,4],[5]] cm=true:=by decide +kernel
theorem Wb:List.all [[5,0,1],[5,1],[5,1,1],[5,2],[5,3],[6]] cm=true:=by decide +kernel
theorem Wa:List.all [[6,0,1],[6,1],[6,1,1],[6,2],[6,3],[7]] cm=true:=by decide +kernel
theorem PP:List.all [[7,0,1],[7,1],[7,2],[7,3],[8],[8,0,1]] cm=true:=by decide +kernel
theorem PN:List.all [[8,1],[8,2],[9],[9,0,1],[9,1],[9,2]] cm=true:=by decide +kernel
theorem PM:List.all [[10],[10,1],[10,2],[11],[11,1],[12]] cm=true:=by decide +kernel
theorem PL:List.all [[12,1],[13],[13,1],[14],[15],[16]] cm=true:=by decide +kernel
theorem G1:fB=[[],[0,0,0,1],[0,0,1],[0,0,2],[0,1],[0,1,1]]++([[0,2],[0,2,1],[0,3],[0,3,1],[0,4],[0,5]]++([[1],[1,0,0,1],[1,0,1],[1,0,2],[1,1],[1,1,1]]++([[1,2],[1,2,1],[1,3],[1,4],[1,5],[2]]++([[2,0,1],[2,0,2],[2,1],[2,1,1],[2,2],[2,2,1]]++([[2,3],[2,4],[3],[3,0,1],[3,1],[3,1,1]]++([[3,2],[3,2,1],[3,3],[3,4],[4],[4,0,1]]++([[4,1],[4,1,1],[4,2],[4,3],[4,4],[5]]++([[5,0,1],[5,1],[5,1,1],[5,2],[5,3],[6]]++([[6,0,1],[6,1],[6,1,1],[6,2],[6,3],[7]]++([[7,0,1],[7,1],[7,2],[7,3],[8],[8,0,1]]++([[8,1],[8,2],[9],[9,0,1],[9,1],[9,2]]++([[10],[10,1],[10,2],[11],[11,1],[12]]++([[12,1],[13],[13,1],[14],[15],[16]]))))))))))))):=by decide +kernel
theorem Nu:nv=true:=by
 unfold nv;rw[G1];simp only[List.all_append,Wj,Wi,Wh,Wg,Wf,We,Wd,Wc,Wb,Wa,PP,PN,PM,PL,Bool.and_self]
theorem w8(c:r∈fB)(d:s∈fB)(h:dc 1 r+dc 1 s<=16):PR r s=true:=by
 have b:=di.mp Nu r c;have a:=di.mp b s d;rw[mO h] at a;exact a
theorem uz(a:r∈fB):r.length<=4:=by
 have:fB.all (λr=>Nat.ble r.length 4)=true:=by decide +kernel
 exact ik (di.mp this r a)
end Tab
end Dd
namespace K40
end K40
namespace Dd
open L2 K07 K23
noncomputable def ak:Int->List Int->Int
 |_,[]=>0
 |n,x::xs=>n*x+ak (n+1) xs
theorem wv:∀(a b:List Int) (n:Int),ak n (a++b)=ak n a+ak (n+a.length) b
 |[],b,n=>by simp[ak]
 |x::a,b,n=>by
  rw[nV,ak,ak,wv a b (n+1),dN,show n+1+(a.length:Int)=n+((a.length+1:Nat):Int) by push_cast;lia];lia
theorem yn:∀(a:List Int) (n:Int),ak (n+1) a=ak n a+a.sum
 |[],n=>by simp[ak]
 |x::a,n=>by
  rw[ak,ak,yn a (n+1),kl,yN];lia
noncomputable def eU:Int->List Int->List Int
 |_,[]=>[]
 |n,x::xs=>n*x::eU (n+1) xs
theorem Re:∀(a:List Int) (n:Int),(eU n a).sum=ak n a
 |[],n=>rfl
 |x::a,n=>by rw[eU,kl,Re a,ak]
theorem RD:∀(a:List Int) (x n:Int),eU n (a++[x])=eU n a++[(n+a.length)*x]
 |[],x,n=>by simp[eU]
 |y::a,x,n=>by
  rw[nV,eU,eU,RD a x (n+1),dN,show n+1+(a.length:Int)=n+((a.length+1:Nat):Int) by push_cast;lia]
  rfl
theorem Lq{a:List Int}:hV [.lst (a.map .int)] au=.ok (.int a.sum) au:=by
 unfold hV
 show(match ((some (a.map D.int)).bind bC) with
  |some a=>bJ.ok (D.int a.sum) au
  |none=>.stuck)=_
 rw[Option.bind_some,rA]
theorem Ki(m:eN I x):aU bQ (aA 0) (aA 1) [some (.int I),some (.int x)] s=.ok (.int (I*x)) s:=by simp[m]
theorem Pk:gT 2 (av (gN 0) (av (gN 1) dh)) (.tup [.int I,.int x]) [v,w]=some [some (.int I),some (.int x)]:=rfl
theorem Kh(k:∀x∈r,-10000<=x/\x<=10000):bN (gT 2 (av (gN 0) (av (gN 1) dh))) aI (aU bQ (aA 0) (aA 1)) (gd 1 (r.map .int)) [none,none] au=.ok ((eU 1 r).map D.int) au:=by
 have W:=uy (bd:=gT 2 (av (gN 0) (av (gN 1) dh))) (c:=aI) (f:=aU bQ (aA 0) (aA 1)) (xs:=gd 1 (r.map .int)) (σ:=[none,none]) (au:=au)
  (λi a g s=>s=au/\(∃v w:Option D,g=[v,w])/\a=(eU 1 (r.take i)).map D.int) ⟨rfl,⟨none,none,rfl⟩,rfl⟩ (by
   rintro i y a g s n ⟨rfl,⟨v,w,rfl⟩,rfl⟩;obtain⟨d,j,rfl⟩:=Cy n;rw[fq] at j;obtain⟨x,b,rfl⟩:=iE.mp j;have h:=k x (db b);have q:=(cn.mp b).1;have m:eN (1+(i:Int)) x:=i4 h.1 h.2;refine⟨[some (.int (1+(i:Int))),some (.int x)],true,s,Pk,rfl,.inr ⟨rfl,.int ((1+(i:Int))*x),s,Ki m,rfl,⟨_,_,rfl⟩,?_⟩⟩;rw[zg b,RD,gC,fj,lh (by lia)]
   simp)
 obtain⟨p,o,l,e,rfl,_,rfl⟩:=W;rw[ww,az,eQ] at e;exact e
theorem NV{r:List Int}(f:r.length<=1000)(b:∀x∈r,-10000<=x/\x<=10000):uF [aL r] au=.ok (.int (ak 1 r)) au:=by
 have e:=Kh (au:=au) b;refine iN rfl ?_;have a:(gd 1 (r.map D.int)).length<=sizeLine:=by rw[ww,az];exact am _ (by lia)
 have d:hH (aA 0) [some (aL r)] au=.ok (gd 1 (r.map D.int)) au:=rfl;have c:aG (hH (aA 0)) 2 [] (gT 2 (av (gN 0) (av (gN 1) dh))) aI (aU bQ (aA 0) (aA 1)) [some (aL r)] au=.ok (.lst ((eU 1 r).map D.int)) au:=by
  rw[rf,d,zw,if_pos a];show((bN _ _ _ _ [none,none] au).bind _)=_;rw[e]
  rfl
 show aY _ [some (aL r)] au=_;rw[p8,jF,oC,c,zw,wW,zw,zw,Lq,zw,Re]
theorem S9{r:List Int}(o:r.length<=1000):Ci [aL r] au=.ok (.lst (kC (bv r))) au:=by
 have W:=uy (bd:=gN 0) (c:=dY (aE oM (aB (aA 1) (aB (aA 0) aC)))) (f:=aA 0) (xs:=rng 0 (r.length-1)) (σ:=[none,some (aL r)]) (au:=au)
  (λi a d s=>s=au/\(∃w:Option D,d=[w,some (aL r)])/\a=kC ((List.range i).filter λp=>decide (bg r p))) ⟨rfl,⟨none,rfl⟩,rfl⟩ (by
   rintro i y a d s k ⟨rfl,⟨w,rfl⟩,rfl⟩;obtain⟨q,rfl⟩:=BR k;rw[qr];refine⟨[some (.int i),some (aL r)],decide (bg r i),s,rfl,?_,?_⟩
   ·rw[um,jF];show((oM [aL r,.int i] s).bind _)=_;rw[RP,nW,show decide (0<=(i:Int)/\bg r i)=decide (bg r i) by simp]
    rfl
   ·rw[va,mN];by_cases c:bg r i
    ·refine .inr ⟨eK c,.int i,s,rfl,rfl,⟨_,rfl⟩,?_⟩;simp[kC,c]
    ·refine .inl ⟨dM c,rfl,⟨_,rfl⟩,?_⟩
     simp[kC,c])
 obtain⟨n,l,st',e,rfl,_,rfl⟩:=W;rw[mw] at e;refine iN rfl ?_;have g:cO ((r.length:Int)-1):=f6 (by lia) (by lia);have b:(rng 0 (r.length-1)).length<=sizeLine:=by rw[mw];exact am _ (by lia)
 have m:jw (aB (aU df (aE cZ (aB (aA 0) aC)) (eC (.int 1))) aC) [some (aL r)] st'=.ok (rng 0 (r.length-1)) st':=by
  have h:=P9 (au:=st') (r:=r);have j:((r.length:Int)-1).toNat=r.length-1:=by lia
  generalize (r.length:Int)=N at *
  simp only[aL] at *
  generalize D.tup (r.map D.int)=R at *
  simp[h,g,j]
 show aY _ [some (aL r)] st'=_;rw[p8,rf,m,zw,if_pos b];show((bN _ _ _ _ [none,some (aL r)] st').bind _).bind _=_;rw[e]
 rfl
theorem Kp{ns:List Int}:eV false (.lst (ns.map .int)) (.lst []) au=.ok (.bl (decide (ns=[]))) au:=by
 unfold eV
 rw[show dataOf au (.lst (ns.map .int))=some (.list (dI ns)) by
  show(cC (ns.map .int)).map PyData.list=_
  rw[QZ];rfl,show dataOf au (.lst [])=some (.list (dI [])) from rfl]
 dsimp only;rw[if_pos ⟨RK ns,RK []⟩];have e:PyData.eqv (.list (dI ns)) (.list (dI []))=decide (ns=[]):=rZ ns [];rw[e]
 rfl
theorem Qp(j:∀x∈r,1<=x)(s:bg r p)(k:z∈br r p):ak 1 z<ak 1 r:=by
 obtain⟨a,b,i,h,q⟩:=s;have G:p+1<r.length:=(cn.mp h).1;have A:=j b (db h);have E:=j a (db i);unfold br at k;obtain⟨two,w,rfl⟩:=cP.mp k;have g:=(ze _).mem_iff.mp w;rw[dO,i,dO,h] at g;simp only[Dy] at g;unfold ap at g;obtain⟨c,v,u⟩:=cP.mp g;have C:c<(a/2+1).toNat:=bT.mp (fH.mp v).1;have n:r=r.take p++[a,b]++r.drop (p+2):=by
  have m:r.drop p=a::r.drop (p+1):=by
   rw[jY (by lia)]
   congr 1
   exact(cn.mp i).2
  have o:r.drop (p+1)=b::r.drop (p+2):=by
   rw[jY (by lia)]
   congr 1
   exact(cn.mp h).2
  calc r=r.take p++r.drop p:=(kx p r).symm
   _=_:=by rw[m,o];simp
 have t:0<=(r.drop (p+2)).sum:=zm λx y=>j x (pF y)
 have f:ak 1 (r.take p++two++r.drop (p+2))<ak 1 (r.take p++[a,b]++r.drop (p+2)):=by
  rw[eh,eh,wv,wv (r.take p)];generalize (1:Int)+((r.take p).length:Int)=N;rw[wv,wv];generalize r.drop (p+2)=d at t;rw[←u];unfold fZ;split
  ·rename_i l;simp only[ak,dN,pj];rw[Int.mul_sub,Int.mul_add,yN,yN];lia
  ·rename_i l;have:(c:Int)=0:=by lia
   simp only[ak,dN,pj];have e:=yn d (N+1);rw[show N+((0+1+1:Nat):Int)=N+1+1 by push_cast;lia,show N+((0+1:Nat):Int)=N+1 by push_cast;lia,e,Int.mul_add,yN];lia
 rw[←n] at f;exact f
end Dd
namespace Dd
open L2
end Dd
namespace Dd
open L2 K07 K23
theorem CM{r:List Int}{p:Nat}{m:Int}{L:Nat}(h:af r m L)(s:bg r p):∀z∈br r p,af z m L:=λz j=>by
 obtain⟨a,b,f,e,q⟩:=s;have E:p+1<r.length:=(cn.mp e).1;have w:=h.pos b (db e);have A:=h.pos a (db f);unfold br at j;obtain⟨two,v,rfl⟩:=cP.mp j;have d:=(ze _).mem_iff.mp v;rw[dO,f,dO,e] at d;simp only[Dy] at d;unfold ap at d;obtain⟨c,u,t⟩:=cP.mp d;have y:c<(a/2+1).toNat:=bT.mp (fH.mp u).1;have n:r=r.take p++[a,b]++r.drop (p+2):=by
  have l:r.drop p=a::r.drop (p+1):=by
   rw[jY (by lia)]
   congr 1
   exact(cn.mp f).2
  have o:r.drop (p+1)=b::r.drop (p+2):=by
   rw[jY (by lia)]
   congr 1
   exact(cn.mp e).2
  calc r=r.take p++r.drop p:=(kx p r).symm
   _=_:=by rw[l,o];simp
 have g:two.sum=a+b/\(∀x∈two,1<=x)/\two.length<=2:=by
  rw[←t];unfold fZ;split
  ·rename_i k;refine⟨by simp<;>lia,λx hx=>?_,by simp⟩;simp only[bU,pq,o8] at hx;rcases hx with rfl|rfl<;>lia
  ·rename_i k;refine⟨by simp<;>lia,λx hx=>?_,by simp⟩;simp only[bU,pq,o8] at hx;subst hx;lia
 have i:r.sum=(r.take p).sum+(a+b)+(r.drop (p+2)).sum:=by
  conv=>lhs;rw[n]
  simp[gQ];lia
 refine⟨λx hx=>?_,?_,?_⟩
 ·rcases eO.mp hx with hx|hx
  ·rcases eO.mp hx with hx|hx
   ·exact h.pos x (l5 hx)
   ·exact g.2.1 x hx
  ·exact h.pos x (pF hx)
 ·have:=h.sum;rw[gQ,gQ,g.1];lia
 ·have C:=h.len;rw[cx,cx,fj,py];have:=g.2.2;lia
theorem BS{r:List Int}{m:Int}{L:Nat}(h:af r m L):∀x∈r,1<=x/\x<=m:=λx hx=>by
 refine⟨h.pos x hx,?_⟩;have:∀{r:List Int},(∀y∈r,1<=y)->∀x∈r,x<=r.sum:=λ{r}=>by
  induction r with
  |nil=>intro _ x hx;cases hx
  |cons a r ih=>
   intro h x hx;have c:=h a (by simp);have d:0<=r.sum:=zm λy b=>h y (cr _ b)
   rw[kl];rcases bU.mp hx with rfl|hx
   ·lia
   ·have:=ih (λy b=>h y (cr _ b)) x hx;lia
 exact Dp (this h.pos x hx) h.sum
theorem vV{r:List Int}{m:Int}{L p:Nat}(h:af r m L)(e:bg r p):(1<=r.getD p 0/\r.getD p 0<=m)/\(1<=r.getD (p+1) 0/\r.getD (p+1) 0<=m):=by
 obtain⟨a,b,d,c,_⟩:=e;rw[dO,d,dO,c];exact⟨BS h a (db d),BS h b (db c)⟩
noncomputable abbrev Lv:=List (Int×Nat×List (List Int))
def gI(a:Lv):List (Int×D):=a.map λq=>(q.1,.ref q.2.1)
structure gy (au:aa) (L:Nat) (lv:Lv):Prop where
 at_:au[L]?=some (.dI (gI lv))
 in_:∀q∈lv,au[q.2.1]?=some (.dT (aS q.2.2))
 nd:(lv.map (·.1)).Nodup
 ix:(lv.map (·.2.1)).Nodup
 rows:∀q∈lv,q.2.2.Nodup
def bZ(n:Nat) (r:List Int):Lv->Lv
 |[]=>[(ak 1 r,n,[r])]
 |q::lv=>if q.1=ak 1 r then(q.1,q.2.1,aR q.2.2 r)::lv else q::bZ n r lv
theorem EO:eS (gI lv) m=(lv.find? λq=>decide (q.1=m)).map λq=>D.ref q.2.1:=by
 induction lv with
 |nil=>rfl
 |cons q lv ih=>
  by_cases e:q.1=m
  ·simp[eS,gI,e]
  ·have a:eS (gI (q::lv)) m=eS (gI lv) m:=by simp[eS,gI,e]
   rw[a,ih,List.find?_cons_of_neg (by simpa using e)]
theorem RL:∀{a:Lv},(∀q∈a,q.1≠ak 1 r)->bZ n r a=a++[(ak 1 r,n,[r])]
 |[],_=>rfl
 |q::a,h=>by
  unfold bZ;rw[if_neg (h q (by simp)),RL λx b=>h x (cr _ b)]
  rfl
theorem RM:∀{a:Lv}{q:Int×Nat×List (List Int)},(a.map (·.1)).Nodup->q∈a->q.1=ak 1 r->bZ n r a=a.map λx=>if x.1=ak 1 r then(x.1,x.2.1,aR x.2.2 r) else x
 |[],q,_,h,_=>by cases h
 |x::a,q,nd,h,e=>by
  rw[cf,iB] at nd;unfold bZ;rw[cf];by_cases c:x.1=ak 1 r
  ·rw[if_pos c,if_pos c]
   congr 1
   symm
   refine(pD (g:=id) λy b=>?_).trans (List.map_id _);rw[if_neg λz=>nd.1 (cP.mpr ⟨y,b,z.trans c.symm⟩)]
   rfl
  ·rw[if_neg c,if_neg c];rcases bU.mp h with rfl|h
   ·exact absurd e c
   ·rw[RM nd.2 h e]
theorem Uc{L:Nat}{k:Int}(a:f σ au=.ok (.ref L) au)(e:au[L]?=some (.dI kv0))(b:g σ au=.ok [.int k,d] st2)(i:st2[L]?=some (.dI kvs))(c:kvs.length<sizeLine)(h:eS kvs k=some v):ge f g σ au=.ok v st2:=by
 unfold ge;rw[a,zw];dsimp only;rw[e];dsimp only;rw[b,zw]
 try dsimp only
 rw[i]
 try dsimp only
 rw[if_pos c,h]
theorem Ub{L:Nat}{k:Int}(a:f σ au=.ok (.ref L) au)(e:au[L]?=some (.dI kv0))(b:g σ au=.ok [.int k,d] st2)(i:st2[L]?=some (.dI kvs))(c:kvs.length<sizeLine)(h:eS kvs k=none):ge f g σ au=.ok d (st2.set L (.dI (lA kvs k d))):=by
 unfold ge;rw[a,zw];dsimp only;rw[e];dsimp only;rw[b,zw]
 try dsimp only
 rw[i]
 try dsimp only
 rw[if_pos c,h]
theorem vF{b c:Type}{f:b->c}:∀{l:List b},(l.map f).Nodup->∀{x y:b},x∈l->y∈l->f x=f y->x=y
 |[],_,x,y,hx,_,_=>by cases hx
 |a::l,nd,x,y,hx,hy,e=>by
  rw[cf,iB] at nd;rcases bU.mp hx with h1|h1
  ·rcases bU.mp hy with h2|h2
   ·rw[h1,h2]
   ·exact absurd (cP.mpr ⟨y,h2,by rw[←e,h1]⟩) nd.1
  ·rcases bU.mp hy with h2|h2
   ·exact absurd (cP.mpr ⟨x,h1,by rw[e,h2]⟩) nd.1
   ·exact vF nd.2 h1 h2 e
theorem R7{f:aa}{L:Nat}{g:Lv}{r:List Int}{Q:D->aa->Prop}(h:gy f L g)(hl:r.length<=1000)(S:∀x∈r,-10000<=x/\x<=10000)(hz:g.length<=10000)(T:∀q∈g,q.2.2.length<=100000)
  (k:∀s,gy s L (bZ f.length r g)->(∀i,i<f.length->i≠L->(∀q∈g,q.2.1≠i)->s[i]?=f[i]?)->f.length<=s.length->Q .non s):WP (wx [.ref L,aL r] f) Q:=by
 refine fQ rfl ?_;simp only[W,V,M];have R:=NV (au:=f) hl S;have P:aB (aE uF (aB (aA 1) aC)) (aB dZ aC) [some (.ref L),some (aL r)] f=.ok [.int (ak 1 r),.ref f.length] (f++[.dT []]):=by
  rw[oC,show aE uF (aB (aA 1) aC) [some (.ref L),some (aL r)] f=.ok (.int (ak 1 r)) f from R]
  rfl
 have Y:=zh h.at_;have d:∀{i:Nat}{o:O},f[i]?=some o->(f++[O.dT []])[i]?=some o:=λe=>by rw[eR (zh e)];exact e
 have m:(gI g).length<sizeLine:=by unfold gI;rw[az];exact cQ _ (by lia)
 cases hf:g.find? λq=>decide (q.1=ak 1 r) with
 |some q=>
  have l:=Sw hf;have n:q.1=ak 1 r:=by simpa using List.find?_some hf
  have H:q.2.1≠L:=λz=>by have:=h.in_ q l;rw[z,h.at_] at this;cases this
  refine WP.of (Uc rfl h.at_ P (d h.at_) m (by rw[EO,hf];rfl)) ?_;refine WP.of (uB (d (h.in_ q l)) (by have:=T q l;lia)) (k _ ?_ (λi A v w=>?_) (by rw[gR,cx];lia))
  ·rw[RM h.nd l n];refine⟨?_,λx hx=>?_,?_,?_,λx hx=>?_⟩
   ·rw[dU H,d h.at_]
    congr 2
    unfold gI;rw[gi];refine(pD λy j=>?_).symm;simp only[Function.comp];split<;>rfl
   ·obtain⟨y,j,rfl⟩:=cP.mp hx;by_cases c:y.1=ak 1 r
    ·have I:y=q:=vF h.nd j l (c.trans n.symm);subst I;rw[if_pos c];exact kR (zh (d (h.in_ y j)))
    ·rw[if_neg c];have G:q.2.1≠y.2.1:=λz=>c (by rw[←vF h.ix l j z];exact n)
     rw[dU G];exact d (h.in_ y j)
   ·rw[gi];have:(g.map ((λx=>x.1) ∘ λx=>if x.1=ak 1 r then(x.1,x.2.1,aR x.2.2 r) else x))=g.map (·.1):=pD λy _=>by simp only[Function.comp];split<;>rfl
    rw[this];exact h.nd
   ·rw[gi];have:(g.map ((λx=>x.2.1) ∘ λx=>if x.1=ak 1 r then(x.1,x.2.1,aR x.2.2 r) else x))=g.map (·.2.1):=pD λy _=>by simp only[Function.comp];split<;>rfl
    rw[this];exact h.ix
   ·obtain⟨y,j,rfl⟩:=cP.mp hx;split
    ·exact qj (h.rows y j)
    ·exact h.rows y j
  ·rw[dU (w q l),eR A]
 |none=>
  have C:∀q∈g,q.1≠ak 1 r:=λq l=>by simpa using List.find?_eq_none.mp hf q l
  have U:lA (gI g) (ak 1 r) (.ref f.length)=gI (g++[(ak 1 r,f.length,[r])]):=by
   unfold lA;rw[if_neg]
   ·unfold gI;rw[gC];rfl
   ·rw[Bool.not_eq_true,List.any_eq_false];intro x hx;obtain⟨y,j,rfl⟩:=cP.mp hx
    simpa using C y j
  have u:L≠f.length:=dF Y;refine WP.of (Ub rfl h.at_ P (d h.at_) m (by rw[EO,hf];rfl)) ?_;rw[U];have J:((f++[O.dT []]).set L (.dI (gI (g++[(ak 1 r,f.length,[r])]))))[f.length]?=some (.dT (aS [])):=by
   rw[dU u,me (bj _),sE];rfl
  refine WP.of (uB J (by simp)) (k _ ?_ (λi A v w=>?_) (by rw[gR,gR,cx];lia))
  ·rw[RL C,show aR [] r=[r] from rfl];have t:∀q∈g,q.2.1<f.length:=λq l=>zh (h.in_ q l)
   refine⟨?_,λx hx=>?_,?_,?_,λx hx=>?_⟩
   ·rw[dU u.symm,kR (by rw[cx];lia)]
   ·rcases eO.mp hx with hx|hx
    ·have h1:f.length≠x.2.1:=(dF (t x hx)).symm;have X:L≠x.2.1:=λz=>by have:=h.in_ x hx;rw[←z,h.at_] at this;cases this
     rw[dU h1,dU X];exact d (h.in_ x hx)
    ·simp at hx;subst hx
     exact kR (zh J)
   ·rw[gC,sP];refine⟨h.nd,by simp,λa E b p=>?_⟩;obtain⟨y,j,rfl⟩:=cP.mp E;simp at p;subst p
    exact C y j
   ·rw[gC,sP];refine⟨h.ix,by simp,λa E b p=>?_⟩;obtain⟨y,j,rfl⟩:=cP.mp E;simp at p;subst p
    exact dF (t y j)
   ·rcases eO.mp hx with hx|hx
    ·exact h.rows x hx
    ·simp at hx;subst hx;simp
  ·rw[dU (dF A).symm,dU v.symm,eR A]
noncomputable abbrev Lr:=List (Int×List (List Int))
def dC(a:Lv):Lr:=a.map λq=>(q.1,q.2.2)
def cH(r:List Int):Lr->Lr
 |[]=>[(ak 1 r,[r])]
 |q::lr=>if q.1=ak 1 r then(q.1,aR q.2 r)::lr else q::cH r lr
theorem Cu:∀{a:Lv},dC (bZ n r a)=cH r (dC a)
 |[]=>rfl
 |q::a=>by
  unfold bZ;show _=cH r ((q.1,q.2.2)::dC a);unfold cH;dsimp only;split
  ·rfl
  ·show(q.1,q.2.2)::dC (bZ n r a)=_;rw[Cu]
noncomputable def eW:List Nat->Nat->Nat
 |[],_=>0
 |t::ts,v=>bif Nat.beq v 0 then 0 else Nat.xor (bif Nat.beq (v%2) 1 then t else 0) (eW ts (v/2))
noncomputable def kE:Nat->Nat->Nat
 |0,_=>0
 |f+1,c=>bif Nat.beq c 0 then 0 else Nat.xor (2^(c%100-1)) (kE f (c/100))
noncomputable def V6:List (List Nat):=[[2,0,5,6,0,0,9,11,0,14,0,16,17,0,19,0,0,23,0,25,27,28,0,30,0,32,0,0,35,0,37,0,40,41,0,43,0,46,47,0,0,50,0,52,54,0,0,57,58,0,60,0,63,0,66,67,0,0,70,0,72,73,0,76,77,0,0,80,81,0,83],[3,4,6,0,908,11,1211,15,15,18,0,19,21,22,0,2524,26,28,30,3130,32,0,3534,36,36,0,4038,41,4241,0,43,46,4846,49,49,0,5251,55,56,55,0,58,60,6160,64,0,65,66,0,7069,71,71,74,75,0,77,8078,81,8281,0,83],[5,6,0,0,11,0,16,19,19,23,0,0,27,28,0,30,32,0,0,37,0,0,41,43,43,0,46,0,50,0,0,0,57,58,58,0,60,66,67,66,0,0,0,72,76,0,77,0,0,81,83,83],[7,8,10,13,14,17,1918,21,252423,2826,3027,3129,32,353432,3633,3735,4038,4238,4340,444342,48,494745,5046,5148,5150,5554,57,5854,595855,57,59,66,6866,696564,6966,68,70,7875,7975,78,7776,78,80,8382],[9,11,14,17,0,0,23,27,30,32,0,3735,0,41,4340,0,46,5046,0,5250,57,5854,0,6057,60,66,0,0,7066,0,70,0,80,817776,81,80],[12,15,18,21,22,26,28,32,3534,0,4038,434241,0,46,4846,525149,0,5855,6055,616058,66,6564,7069,7166,717069,75,8078,8175,8281,8078,8281],[16,19,23,27,28,32,0,0,41,0,46,50,0,0,57,6058,0,66,66,72,0,7776,81,83,8381],[20,24,29,33,34,38,39,45,47,53,54,5856,62,63,6664,706967,73,74,807876,838279],[25,30,35,40,41,46,47,54,0,63,0,67,73,0,76,81],[31,36,42,48,49,55,56,64,65,74,75,77],[37,43,50,57,58,66,67,76,77],[44,51,59,68,69,78,79],[52,60,70,80,81],[61,71,82],[72,83],[84]]
def kD:List (List Nat):=[]::V6.map λl=>(l++List.replicate (84-l.length) 0).map (kE 3)
noncomputable def cR:List (List Int):=[[],[1],[2],[2,1],[3],[3,1],[4],[4,1],[5],[4,2],[5,1],[6],[4,2,1],[5,2],[6,1],[7],[5,2,1],[6,2],[7,1],[8],[6,2,1],[6,3],[7,2],[8,1],[9],[6,3,1],[7,2,1],[7,3],[8,2],[9,1],[10],[7,3,1],[8,2,1],[8,3],[9,2],[10,1],[11],[8,3,1],[8,4],[9,2,1],[9,3],[10,2],[11,1],[12],[8,4,1],[9,3,1],[9,4],[10,2,1],[10,3],[11,2],[12,1],[13],[8,4,2],[9,4,1],[10,3,1],[10,4],[11,2,1],[11,3],[12,2],[13,1],[14],[8,4,2,1],[9,4,2],[10,4,1],[10,5],[11,3,1],[11,4],[12,2,1],[12,3],[13,2],[14,1],[15],[9,4,2,1],[10,4,2],[10,5,1],[11,4,1],[11,5],[12,3,1],[12,4],[13,2,1],[13,3],[14,2],[15,1],[16]]
def fw(a v:Nat):Nat:=eW (kD.getD a []) v
theorem uH:∀a,eW a 0=0
 |[]=>rfl
 |_::_=>rfl
theorem mq(t:Nat)(a:List Nat)(v:Nat):eW (t::a) v=(if v%2=1 then t else 0)^^^eW a (v/2):=by
 by_cases c:v=0
 ·subst c;rw[uH,if_neg (by decide),Nat.zero_div,uH];rfl
 ·have e:Nat.beq v 0=false:=by
   cases h:Nat.beq v 0 with
   |false=>rfl
   |true=>exact absurd (gV h) c
  have b:(bif Nat.beq (v%2) 1 then t else 0)=if v%2=1 then t else 0:=by
   by_cases d:v%2=1
   ·rw[if_pos d,d];rfl
   ·have:v%2=0:=by lia
    rw[if_neg d,this];rfl
  show(bif Nat.beq v 0 then 0 else Nat.xor (bif Nat.beq (v%2) 1 then t else 0) (eW a (v/2)))=_;rw[e,b];rfl
theorem yL(a b c d:Nat):(a^^^b)^^^(c^^^d)=(a^^^c)^^^(b^^^d):=by
 rw[gj,gj,←gj b,←gj c,qq b c]
theorem vR:∀(c:List Nat) (v w:Nat),eW c (v^^^w)=eW c v^^^eW c w
 |[],v,w=>by show 0=0^^^0;rw[qp]
 |t::c,v,w=>by
  rw[mq,mq,mq,Nat.xor_div_two,vR c,yL]
  congr 1
  have:=Nat.xor_mod_two_eq_one (a:=v) (b:=w);by_cases c1:v%2=1<;>by_cases c2:w%2=1<;>simp[c1,c2,this]
theorem Ey(b:f 0=0)(c:∀v w,f (v^^^w)=f v^^^f w):∀(a:List Nat) (v:Nat),eW (a.map f) v=f (eW a v)
 |[],v=>b.symm
 |t::a,v=>by
  rw[cf,mq,mq,c,Ey b c a]
  congr 1
  split
  ·rfl
  ·exact b.symm
theorem yp:∀(a b:List Nat) (v:Nat),a.length=b.length->eW (List.zipWith Nat.xor a b) v=eW a v^^^eW b v
 |[],[],v,_=>by show 0=0^^^0;rw[qp]
 |[],_::_,v,h=>by cases h
 |_::_,[],v,h=>by cases h
 |t::a,u::b,v,h=>by
  show eW (Nat.xor t u::List.zipWith Nat.xor a b) v=_;rw[mq,mq,mq,yp a b _ (by simpa using h),yL]
  congr 1
  split
  ·rfl
  ·rfl
theorem vQ:∀(a:List Nat) (i:Nat),eW a (2^i)=a.getD i 0
 |[],i=>by simp[eW]
 |t::a,0=>by rw[mq];simp[uH]
 |t::a,i+1=>by
  rw[mq,if_neg (by rw[yP];lia),show 2^(i+1)/2=2^i by rw[yP];lia,vQ a i,lY]
  rfl
theorem vZ(a:Nat):fw a 0=0:=uH _
theorem vP(a v w:Nat):fw a (v^^^w)=fw a v^^^fw a w:=vR _ _ _
def cY(r:List Int) (v:Nat):Nat:=r.foldr (λa v=>fw a.toNat v) v
def nu(r:List Int):Nat:=cY r 1
def aZ(l:List (List Int)):Nat:=l.foldr (λr x=>nu r^^^x) 0
theorem mr(r s:List Int)(v:Nat):cY (r++s) v=cY r (cY s v):=by unfold cY;rw[List.foldr_append]
theorem Cv:∀r,cY r 0=0
 |[]=>rfl
 |a::r=>by show fw _ (cY r 0)=0;rw[Cv r,vZ]
theorem B8:∀r v w,cY r (v^^^w)=cY r v^^^cY r w
 |[],_,_=>rfl
 |a::r,v,w=>by show fw _ (cY r _)=fw _ (cY r v)^^^fw _ (cY r w);rw[B8 r,vP]
theorem nP:∀l m,aZ (l++m)=aZ l^^^aZ m
 |[],m=>(lY _).symm
 |r::l,m=>by show nu r^^^aZ (l++m)=(nu r^^^aZ l)^^^aZ m;rw[nP l m,gj]
theorem Cw{l:List (List Int)}(h:l.Perm m):aZ l=aZ m:=by
 induction h with
 |nil=>rfl
 |@cons x a b _ ih=>show nu x^^^aZ a=nu x^^^aZ b;rw[ih]
 |swap x y l=>show nu y^^^(nu x^^^aZ l)=nu x^^^(nu y^^^aZ l);rw[←gj,←gj,qq (nu y)]
 |trans _ _ a b=>exact a.trans b
theorem Ms{l:List (List Int)}(b:l.Nodup):aZ (aR l r)=aZ l^^^nu r:=by
 unfold aR;split
 ·rename_i h;have:∀{l:List (List Int)},l.Nodup->r∈l->aZ (l.filter λx=>decide (x≠r))=aZ l^^^nu r:=λ{l}=>by
   induction l with
   |nil=>intro _ h;cases h
   |cons a l ih=>
    intro b h;rw[iB] at b;by_cases c:a=r
    ·subst c;have e:l.filter (λx=>decide (x≠a))=l:=Oq.mpr λx d=>by
      rw[qw];intro z;subst z;exact b.1 d
     rw[l9 (by simp),e];show aZ l=(nu a^^^aZ l)^^^nu a;rw[qq,←gj,qp,lY]
    ·rw[l8 (by simpa using c)];show nu a^^^aZ (l.filter λx=>decide (x≠r))=(nu a^^^aZ l)^^^nu r;rw[ih b.2 (by rcases bU.mp h with z|z;exact absurd z.symm c;exact z),gj]
  exact this b h
 ·rw[nP];show aZ l^^^(nu r^^^0)=_;rw[jH]
theorem Fq:∀(m l:List (List Int)),l.Nodup->aZ (m.foldl aR l)=aZ l^^^aZ m
 |[],l,_=>(jH _).symm
 |r::m,l,nd=>by
  rw[sN,Fq m _ (qj nd),Ms nd];show _=aZ l^^^(nu r^^^aZ m);rw[gj]
theorem mm(l:List (List Int)):aZ (aQ l)=aZ l:=by
 unfold aQ;rw[Cw (ze _)];unfold aP;rw[Fq l [] mI];exact lY _
def AR:List Int->List Nat
 |[x]=>kD.getD x.toNat []
 |[x,y]=>(kD.getD y.toNat []).map (fw x.toNat)
 |_=>[]
noncomputable def twosN(a b n:Nat):List (List Int):=((List.range n).filter λc=>Nat.beq (Nat.land (b-c-1) (a-2*c)) (a-2*c)).map λc=>if c=0 then[((a+b:Nat):Int)] else[((a+b-c:Nat):Int),(c:Int)]
def m3(a b:Nat):Bool:=bif Nat.blt a (2*b) then decide ((kD.getD b []).map (fw a)=(twosN a b (a/2+1)).foldr (λtwo m=>List.zipWith Nat.xor (AR two) m) (List.replicate 84 0)) else true
theorem NZ:((List.range 17).all λa=>(List.range (17-a)).all λb=>bif Nat.blt 0 a&&Nat.blt 0 b then m3 a b else true)=true:=by decide +kernel
theorem Kn:(kD.all λt=>Nat.beq t.length 84||Nat.beq t.length 0)=true/\((List.range 16).all λi=>Nat.beq (kD.getD (i+1) []).length 84)=true:=by decide +kernel
theorem xB(h:1<=a)(b:a<=16):(kD.getD a []).length=84:=by
 have:=di.mp Kn.2 (a-1) (bT.mpr (by lia));rw[show a-1+1=a by lia] at this;exact gV this
theorem Ra:∀n v,eW (List.replicate n 0) v=0
 |0,_=>rfl
 |n+1,v=>by
  rw[nY,mq,Ra n];split<;>rfl
theorem Rl{a b n:Nat}{two:List Int}(h:two∈twosN a b n):(two=[((a+b:Nat):Int)])\/∃c:Nat,0<c/\c<n/\two=[((a+b-c:Nat):Int),(c:Int)]:=by
 unfold twosN at h;obtain⟨c,d,rfl⟩:=cP.mp h;have d:=bT.mp (fH.mp d).1;by_cases z:c=0
 ·rw[if_pos z];exact .inl rfl
 ·rw[if_neg z];exact .inr ⟨c,by lia,d,rfl⟩
theorem xC(o:1<=a)(q:1<=b)(p:a+b<=16)(k:a<2*b)(v:Nat):(twosN a b (a/2+1)).foldr (λtwo x=>cY two v^^^x) 0=fw a (fw b v):=by
 have h:=NZ;have h:=di.mp h a (bT.mpr (by lia));have h:=di.mp h b (bT.mpr (by lia));rw[show(Nat.blt 0 a&&Nat.blt 0 b)=true by rw[gE];exact⟨mO (by lia),mO (by lia)⟩] at h;have h:m3 a b=true:=h;unfold m3 at h;rw[show Nat.blt a (2*b)=true from mO (by lia)] at h;have h:=gU h;have j:=congrArg (λm=>eW m v) h;simp only[Ey (vZ a) (vP a)] at j;show _=fw a (eW (kD.getD b []) v);rw[j];have f:∀(d:List (List Int)),(∀two∈d,two∈twosN a b (a/2+1))->eW (d.foldr (λtwo m=>List.zipWith Nat.xor (AR two) m) (List.replicate 84 0)) v=d.foldr (λtwo x=>cY two v^^^x) 0/\(d.foldr (λtwo m=>List.zipWith Nat.xor (AR two) m) (List.replicate 84 0)).length=84:=λd=>by
  induction d with
  |nil=>intro _;exact⟨Ra _ _,by simp⟩
  |cons two d ih=>
   intro g;obtain⟨n,i⟩:=ih λt l=>g t (cr _ l)
   have e:(AR two).length=84/\eW (AR two) v=cY two v:=by
    rcases Rl (g two (by simp)) with rfl|⟨c,s,r,rfl⟩
    ·exact⟨xB (by simp;lia) (by simp;lia),rfl⟩
    ·refine⟨?_,?_⟩
     ·show((kD.getD (c:Int).toNat []).map _).length=_;rw[az];exact xB (by simp;lia) (by simp;lia)
     ·show eW ((kD.getD (c:Int).toNat []).map _) v=_;rw[Ey (vZ _) (vP _)];rfl
   rw[Dv,Dv];refine⟨?_,by rw[List.length_zipWith,e.1,i];rfl⟩;rw[yp _ _ _ (by rw[e.1,i]),e.2,n]
 exact(f _ λ_ h=>h).1.symm
theorem Fv{a b:Nat}(g:1<=a)(j:1<=b)(e:a<2*b):∀{n:Nat},n<=a/2+1->ap a b n=twosN a b n:=λ{n} i=>by
 unfold ap twosN;have f:((List.range n).filter λ(c:Nat)=>f9 ((b:Int)-c-1) ((a:Int)-2*c))=(List.range n).filter λc=>Nat.beq (Nat.land (b-c-1) (a-2*c)) (a-2*c):=by
  refine List.filter_congr λc d=>?_
  have d:=bT.mp d;rw[show(b:Int)-c-1=((b-c-1:Nat):Int) by lia,show(a:Int)-2*c=((a-2*c:Nat):Int) by lia,Mx];generalize b-c-1=x;generalize a-2*c=y;show decide (Nat.land x y=y)=_;cases h:Nat.beq (Nat.land x y) y with
  |true=>exact eK (gV h)
  |false=>exact dM (Nat.ne_of_beq_eq_false h)
 rw[f];refine pD λc d=>?_
 have d:=bT.mp (fH.mp d).1;unfold fZ;by_cases z:c=0
 ·subst z;rw[if_pos rfl,if_neg (by lia)];rfl
 ·rw[if_neg z,if_pos (by lia)]
  congr 1
  lia
theorem yr{f:List Int->List Int}{g:List Int->Nat}(w:Nat)(r:List Int)(h:∀two,nu (f two)=cY r (g two)):∀l:List (List Int),aZ (l.map f)=cY r (l.foldr (λtwo x=>g two^^^x) 0)
 |[]=>(Cv r).symm
 |two::l=>by
  show nu (f two)^^^aZ (l.map f)=cY r (g two^^^l.foldr (λtwo x=>g two^^^x) 0);rw[yr w r h l,B8,h]
theorem xA{r:List Int}{p:Nat}{L:Nat}(h:af r 16 L)(l:bg r p):aZ (br r p)=nu r:=by
 obtain⟨a,b,d,c,k⟩:=l;have u:p+1<r.length:=(cn.mp c).1;have n:=h.pos a (db d);have q:=h.pos b (db c);have i:r=r.take p++([a,b]++r.drop (p+2)):=by
  have m:r.drop p=a::r.drop (p+1):=by
   rw[jY (by lia)]
   congr 1
   exact(cn.mp d).2
  have j:r.drop (p+1)=b::r.drop (p+2):=by
   rw[jY (by lia)]
   congr 1
   exact(cn.mp c).2
  calc r=r.take p++r.drop p:=(kx p r).symm
   _=_:=by rw[m,j];simp
 have e:a+b<=16:=by
  have o:r.sum=(r.take p).sum+(a+(b+(r.drop (p+2)).sum)):=by
   conv=>lhs;rw[i]
   rw[gQ,gQ];simp;lia
  have v:=h.sum;have t:0<=(r.take p).sum:=zm λx f=>h.pos x (l5 f)
  have s:0<=(r.drop (p+2)).sum:=zm λx f=>h.pos x (pF f)
  lia
 obtain⟨a,rfl⟩:=qH (show 0<=a by lia);obtain⟨b,rfl⟩:=qH (show 0<=b by lia);unfold br;rw[dO,d,dO,c];simp only[Dy];rw[Cw ((ze _).map _),show((a:Int)/2+1).toNat=a/2+1 by lia,Fv (by lia) (by lia) (by lia) (bj _)];rw[yr (g:=λtwo=>cY two (cY (r.drop (p+2)) 1)) 0 (r.take p) λtwo=>by unfold nu;rw[mr,mr]];rw[xC (by lia) (by lia) (by lia) (by lia)]
 conv=>rhs;rw[i]
 unfold nu;rw[mr,mr];rfl
def j4(i a:Nat):Bool:=match cR[i]? with
 |none=>true
 |some r=>bif decide ((a:Int)+r.sum<=16)&&decide (2*r.headD 0<=(a:Int)) then(match cR[cR.idxOf ((a:Int)::r)]? with|some b=>decide (b=(a:Int)::r)|none=>false)&&Nat.beq ((kD.getD a []).getD i 0) (2^cR.idxOf ((a:Int)::r)) else true
theorem TX:((List.range 84).all λi=>(List.range 17).all λa=>bif Nat.beq a 0 then true else j4 i a)=true:=by decide +kernel
theorem Ez:cR.Nodup:=by decide +kernel
theorem nM:cR.length=84:=by decide +kernel
def iq(r:List Int):Prop:=∀p,¬ bg r p
theorem uw(h:bv r=[]):iq r:=λp a=>by
 have:=CW.mpr a;rw[h] at this;cases this
theorem iq.tail(h:iq (a::r)):iq r:=λp ⟨x,y,b,c,q⟩=>h (p+1) ⟨x,y,by simpa using b,by simpa using c,q⟩
theorem iq.head(h:iq (a::r))(d:1<=a):2*r.headD 0<=a:=by
 cases r with
 |nil=>simp;lia
 |cons b r=>
  have:=h 0;refine Classical.byContradiction λc=>this ⟨a,b,rfl,rfl,?_⟩
  simp at c;lia
theorem uI{L:Nat}:∀{r:List Int},af r 16 L->iq r->∃i,cR[i]?=some r/\nu r=2^i
 |[],_,_=>⟨0,by decide +kernel,rfl⟩
 |a::r,h,hs=>by
  have g:=h.pos a (by simp);have b:=h.sum;rw[kl] at b;have o:0<=r.sum:=zm λx d=>h.pos x (cr _ d)
  obtain⟨i,f,j⟩:=uI (L:=L) (r:=r) ⟨λx d=>h.pos x (cr _ d),by lia,by have:=h.len;rw[dN] at this;lia⟩ hs.tail;have n:i<84:=by have:=(cn.mp f).1;rw[nM] at this;exact this
  have l:=hs.head g;obtain⟨a,rfl⟩:=qH (show 0<=a by lia);have k:=di.mp (di.mp TX i (bT.mpr n)) a (bT.mpr (by lia));rw[show Nat.beq a 0=false by cases z:Nat.beq a 0 with|false=>rfl|true=>have:=gV z;lia] at k;have k:j4 i a=true:=k;unfold j4 at k;rw[f] at k;have k:(bif decide ((a:Int)+r.sum<=16)&&decide (2*r.headD 0<=(a:Int)) then(match cR[cR.idxOf ((a:Int)::r)]? with|some e=>decide (e=(a:Int)::r)|none=>false)&&Nat.beq ((kD.getD a []).getD i 0) (2^cR.idxOf ((a:Int)::r)) else true)=true:=k;rw[eK (show(a:Int)+r.sum<=16 by lia),eK l] at k;simp only[Bool.and_true,cond_true] at k;rw[gE] at k;obtain⟨c,m⟩:=k;refine⟨cR.idxOf ((a:Int)::r),?_,?_⟩
  ·cases z:cR[cR.idxOf ((a:Int)::r)]? with
   |none=>rw[z] at c;cases c
   |some e=>
    rw[z] at c;rw[gU c]
  ·show fw _ (nu r)=_;rw[j];show eW (kD.getD a []) (2^i)=_;rw[vQ];exact gV m
def fc(l:List (List Int)):Prop:=∀r∈l,af r 16 6/\iq r
theorem yq(h:fc l) (d:cR[i]?=some x):(aZ l).testBit i=decide (l.count x%2=1):=by
 induction l with
 |nil=>simp[aZ]
 |cons r l b=>
  have b:=b λy g=>h y (cr _ g)
  obtain⟨j,a,e⟩:=uI (h r (by simp)).1 (h r (by simp)).2;show(nu r^^^aZ l).testBit i=_;rw[uZ,b,e,zi,yS];by_cases c:j=i
  ·subst c;rw[d] at a;cases a;rw[eK rfl,if_pos (by simp)];rcases OP (l.count x) with z|z
   ·rw[dM (by lia),eK (by lia)];rfl
   ·rw[eK z,dM (by lia)];rfl
  ·have:¬ r=x:=λz=>by
    subst z;obtain⟨m,k⟩:=cn.mp a;obtain⟨n,f⟩:=cn.mp d;exact c ((DC Ez).mp (k.trans f.symm))
   simp[c,this]
def cK(v:Nat):List (List Int):=aX (((List.range 84).filter λi=>v.testBit i).map λi=>cR.getD i [])
theorem BU(h:fc l)(m:l.Nodup):aX l=cK (aZ l):=by
 unfold cK;refine FL (C2 m ?_ λx=>?_)
 ·refine DF _ (R:=λi j=>i≠j/\i<84/\j<84) ?_ ?_
  ·rintro i j ⟨o,q,p⟩ e;rw[dO,dO,dr (by rw[nM];exact q),dr (by rw[nM];exact p)] at e;exact o ((DC Ez).mp e)
  ·refine D6 (R:=(·≠·)) (λ{a b} n f h=>⟨h,bT.mp (fH.mp n).1,bT.mp (fH.mp f).1⟩) (Dx.filter _)
 ·constructor
  ·intro g;obtain⟨i,k,r⟩:=uI (h x g).1 (h x g).2;have d:i<84:=by have:=(cn.mp k).1;rw[nM] at this;exact this
   refine cP.mpr ⟨i,fH.mpr ⟨bT.mpr d,?_⟩,by rw[dO,k];rfl⟩;rw[yq h k,yU m,if_pos g];rfl
  ·intro g;obtain⟨i,d,rfl⟩:=cP.mp g;obtain⟨d,f⟩:=fH.mp d;have d:=bT.mp d;have e:cR[i]?=some (cR.getD i []):=by rw[dO,dr (by rw[nM];exact d)];rfl
   rw[yq h e,yU m] at f;by_cases c:cR.getD i []∈l
   ·exact c
   ·rw[if_neg c] at f;simp at f
theorem ml{d:Type}[DecidableEq d]:∀{l m:List d},l.Nodup->(∀x∈l,x∈m)->l.length<=m.length
 |[],m,_,_=>iT _
 |a::l,m,nd,h=>by
  rw[iB] at nd;have c:a∈m:=h a (by simp);have f:=ml (l:=l) (m:=m.erase a) nd.2 λx b=>by
   refine(List.mem_erase_of_ne λe=>?_).mpr (h x (cr _ b));subst e;exact nd.1 b
  rw[List.length_erase_of_mem c] at f;have:0<m.length:=List.length_pos_of_mem c;rw[dN];lia
noncomputable def j8:Nat->Nat->List (List Int)
 |0,_=>[[]]
 |k+1,s=>[]::(List.range s).flatMap λa=>(j8 k (s-1-a)).map λr=>((a+1:Nat):Int)::r
noncomputable def pV:Nat->Nat->Nat
 |0,_=>1
 |k+1,s=>1+((List.range s).map λa=>pV k (s-1-a)).sum
theorem P7:∀k s,(j8 k s).length=pV k s
 |0,_=>rfl
 |k+1,s=>by
  unfold j8 pV;rw[dN,List.length_flatMap,Nat.add_comm]
  congr 2
  refine pD λa _=>?_
  rw[az,P7 k]
theorem P8:∀(k s:Nat) (r:List Int),af r s k->r∈j8 k s
 |0,s,r,h=>by
  have:=h.len;have:r=[]:=OE.mp (by lia);subst this;simp[j8]
 |k+1,s,[],_=>by simp[j8]
 |k+1,s,a::r,h=>by
  have d:=h.pos a (by simp);have c:=h.sum;rw[kl] at c;have e:0<=r.sum:=zm λx b=>h.pos x (cr _ b)
  obtain⟨a,rfl⟩:=qH (show 0<=a by lia);unfold j8;refine cr _ (ll.mpr ⟨a-1,bT.mpr (by lia),cP.mpr ⟨r,P8 k _ r ⟨λx b=>h.pos x (cr _ b),?_,?_⟩,?_⟩⟩)
  ·lia
  ·have:=h.len;rw[dN] at this;lia
  ·rw[show a-1+1=a by lia]
theorem QB{l:List (List Int)}(d:l.Nodup)(h:∀r∈l,af r 16 6):l.length<=15000:=by
 have c:=ml d λr b=>P8 6 16 r (h r b)
 rw[P7] at c;have a:Nat.ble (pV 6 16) 15000=true:=by decide +kernel
 have a:=ik a;lia
theorem xy:∀{r:List Int}{k:Int},0<=k->(∀x∈r,1<=x)->0<=ak k r
 |[],k,_,_=>by simp[ak]
 |x::r,k,hk,h=>by
  have b:=xy (r:=r) (k:=k+1) (by lia) λy a=>h y (cr _ a)
  have d:=h x (by simp);have c:0<=k*x:=N5 hk (by lia);unfold ak;lia
theorem xx:∀{r:List Int}{k:Int},0<=k->(∀x∈r,1<=x)->ak k r<=(k+r.length)*r.sum
 |[],k,_,_=>by simp[ak]
 |x::r,k,hk,h=>by
  have b:=xx (r:=r) (k:=k+1) (by lia) λy c=>h y (cr _ c)
  have f:=h x (by simp);have e:0<=((r.length:Int)+1)*x:=N5 (by lia) (by lia);rw[kl,dN,Int.mul_add];unfold ak;have d:(k+((r.length+1:Nat):Int))*x=k*x+((r.length:Int)+1)*x:=by rw[←yN];congr 1;try lia
  have a:(k+1+(r.length:Int))*r.sum=(k+((r.length+1:Nat):Int))*r.sum:=by congr 1;push_cast;lia
  rw[d];rw[a] at b
  lia
theorem o6(h:af r 16 6):0<=ak 1 r/\ak 1 r<=112:=by
 refine⟨xy (by lia) h.pos,Dp (xx (by lia) h.pos) ?_⟩;have c:=h.len;have b:=h.sum;have a:0<=r.sum:=zm h.pos
 calc (1+(r.length:Int))*r.sum<=7*r.sum:=Int.mul_le_mul_of_nonneg_right (by lia) a
  _<=112:=by lia
structure iM (lr:Lr):Prop where
 nd:(lr.map (·.1)).Nodup
 row:∀q∈lr,∀r∈q.2,af r 16 6/\ak 1 r=q.1
 key:∀q∈lr,0<=q.1/\q.1<=112
 rnd:∀q∈lr,q.2.Nodup
theorem iM.few(h:iM b):b.length<=113/\∀q∈b,q.2.length<=15000:=by
 refine⟨?_,λq a=>QB (h.rnd q a) λr d=>(h.row q a r d).1⟩;have:=ml (m:=(List.range 113).map λ(i:Nat)=>(i:Int)) h.nd λx c=>by
  obtain⟨q,a,rfl⟩:=cP.mp c;have:=h.key q a;exact cP.mpr ⟨q.1.toNat,bT.mpr (by lia),by lia⟩
 simpa using this
theorem uQ:∀{a:Lr}(q:Int×List (List Int)),q∈cH r a->q∈a\/(q.1=ak 1 r/\((q.2=[r]/\∀x∈a,x.1≠ak 1 r)\/∃l,(q.1,l)∈a/\q.2=aR l r))
 |[],q,h=>by
  unfold cH at h;simp at h;subst h;exact .inr ⟨rfl,.inl ⟨rfl,λx f=>by cases f⟩⟩
 |x::a,q,h=>by
  unfold cH at h;split at h
  ·rename_i c;rcases bU.mp h with rfl|h
   ·exact .inr ⟨c,.inr ⟨x.2,by simp,rfl⟩⟩
   ·exact .inl (cr _ h)
  ·rename_i c;rcases bU.mp h with rfl|h
   ·exact .inl (by simp)
   ·rcases uQ q h with h|⟨e,⟨d,b⟩|⟨l,d,b⟩⟩
    ·exact .inl (cr _ h)
    ·refine .inr ⟨e,.inl ⟨d,λy hy=>?_⟩⟩;rcases bU.mp hy with rfl|hy
     ·exact c
     ·exact b y hy
    ·exact .inr ⟨e,.inr ⟨l,cr _ d,b⟩⟩
theorem Qm:∀{a:Lr},(a.map (·.1)).Nodup->((cH r a).map (·.1)).Nodup
 |[],_=>by simp[cH]
 |x::a,nd=>by
  rw[cf,iB] at nd;unfold cH;split
  ·rw[cf,iB];exact nd
  ·rename_i c;rw[cf,iB];refine⟨λz=>?_,Qm nd.2⟩;obtain⟨q,b,e⟩:=cP.mp z;rcases uQ q b with h|⟨h,_⟩
   ·exact nd.1 (cP.mpr ⟨q,h,e⟩)
   ·exact c (e.symm.trans h)
theorem iM.flip(h:iM lr)(f:af r 16 6):iM (cH r lr):=by
 refine⟨Qm h.nd,λq e x b=>?_,λq e=>?_,λq e=>?_⟩
 ·rcases uQ q e with a|⟨a,⟨c,d⟩|⟨l,c,d⟩⟩
  ·exact h.row q a x b
  ·rw[c,fJ] at b;subst b;exact⟨f,a.symm⟩
  ·rw[d,kX] at b;rcases b with⟨b,_⟩|⟨rfl,_⟩
   ·exact h.row _ c x b
   ·exact⟨f,a.symm⟩
 ·rcases uQ q e with a|⟨a,_⟩
  ·exact h.key q a
  ·rw[a];exact o6 f
 ·rcases uQ q e with a|⟨a,⟨c,d⟩|⟨l,c,d⟩⟩
  ·exact h.rnd q a
  ·rw[c];simp
  ·rw[d];exact qj (h.rnd _ c)
def gJ(a:Lr) (x:List Int):Prop:=∃q∈a,x∈q.2
theorem Ma(h:iM b)(o:af r 16 6):gJ (cH r b) x↔(gJ b x/\x≠r)\/(x=r/\¬ gJ b r):=by
 have j:∀{b:Lr},(b.map (·.1)).Nodup->(∀q∈b,∀r∈q.2,ak 1 r=q.1)->(gJ (cH r b) x↔(gJ b x/\x≠r)\/(x=r/\¬ gJ b r)):=λ{b}=>by
  induction b with
  |nil=>
   intro _ _;unfold cH gJ;simp
  |cons a b ih=>
   intro k g;rw[cf,iB] at k;have f:∀y,gJ (a::b) y↔y∈a.2\/gJ b y:=λy=>by unfold gJ;simp
   unfold cH;split
   ·rename_i c;have n:¬ gJ b r:=λ⟨q,d,i⟩=>k.1 (cP.mpr ⟨q,d,by rw[c];exact(g q (cr _ d) r i).symm⟩)
    have l:gJ ((a.1,aR a.2 r)::b) x↔x∈aR a.2 r\/gJ b x:=by unfold gJ;simp
    rw[l,kX,f,f];by_cases e:x=r
    ·subst e;simp[n]
    ·simp[e]
   ·rename_i c;have l:gJ (a::cH r b) x↔x∈a.2\/gJ (cH r b) x:=by unfold gJ;simp
    have m:r∉a.2:=λz=>c (g a (by simp) r z).symm
    rw[l,ih k.2 λq d=>g q (cr _ d),f,f];by_cases e:x=r
    ·subst e;simp[m]
    ·simp[e]
 exact j h.nd λq d x i=>(h.row q d x i).2
def stepK(a:List (List Int)) (z:List Int×Nat):List (List Int):=(z.1::br z.1 z.2).foldl aR a
def eZ(a:List (List Int)) (q:List (List Int×Nat)):List (List Int):=q.foldl stepK a
def lL:List (List Int)->List (List Int×Nat)->Prop
 |_,[]=>True
 |ks,z::q=>z.1∈ks/\bg z.1 z.2/\lL (stepK ks z) q
theorem lL.snoc:∀{q:List (List Int×Nat)}{b:List (List Int)}{z:List Int×Nat},lL b q->z.1∈eZ b q->bg z.1 z.2->lL b (q++[z])
 |[],b,z,_,h1,h2=>⟨h1,h2,trivial⟩
 |a::q,b,z,h,h1,h2=>⟨h.1,h.2.1,lL.snoc h.2.2 h1 h2⟩
theorem eZ.snoc:eZ ks (q++[z])=stepK (eZ ks q) z:=by unfold eZ;rw[kr];rfl
theorem Fm{m:List (List Int)}(h:x∈m.foldl aR ks):x∈ks\/x∈m:=by
 induction m generalizing ks with
 |nil=>exact .inl h
 |cons a m ih=>
  rcases ih h with h|h
  ·rw[kX] at h;rcases h with⟨h,_⟩|⟨rfl,_⟩
   ·exact .inl h
   ·exact .inr (by simp)
  ·exact .inr (cr _ h)
theorem Qn{m b:List (List Int)}(h:b.Nodup):(m.foldl aR b).Nodup:=by
 induction m generalizing b with
 |nil=>exact h
 |cons a m ih=>exact ih (qj h)
structure bt (ks:List (List Int)):Prop where
 nd:ks.Nodup
 row:∀r∈ks,af r 16 6
theorem bt.few(h:bt ks):ks.length<=15000:=QB h.nd h.row
theorem bt.step(h:bt ks)(a:z.1∈ks)(b:bg z.1 z.2):bt (stepK ks z)/\aZ (stepK ks z)=aZ ks:=by
 refine⟨⟨Qn h.nd,λr hr=>?_⟩,?_⟩
 ·rcases Fm hr with hr|hr
  ·exact h.row r hr
  ·rcases bU.mp hr with rfl|hr
   ·exact h.row _ a
   ·exact CM (h.row _ a) b r hr
 ·unfold stepK;rw[Fq _ _ h.nd];show aZ ks^^^(nu z.1^^^aZ (br z.1 z.2))=_;rw[xA (h.row _ a) b,qp,jH]
theorem bt.walk:∀{q:List (List Int×Nat)}{e:List (List Int)},bt e->lL e q->bt (eZ e q)/\aZ (eZ e q)=aZ e
 |[],e,h,_=>⟨h,rfl⟩
 |z::q,e,h,w=>by
  obtain⟨a,b⟩:=h.step w.1 w.2.1;obtain⟨c,d⟩:=bt.walk a w.2.2;exact⟨c,d.trans b⟩
theorem QK(h:bt c)(w:lL c q)(s:∀x∈eZ c q,iq x):aX (eZ c q)=cK (aZ c):=by
 obtain⟨a,b⟩:=h.walk w;rw[BU (λr d=>⟨a.row r d,s r d⟩) a.nd,b]
def gm(b:List (List Int)) (c:Lr):Lr:=b.foldl (λa r=>cH r a) c
structure ir (au:aa) (L:Nat) (lv:Lv) (ms:List (List Int)) (s:aa) (lv':Lv):Prop where
 at_:gy s L lv'
 eq:dC lv'=gm ms (dC lv)
 keep:∀i,i<au.length->i≠L->(∀q∈lv,q.2.1≠i)->s[i]?=au[i]?
 len:au.length<=s.length
 ix:∀q∈lv',au.length<=q.2.1\/∃q0∈lv,q0.2.1=q.2.1
theorem ir.refl{L:Nat}(h:gy au L lv):ir au L lv [] au lv:=⟨h,rfl,λ_ _ _ _=>rfl,bj _,λq a=>.inr ⟨q,a,rfl⟩⟩
theorem Q5:∀{b:Lv},∀q∈bZ n r b,q.2.1=n\/∃a∈b,a.2.1=q.2.1
 |[],q,hq=>by
  unfold bZ at hq;simp at hq;subst hq;exact .inl rfl
 |x::b,q,hq=>by
  unfold bZ at hq;split at hq
  ·rcases bU.mp hq with rfl|hq
   ·exact .inr ⟨x,by simp,rfl⟩
   ·exact .inr ⟨q,cr _ hq,rfl⟩
  ·rcases bU.mp hq with rfl|hq
   ·exact .inr ⟨q,by simp,rfl⟩
   ·rcases Q5 q hq with h|⟨a,d,c⟩
    ·exact .inl h
    ·exact .inr ⟨a,cr _ d,c⟩
theorem ir.snoc{L:Nat}{n:List (List Int)}{r:List Int}(a:ir au L lv n s b)(h:gy s2 L (bZ s.length r b))(k:∀i,i<s.length->i≠L->(∀q∈b,q.2.1≠i)->s2[i]?=s[i]?)(l:s.length<=s2.length):
  ir au L lv (n++[r]) s2 (bZ s.length r b):=by
 refine⟨h,?_,λi t m d=>?_,ay a.len l,λq d=>?_⟩
 ·rw[Cu,a.eq];unfold gm;rw[kr];rfl
 ·have u:=a.len;rw[k i (by lia) m λq g=>?_,a.keep i t m d];rcases a.ix q g with c|⟨f,c,e⟩
  ·lia
  ·rw[←e];exact d f c
 ·rcases Q5 q d with c|⟨f,c,e⟩
  ·exact .inl (by rw[c];exact a.len)
  ·rcases a.ix f c with j|⟨o,j,p⟩
   ·exact .inl (by rw[←e];exact j)
   ·exact .inr ⟨o,j,p.trans e⟩
theorem yk(h:iM (dC a)):a.length<=113/\∀q∈a,q.2.2.length<=15000:=by
 refine⟨by have:=h.few.1;unfold dC at this;rwa [az] at this,λq b=>h.few.2 (q.1,q.2.2) (cP.mpr ⟨q,b,rfl⟩)⟩
theorem xJ(h:af r 16 6):r.length<=1000/\∀x∈r,-10000<=x/\x<=10000:=⟨by have:=h.len;lia,λx a=>by have:=BS h x a;lia⟩
theorem Ew{L:Nat}{f:List (List Int)}(h:gy au L lv)(v:iM (dC lv))(j:∀r∈f,af r 16 6)
  (k:∀s a d,ir au L lv f s a->iM (dC a)->Q (.nx [S0,some (.ref L),S2,S3,S4,S5,d]) s):WP (dk (gN 6) ET (aJ f) [S0,some (.ref L),S2,S3,S4,S5,v6] au) Q:=by
 refine fR (λi g s=>∃a d,g=[S0,some (.ref L),S2,S3,S4,S5,d]/\ir au L lv (f.take i) s a/\iM (dC a)) ⟨lv,v6,rfl,.refl h,v⟩ ?_ ?_
 ·rintro i x g s m ⟨a,d,rfl,t,c⟩;obtain⟨r,e,rfl⟩:=zu m;have y:=(cn.mp e).1;have b:=xJ (j r (db e));have z:=yk c;have n:=j r (db e);refine⟨[S0,some (.ref L),S2,S3,S4,S5,some (aL r)],rfl,?_⟩;unfold ET;simp only[W,V,M];refine R7 t.at_ b.1 b.2 (by lia) (λq u=>by have:=z.2 q u;lia) λw p o l=>?_
  simp only[W,V,Dd.L];refine⟨bZ s.length r a,_,rfl,?_,?_⟩
  ·rw[zg e];exact t.snoc p o l
  ·rw[Cu];exact c.flip n
 ·rintro g s ⟨a,d,rfl,t,c⟩;rw[zd] at t;rw[eQ] at t;exact k s a d t c
theorem L5{L:Nat}{f:List (List Int)}(h:gy au L lv)(v:iM (dC lv))(j:∀r∈f,af r 16 6)
  (k:∀s a d,ir au L lv f s a->iM (dC a)->Q (.nx [S0,some (.ref L),d,S3,S4,S5,S6]) s):WP (dk (gN 2) Cj (aJ f) [S0,some (.ref L),v2,S3,S4,S5,S6] au) Q:=by
 refine fR (λi g s=>∃a d,g=[S0,some (.ref L),d,S3,S4,S5,S6]/\ir au L lv (f.take i) s a/\iM (dC a)) ⟨lv,v2,rfl,.refl h,v⟩ ?_ ?_
 ·rintro i x g s m ⟨a,d,rfl,t,c⟩;obtain⟨r,e,rfl⟩:=zu m;have y:=(cn.mp e).1;have b:=xJ (j r (db e));have z:=yk c;have n:=j r (db e);refine⟨[S0,some (.ref L),some (aL r),S3,S4,S5,S6],rfl,?_⟩;unfold Cj;simp only[W,V,M];refine R7 t.at_ b.1 b.2 (by lia) (λq u=>by have:=z.2 q u;lia) λw p o l=>?_
  simp only[W,V,Dd.L];refine⟨bZ s.length r a,_,rfl,?_,?_⟩
  ·rw[zg e];exact t.snoc p o l
  ·rw[Cu];exact c.flip n
 ·rintro g s ⟨a,d,rfl,t,c⟩;rw[zd] at t;rw[eQ] at t;exact k s a d t c
def gr(q:List (List Int×Nat)):List D:=q.map λz=>.tup [aL z.1,.int z.2]
def gX(a:Lr×List (List Int×Nat)) (r:List Int):Lr×List (List Int×Nat):=match bv r with
 |[]=>a
 |p::_=>(gm (br r p) a.1,a.2++[(r,p)])
structure Wy (s0:aa) (b:Nat) (L M:Nat) (s:aa) (lv:Lv) (q:List (List Int×Nat)):Prop where
 at_:gy s L lv
 stp:s[M]?=some (.lst (gr q))
 ne:M≠L
 ni:∀x∈lv,x.2.1≠M
 bL:b<=L
 bM:b<=M
 bI:∀x∈lv,b<=x.2.1
 low:∀i,i<b->s[i]?=s0[i]?
 bs:b<=s.length
theorem gy.more{L:Nat}(h:gy s L lv)(g:aa):gy (s++g) L lv:=
 ⟨by rw[eR (zh h.at_)];exact h.at_,λq a=>by rw[eR (zh (h.in_ q a))];exact h.in_ q a,h.nd,h.ix,h.rows⟩
theorem Wy.more{b L M:Nat}(h:Wy s0 b L M s lv q)(g:aa):Wy s0 b L M (s++g) lv q:=
 ⟨h.at_.more g,by rw[eR (zh h.stp)];exact h.stp,h.ne,h.ni,h.bL,h.bM,h.bI,λi a=>by rw[eR (dq a h.bs)];exact h.low i a,by rw[cx];have:=h.bs;lia⟩
theorem Wy.put{b L M:Nat}(h:Wy s0 b L M s lv q):Wy s0 b L M (s.set M (.lst (gr q++[.tup [aL z.1,.int z.2]]))) lv (q++[z]):=by
 refine⟨⟨?_,λx a=>?_,h.at_.nd,h.at_.ix,h.at_.rows⟩,?_,h.ne,h.ni,h.bL,h.bM,h.bI,λi c=>?_,by rw[gR];exact h.bs⟩
 ·rw[dU h.ne];exact h.at_.at_
 ·rw[dU (h.ni x a).symm];exact h.at_.in_ x a
 ·rw[kR (zh h.stp)];unfold gr;rw[gC];rfl
 ·have:=h.bM;rw[dU (by lia)];exact h.low i c
theorem Wy.to{b L M:Nat}{e:List (List Int)}(h:Wy s0 b L M s lv q)(t:ir s L lv e s2 lv'):Wy s0 b L M s2 lv' q:=by
 have g:=zh h.stp;refine⟨t.at_,?_,h.ne,λx c=>?_,h.bL,h.bM,λx c=>?_,λi f=>?_,ay h.bs t.len⟩
 ·rw[t.keep M g h.ne h.ni];exact h.stp
 ·rcases t.ix x c with a|⟨y,a,d⟩
  ·lia
  ·rw[←d];exact h.ni y a
 ·rcases t.ix x c with a|⟨y,a,d⟩
  ·exact ay h.bs a
  ·rw[←d];exact h.bI y a
 ·have a:=h.bs;have d:=h.bL;rw[t.keep i (by lia) (by lia) λx c=>by have:=h.bI x c;lia];exact h.low i f
theorem Ml{b L M:Nat}{m:List (List Int)}(h:Wy s0 b L M au lv q)(X:iM (dC lv))(hq:q.length+m.length<=10000000)(U:∀r∈m,af r 16 6)
  (k:∀s c d u o l,Wy s0 b L M s c d->(dC c,d)=m.foldl gX (dC lv,q)->iM (dC c)->d.length<=q.length+m.length->Q (.nx [S0,some (.ref L),u,some (.ref M),S4,o,l]) s):
  WP (dk (gN 2) EU (aJ m) [S0,some (.ref L),v2,some (.ref M),S4,v5,v6] au) Q:=by
 refine fR (λi I s=>∃c d u o l,I=[S0,some (.ref L),u,some (.ref M),S4,o,l]/\Wy s0 b L M s c d/\(dC c,d)=(m.take i).foldl gX (dC lv,q)/\iM (dC c)/\d.length<=q.length+i) ⟨lv,q,v2,v5,v6,rfl,h,rfl,X,bj _⟩ ?_ ?_
 ·rintro i x I s hx ⟨c,d,u,o,l,rfl,t,w,f,A⟩;obtain⟨r,C,rfl⟩:=zu hx;have hi:=(cn.mp C).1;have n:=U r (db C);have rl:=n.len;refine⟨[S0,some (.ref L),some (aL r),some (.ref M),S4,o,l],rfl,?_⟩;have R:(m.take (i+1)).foldl gX (dC lv,q)=gX (dC c,d) r:=by rw[zg C,kr,←w];rfl
  unfold EU;simp only[W,V,Dd.M];refine WP.of (S9 (by lia)) ?_
  try simp only[W,V,Dd.M]
  cases hp:bv r with
  |nil=>
   refine⟨false,rfl,?_⟩;rw[if_neg (by decide)];refine⟨c,d,_,_,_,rfl,t,?_,f,by lia⟩;rw[R];unfold gX;rw[hp]
  |cons p ps=>
   refine⟨true,rfl,?_⟩;rw[if_pos rfl];have G:bg r p:=CW.mp (by rw[hp];simp);have y:=vV n G;have E:p+1<r.length:=by obtain⟨a,b,_,z,_⟩:=G;exact(cn.mp z).1
   have hex:=R0 r p;have T:∀s:aa,cL (.lst (kC (p::ps))) (.int 0) s=.ok (.int p) s:=λs=>lR rfl (EY (j:=0) rfl)
   refine⟨_,_,rfl,t.stp,WP.of (T s) ⟨am _ (by simp),_,_,rfl,t.stp,by unfold gr;rw[az,jo];lia,WP.of (T _) ?_⟩⟩;have H:=t.put (z:=(r,p));obtain⟨g,e⟩:=Sg (au:=s.set M (.lst (gr d++[.tup [aL r,.int p]]))) (r:=r) (p:=p) E (by lia) y.1.1 (by lia) (by lia) (by lia);refine WP.of e ⟨_,rfl,?_⟩;have v:=H.more g;refine Ew v.at_ f (CM n G) λs2 J Y S P=>?_
   refine⟨J,d++[(r,p)],_,_,_,rfl,v.to S,?_,P,by rw[cx,zF];lia⟩;rw[R];unfold gX;rw[hp]
   show _=(gm (br r p) (dC c),d++[(r,p)])
   rw[S.eq]
 ·rintro I s ⟨c,d,u,o,l,rfl,t,w,f,A⟩;rw[zd] at w A;rw[eQ] at w;exact k s c d u o l t w f A
def cp(a:Lr):Int:=match a.map (·.1) with
 |[]=>0
 |k::ks=>ce true k ks
def kF(a:Lr) (m:Int):Lr:=a.filter λq=>decide (q.1≠m)
def gl(a:Lv) (m:Int):Lv:=a.filter λq=>decide (q.1≠m)
theorem Kd:dC (gl lv m)=kF (dC lv) m:=by
 unfold dC gl kF;rw[N8];rfl
theorem Kc:iI (gI lv) m=gI (gl lv m):=by
 unfold iI gI gl;rw[N8];rfl
theorem Wy.less{b L M:Nat}{m:Int}(h:Wy s0 b L M s lv q):Wy s0 b L M (s.set L (.dI (gI (gl lv m)))) (gl lv m) q:=by
 have sub:∀x∈gl lv m,x∈lv:=λx a=>(fH.mp a).1
 have c:∀x∈lv,x.2.1≠L:=λx a z=>by have:=h.at_.in_ x a;rw[z,h.at_.at_] at this;cases this
 refine⟨⟨kR (zh h.at_.at_),λx a=>?_,?_,?_,λx a=>h.at_.rows x (sub x a)⟩,?_,h.ne,λx a=>h.ni x (sub x a),h.bL,h.bM,λx a=>h.bI x (sub x a),λi d=>?_,by rw[gR];exact h.bs⟩
 ·rw[dU (c x (sub x a)).symm];exact h.at_.in_ x (sub x a)
 ·exact h.at_.nd.sublist (DN.map _)
 ·exact h.at_.ix.sublist (DN.map _)
 ·rw[dU h.ne.symm];exact h.stp
 ·have:=h.bL;rw[dU (by lia)];exact h.low i d
structure Iv (k0:List (List Int)) (m:Int) (lr:Lr) (rs:List (List Int)) (q:List (List Int×Nat)):Prop where
 wk:lL k0 q
 g:iM lr
 lt:∀x∈lr,x.1<m
 low:∀x,ak 1 x<m->(x∈eZ k0 q↔gJ lr x)
 rs_:∀x∈rs,ak 1 x=m/\x∈eZ k0 q
 rn:rs.Nodup
 high:∀x∈eZ k0 q,m<=ak 1 x->x∈rs\/iq x
theorem Nq(G:iM lr)(b:af r 16 6)(c:ak 1 r<m)(h:∀x,ak 1 x<m->(x∈ks↔gJ lr x)):∀x,ak 1 x<m->(x∈aR ks r↔gJ (cH r lr) x):=λx a=>by
 rw[kX,Ma G b,h x a,h r c]
theorem FC:∀{ms:List (List Int)}{lr:Lr}{ks:List (List Int)},iM lr->(∀r∈ms,af r 16 6/\ak 1 r<m)->(∀x,ak 1 x<m->(x∈ks↔gJ lr x))->iM (gm ms lr)/\∀x,ak 1 x<m->(x∈ms.foldl aR ks↔gJ (gm ms lr) x)
 |[],lr,ks,G,_,h=>⟨G,h⟩
 |r::ms,lr,ks,G,hm,h=>FC (ms:=ms) (G.flip (hm r (by simp)).1) (λx a=>hm x (cr _ a)) (Nq G (hm r (by simp)).1 (hm r (by simp)).2 h)
theorem Q6:∀{ms a:List (List Int)},(∀r∈ms,x≠r)->(x∈ms.foldl aR a↔x∈a)
 |[],a,_=>Iff.rfl
 |r::ms,a,h=>by
  rw[sN,Q6 (ms:=ms) λy b=>h y (cr _ b),kX];have:=h r (by simp);simp[this]
theorem E3:∀{ms:List (List Int)}{a:Lr},(∀r∈ms,ak 1 r<m)->(∀x∈a,x.1<m)->∀x∈gm ms a,x.1<m
 |[],a,_,h=>h
 |r::ms,a,hm,h=>E3 (ms:=ms) (λx b=>hm x (cr _ b)) λx b=>by
  rcases uQ x b with c|⟨c,_⟩
  ·exact h x c
  ·rw[c];exact hm r (by simp)
theorem Iv.row(K:bt k0)(h:Iv k0 m lr (r::rs) q):Iv k0 m (gX (lr,q) r).1 rs (gX (lr,q) r).2:=by
 obtain⟨s,_⟩:=K.walk h.wk;have c:=h.rs_ r (by simp);have n:=iB.mp h.rn;unfold gX;cases hp:bv r with
 |nil=>
  refine⟨h.wk,h.g,h.lt,h.low,λx a=>h.rs_ x (cr _ a),n.2,λx a g=>?_⟩;rcases h.high x a g with z|z
  ·rcases bU.mp z with rfl|z
   ·exact .inr (uw hp)
   ·exact .inl z
  ·exact .inr z
 |cons p ps=>
  have k:bg r p:=CW.mp (by rw[hp];simp);have f:=s.row r c.2;have l:∀z∈br r p,af z 16 6/\ak 1 z<m:=λz i=>⟨CM f k z i,by rw[←c.1];exact Qp f.pos k i⟩
  have v:∀x,ak 1 x<m->(x∈aR (eZ k0 q) r↔gJ lr x):=λx a=>by
   rw[kX,←h.low x a];have:x≠r:=λe=>by rw[e,c.1] at a;lia
   simp[this]
  obtain⟨u,o⟩:=FC h.g l v;have d:∀x,m<=ak 1 x->(x∈stepK (eZ k0 q) (r,p)↔x∈eZ k0 q/\x≠r):=λx a=>by
   show x∈(br r p).foldl aR (aR (eZ k0 q) r)↔_;rw[Q6 λy t e=>by have:=(l y t).2;rw[←e] at this;lia,kX];have:=c.2;constructor
   ·rintro(z|⟨rfl,z⟩)
    ·exact z
    ·exact absurd this z
   ·exact λz=>.inl z
  refine⟨h.wk.snoc c.2 k,u,E3 (λz i=>(l z i).2) h.lt,λx a=>?_,λx a=>?_,n.2,λx a g=>?_⟩
  ·rw[eZ.snoc];exact o x a
  ·have b:=h.rs_ x (cr _ a);rw[eZ.snoc];refine⟨b.1,(d x (by rw[b.1];exact Int.le_refl _)).mpr ⟨b.2,λe=>?_⟩⟩;subst e;exact n.1 a
  ·rw[eZ.snoc] at a;obtain⟨a,j⟩:=(d x g).mp a;rcases h.high x a g with z|z
   ·rcases bU.mp z with e|z
    ·exact absurd e j
    ·exact .inl z
   ·exact .inr z
theorem Iv.rows(K:bt k0):∀{rs:List (List Int)}{a:Lr}{q:List (List Int×Nat)},Iv k0 m a rs q->Iv k0 m (rs.foldl gX (a,q)).1 [] (rs.foldl gX (a,q)).2
 |[],a,q,h=>h
 |r::rs,a,q,h=>Iv.rows (rs:=rs) K (h.row K)
theorem BW:∀{b:Lr},b≠[]->(∃l,(cp b,l)∈b)/\∀x∈b,x.1<=cp b
 |[],h=>absurd rfl h
 |a::b,_=>by
  obtain⟨c,i⟩:=Ck (b.map (·.1)) a.1;have e:cp (a::b)=ce true a.1 (b.map (·.1)):=rfl;rw[e];refine⟨?_,λx d=>i _ (by rw[←cf (f:=λq:Int×List (List Int)=>q.1)];exact cP.mpr ⟨x,d,rfl⟩)⟩;rw[←cf (f:=λq:Int×List (List Int)=>q.1)] at c;obtain⟨q,g,e⟩:=cP.mp c;exact⟨q.2,by rw[←e];exact g⟩
theorem Iv.next(h:Iv k0 m lr [] q)(d:(cp lr,l)∈lr):Iv k0 (cp lr) (kF lr (cp lr)) (aX l) q:=by
 have j:lr≠[]:=λe=>by rw[e] at d;cases d
 have top:=(BW j).2;have o:cp lr<m:=h.lt _ d;have sub:∀x∈kF lr (cp lr),x∈lr/\x.1≠cp lr:=λx a=>by
  obtain⟨f,g⟩:=fH.mp a;exact⟨f,gU g⟩
 have i:∀x∈lr,x.1=cp lr->x.2=l:=λx a e=>by
  have:=vF h.g.nd a d e;rw[this]
 refine⟨h.wk,⟨h.g.nd.sublist (DN.map _),λx a=>h.g.row x (sub x a).1,λx a=>h.g.key x (sub x a).1,λx a=>h.g.rnd x (sub x a).1⟩,λx a=>?_,λx a=>?_,λx a=>?_,?_,λx a n=>?_⟩
 ·have f:=sub x a;have g:=top x f.1;have p:=f.2;lia
 ·rw[h.low x (by lia)];constructor
  ·rintro⟨y,c,b⟩;refine⟨y,fH.mpr ⟨c,eK λe=>?_⟩,b⟩;have:=(h.g.row y c x b).2;lia
  ·rintro⟨y,c,b⟩;exact⟨y,(sub y c).1,b⟩
 ·have a:=(ze l).mem_iff.mp a;have e:=(h.g.row _ d x a).2;have e:ak 1 x=cp lr:=e;exact⟨e,(h.low x (by lia)).mpr ⟨_,d,a⟩⟩
 ·exact(ze l).nodup_iff.mpr (h.g.rnd _ d)
 ·rcases Int.lt_or_le (ak 1 x) m with z|z
  ·obtain⟨y,c,b⟩:=(h.low x z).mp a;have e:=(h.g.row y c x b).2;have k:=top y c;exact .inl ((ze l).mem_iff.mpr (by rw[←i y c (by lia)];exact b))
  ·rcases h.high x a z with z|z
   ·cases z
   ·exact .inr z
theorem Iv.end_(h:Iv b m [] [] q):∀x∈eZ b q,iq x:=λx a=>by
 rcases Int.lt_or_le (ak 1 x) m with z|z
 ·obtain⟨y,c,_⟩:=(h.low x z).mp a;cases c
 ·rcases h.high x a z with z|z
  ·cases z
  ·exact z
theorem Iv.start(K:bt k0):Iv k0 113 (gm k0 []) [] []:=by
 have d:∀r∈k0,af r 16 6/\ak 1 r<113:=λr f=>⟨K.row r f,by have:=o6 (K.row r f);lia⟩
 obtain⟨g,h⟩:=FC (m:=113) (ms:=k0) (lr:=[]) (ks:=[]) ⟨by simp,λq b=>(by cases b),λq b=>(by cases b),λq b=>(by cases b)⟩ d λx _=>by unfold gJ;simp
 have e:∀x,x∈k0.foldl aR []↔x∈k0:=λx=>by
  have:=(qe k0 [] mI).2.2 x;rw[this,yU K.nd];by_cases c:x∈k0<;>simp[c]
 refine⟨trivial,g,E3 (λz i=>(d z i).2) (λx a=>(by cases a)),λx a=>?_,λx a=>(by cases a),mI,λx a j=>?_⟩
 ·rw[←h x a,e];rfl
 ·have:=(d x a).2;lia
theorem Lg{L:Nat}(a:f σ au=.ok (.ref L) au)(h:au[L]?=some (.dI kvs)):jz f σ au=.ok (!kvs.isEmpty) au:=by
 unfold jz;rw[a,zw];dsimp only;rw[h]
theorem Kg{L:Nat}(h:au[L]?=some (.dI (gI lv)))(b:lv≠[]):hX [.ref L] au=.ok (.int (cp (dC lv))) au:=by
 unfold hX;dsimp only;rw[h];cases lv with
 |nil=>exact absurd rfl b
 |cons a lv=>
  show bJ.ok (D.int (ce true a.1 ((gI lv).map (·.1)))) au=.ok (D.int (ce true a.1 ((dC lv).map (·.1)))) au
  congr 3
  unfold gI dC;rw[gi,gi];rfl
theorem KO{L:Nat}{k:Int}(a:f σ au=.ok (.ref L) au)(h:au[L]?=some (.dI kvs))(b:g σ au=.ok [.int k] au)(c:eS kvs k=some v):kJ f g σ au=.ok v (au.set L (.dI (iI kvs k))):=by
 unfold kJ;rw[a,zw];dsimp only
 rw[h];dsimp only
 rw[b,zw];try dsimp only
 rw[h];try dsimp only
 rw[c]
theorem Fw{au:aa}(h:∀i,i<au.length->s[i]?=au[i]?)(a:au.length<=s.length):s=au++s.drop au.length:=by
 refine DJ λi=>?_
 rcases mG i au.length with z|z
 ·rw[h i z,eR z]
 ·rw[me z,qC];congr 1;lia
structure SJ (ks:List (List Int)) (q:List (List Int×Nat)):Prop where
 wk:lL ks q
 fin:∀x∈eZ ks q,iq x
 len:q.length<=2000000
theorem Nj{c:aa}{g:List (List Int)}{T:SS}(K:bt g)(k:∀q M s h o w p,SJ g q->s[M]?=some (.lst (gr q))->c.length<=M->(∀i,i<c.length->s[i]?=c[i]?)->WP (T [some (aK g),some (.ref c.length),h,some (.ref M),o,w,p] s) QQ):
  WP (aD (aF 1 i7) (aD (bz (aH (aA 0)) (gN 2) Cj) (aD (aF 3 (cM aC)) (aD (dy (jz (aA 1)) EV) T))) [some (aK g),none,none,none,none,none,none] c) QQ:=by
 simp only[W,V];refine WP.of (show i7 _ c=.ok (.ref c.length) (c++[.dI []]) from rfl) ?_
 try simp only[W,V]
 refine⟨_,rfl,?_⟩;have a0:gy (c++[O.dI []]) c.length []:=⟨by simp;rfl,λq e=>(by cases e),by simp,by simp,λq e=>(by cases e)⟩
 refine L5 (lv:=[]) a0 ⟨by simp[dC],λq e=>(by cases e),λq e=>(by cases e),λq e=>(by cases e)⟩ K.row λs b h t G=>?_
 simp only[W,V];refine⟨am _ (by simp),?_⟩;have A:=t.len;rw[cx,zF] at A;have U:∀x∈b,c.length+1<=x.2.1:=λx E=>by
  rcases t.ix x E with z|⟨y,u,_⟩
  ·rw[cx,zF] at z;exact z
  ·cases u
 have d:Wy c c.length c.length s.length (s++[.lst []]) b []:=by
  refine⟨t.at_.more _,by simp;rfl,by lia,λx E=>dF (zh (t.at_.in_ x E)),bj _,by lia,λx E=>by have:=U x E;lia,λi hi=>?_,by rw[cx];lia⟩;rw[eR (by lia),t.keep i (by rw[cx];lia) (by lia) λq e=>(by cases e),eR hi]
 have f:Iv g (113:Nat) (dC b) [] []:=by
  rw[t.eq];exact Iv.start K
 generalize s.length=M at d;refine CG (λj Y s=>∃b q h o w p,Y=[some (aK g),some (.ref c.length),h,some (.ref M),o,w,p]/\Wy c c.length c.length M s b q/\Iv g (j:Int) (dC b) [] q/\q.length+15000*j<=15000*113) (k:=113) ⟨b,[],_,_,_,_,rfl,d,f,by simp⟩ (by lia) ?_;rintro j Y s ⟨b,q,h,o,w,p,rfl,d,f,ql⟩;refine WP.of (Lg rfl d.at_.at_) ?_;cases b with
 |nil=>
  rw[if_neg (by simp[gI])];simp only[W];exact k q M s _ _ _ _ ⟨f.wk,f.end_,by lia⟩ d.stp d.bM d.low
 |cons a lv0=>
  rw[if_pos (by simp[gI])];generalize hlv:a::lv0=b at *
  have R:b≠[]:=by rw[←hlv];simp
  have H:dC b≠[]:=by rw[←hlv];simp[dC]
  clear hlv a lv0;obtain⟨⟨l,v⟩,_⟩:=BW H;obtain⟨y,u,ey⟩:=cP.mp (show(cp (dC b),l)∈b.map λq=>(q.1,q.2.2) from v);have X:y.1=cp (dC b):=congrArg Prod.fst ey;have e2:y.2.2=l:=congrArg Prod.snd ey;have ev:eS (gI b) (cp (dC b))=some (.ref y.2.1):=by
   rw[EO];cases hf:b.find? λq=>decide (q.1=cp (dC b)) with
   |none=>exact absurd X (by simpa using List.find?_eq_none.mp hf y u)
   |some z=>
    have h1:z.1=cp (dC b):=by simpa using List.find?_some hf
    rw[vF d.at_.nd (Sw hf) u (h1.trans X.symm)];rfl
  have eg:aB (aE hX (aB (aA 1) aC)) aC [some (aK g),some (.ref c.length),h,some (.ref M),o,w,p] s=.ok [.int (cp (dC b))] s:=by
   rw[oC,show aE hX (aB (aA 1) aC) [some (aK g),some (.ref c.length),h,some (.ref M),o,w,p] s=_ from Kg d.at_.at_ R]
   rfl
  unfold EV;simp only[W,V];refine WP.of (KO rfl d.at_.at_ eg ev) ?_;rw[Kc]
  try simp only[W,V]
  have P:y.2.1≠c.length:=λz=>by have:=d.at_.in_ y u;rw[z,d.at_.at_] at this;cases this
  have I:(s.set c.length (.dI (gI (gl b (cp (dC b))))))[y.2.1]?=some (.dT (aS l)):=by
   rw[dU P.symm,←e2];exact d.at_.in_ y u
  have fl:=f.g.few.2 _ v;have fl:l.length<=15000:=fl;refine WP.of (C3 I (by lia)) ⟨_,rfl,?_⟩;have n:=f.next v;have Q:=d.less (m:=cp (dC b));rw[←Kd] at n;have sl:(aX l).length=l.length:=wz l;have tj:cp (dC b)<j:=f.lt _ v;have t0:0<=cp (dC b):=(f.g.key _ v).1;refine Ml Q n.g (by lia) (λr hr=>(f.g.row _ v r ((ze l).mem_iff.mp hr)).1) λs3 S q3 x2 x5 x6 J ee g3 a1=>?_
  refine⟨(cp (dC b)).toNat,by lia,S,q3,_,_,_,_,rfl,J,?_,by lia⟩;have C:=n.rows K;rw[←ee] at C;rw[Int.toNat_of_nonneg t0];exact C
theorem Jf(K:bt ks)(k:∀q g,SJ ks q->Q (.lst (gr q)) (au++g)):WP (oR [aK ks] au) Q:=by
 refine fQ rfl ?_;refine Nj K λq M s h l j f w b d a=>?_
 simp only[W,V,Dd.M];refine⟨_,_,rfl,b,?_⟩;have e:=Fw (s:=s.set M .dead) (au:=au) (λi c=>by rw[dU (by lia)];exact a i c) (by rw[gR];have:=zh b;lia);rw[e];exact k q _ w
theorem Uk(K:bt ks)(w:lL ks q)(k:∀g,Q (aK (aX (eZ ks q))) (au++g)):WP (CJ [aK ks,.lst (gr q)] au) Q:=by
 refine fQ rfl ?_;simp only[W,V];refine WP.of (UW K.nd (by have:=K.few;lia)) ?_
 try simp only[W,V]
 refine⟨_,rfl,?_⟩;refine fR (λi r s=>∃h c g,r=[some (aK ks),some (.lst (gr q)),some (.ref au.length),h,c]/\s=au++.dT (aS (eZ ks (q.take i)))::g/\bt (eZ ks (q.take i))/\lL (eZ ks (q.take i)) (q.drop i)) ⟨_,_,[],rfl,rfl,K,w⟩ ?_ ?_
 ·rintro i x r s m ⟨h,c,g,rfl,rfl,a,f⟩;unfold gr at m;rw[fq] at m;obtain⟨z,d,rfl⟩:=iE.mp m;have v:=(cn.mp d).1;have t:q.drop i=z::q.drop (i+1):=by
   rw[jY v];congr 1;exact(cn.mp d).2
  have l:q.take (i+1)=q.take i++[z]:=zg d;rw[t] at f;obtain⟨o,j,y⟩:=f;have b:=a.row _ o;have u:=vV b j;refine⟨[some (aK ks),some (.lst (gr q)),some (.ref au.length),some (aL z.1),some (.int z.2)],rfl,?_⟩;unfold R6;simp only[W,V];obtain⟨A,e⟩:=Vb (au:=au++.dT (aS (eZ ks (q.take i)))::g) (n:=au.length) (p:=z.2) (by simp) a.nd (by have:=a.few;lia) o (by have:=b.len;lia) j u.1.1 (by lia) (by lia) (by lia);refine WP.of e ?_;simp only[L];refine⟨_,_,g++A,rfl,?_,?_,?_⟩
  ·rw[l,eZ.snoc];unfold stepK;simp
  ·rw[l,eZ.snoc];exact(a.step o j).1
  ·rw[l,eZ.snoc];exact y
 ·rintro r s ⟨h,c,g,rfl,rfl,a,f⟩;rw[show(gr q).length=q.length from az ..,eQ] at *
  simp only[W,V];refine WP.of (C3 (n:=au.length) (ks:=eZ ks q) (by simp) (by have:=a.few;lia)) ?_;exact WP.of (show bE [.lst (aJ (aX (eZ ks q)))] _=.ok (aK (aX (eZ ks q))) _ from rfl) (k _)
theorem CY(K:bt ks)(k:∀g,Q (aK (cK (aZ ks))) (au++g)):WP (nN [aK ks] au) Q:=by
 refine fQ rfl ?_;simp only[W,V];refine Jf K λq g w=>?_
 refine Uk K w.wk λa=>?_
 rw[QK K w.wk w.fin,eh];exact k _
theorem LC{a b:Int}{i:Nat}:cutD [D.int (a+b-i),D.int i] none (some (1+if(1:Int)<i then 1 else(i:Int)))=(fZ a b i).map D.int:=by
 unfold fZ;by_cases c:i=0
 ·subst c;rw[if_neg (by decide)];have:=oY [D.int (a+b-(0:Nat)),D.int (0:Nat)] 1;refine this.trans ?_;simp
 ·have h:(1+if(1:Int)<i then 1 else(i:Int))=((2:Nat):Int):=by split<;>lia
  rw[h,if_pos (by lia)];exact oY _ 2
theorem Qr:f9 e k=true↔Builtin.bitAnd e k=k:=by
 unfold f9;rw[qw];exact⟨λh=>by injection h,λh=>by rw[h]⟩
theorem UM(o:1<=a)(h:a<=40)(p:1<=b)(n:b<=40)(f:a<2*b)(k:∀g,Q (.lst (aJ (ap a b (a/2+1).toNat))) (au++g)):WP (wp [.int a,.int b] au) Q:=by
 refine fQ rfl ?_;simp only[W,V];refine⟨am _ (by simp),JJ (by lia) (by lia),_,rfl,f6 (by lia) (by lia),?_⟩;refine fR (λi d s=>(∃v,d=[some (.int a),some (.int b),some (.ref au.length),v])/\s=au++[.lst (aJ (ap a b i))]) ⟨⟨_,rfl⟩,rfl⟩ ?_ ?_
 ·rintro i x d s j ⟨⟨v,rfl⟩,rfl⟩;obtain⟨r,rfl⟩:=rg j;have l:2*(i:Int)<=a:=by lia
  refine⟨[some (.int a),some (.int b),some (.ref au.length),some (.int (0+i))],rfl,?_⟩;rw[qr];have q:=rx a b i;have e:(au++[O.lst (aJ (ap a b i))])[au.length]?=some (.lst (aJ (ap a b i))):=by simp
  have m:eN 2 (i:Int):=.inl ⟨by decide,by decide⟩;unfold Sc;simp only[W,V,M];refine⟨trivial,trivial,m,trivial,trivial,m,trivial,?_⟩;split
  ·rename_i c;refine⟨_,_,rfl,e,trivial,am _ (by simp),_,rfl,.inl ⟨_,rfl,_,_,rfl,e,by rw[zd];exact cQ _ (by lia),?_⟩⟩;simp only[L];refine⟨⟨_,rfl⟩,?_⟩;rw[LC,Rh (Qr.mpr c)];simp[aJ]
  ·rename_i c;simp only[L];refine⟨⟨_,rfl⟩,?_⟩;rw[QA λz=>c (Qr.mp z)]
 ·rintro d s ⟨⟨v,rfl⟩,rfl⟩;rw[mw];simp only[W,V,M];refine⟨_,_,rfl,by simp;rfl,?_⟩;have:=k [.dead]
  simpa using this
def om(r:List Int) (p:Nat):List (List Int):=(ap (r.getD p 0) (r.getD (p+1) 0) (r.getD p 0/2+1).toNat).map λtwo=>r.take p++two++r.drop (p+2)
theorem Ql(r:List Int)(p:Nat):(br r p).Perm (om r p):=(ze _).map _
theorem x9(r:List Int)(p:Nat):(om r p).length<=(r.getD p 0/2+1).toNat:=by unfold om;rw[az];exact rx _ _ _
structure gx (au:aa) (A B:Nat) (xs ys:List D) (s:aa):Prop where
 a:s[A]?=some (.lst xs)
 b:s[B]?=some (.lst ys)
 ne:A≠B
 bA:au.length<=A
 bB:au.length<=B
 low:∀i,i<au.length->s[i]?=au[i]?
theorem gx.more{A B:Nat}(h:gx au A B xs ys s)(g:aa):gx au A B xs ys (s++g):=by
 have b:=zh h.a;refine⟨by rw[eR b];exact h.a,by rw[eR (zh h.b)];exact h.b,h.ne,h.bA,h.bB,λi a=>?_⟩;rw[eR (by have:=h.bA;lia)];exact h.low i a
theorem gx.putA{A B:Nat}(h:gx au A B xs ys s):gx au A B zs ys (s.set A (.lst zs)):=by
 refine⟨kR (zh h.a),by rw[dU h.ne];exact h.b,h.ne,h.bA,h.bB,λi a=>?_⟩;rw[dU (by have:=h.bA;lia)];exact h.low i a
theorem gx.putB{A B:Nat}(h:gx au A B xs ys s):gx au A B xs zs (s.set B (.lst zs)):=by
 refine⟨by rw[dU h.ne.symm];exact h.a,kR (zh h.b),h.ne,h.bA,h.bB,λi a=>?_⟩;rw[dU (by have:=h.bB;lia)];exact h.low i a
theorem J0:eV false (.lst (kC l)) (.lst []) s=.ok (.bl (decide (l=[]))) s:=by
 have h:=Kp (au:=s) (ns:=l.map λp:Nat=>(p:Int));rw[gi] at h;refine Eq.trans h ?_
 congr 2
 simp
theorem SY{r:List Int}(l:r.length<=1000)(k:Q (.lst (kC (bv r))) au):WP (aG (jw (aB (aU df (aE cZ (aB (aA 4) aC)) (eC (.int 1))) aC)) 1 [4] (gN 0) (eB (aU gc (aU cL (aA 1) (aA 0)) (aU bQ (eC (.int 2)) (aU cL (aA 1) (aU aO (aA 0) (eC (.int 1))))))) (aA 0) [a0,a1,a2,a3,some (aL r),a5,a6] au) Q:=by
 simp only[W,V];rw[show(((r.map D.int).length:Nat):Int)=(r.length:Int) by simp];have j:(r.length:Int)<=1000:=by lia
 refine⟨trivial,_,rfl,f6 (by lia) (by lia),by rw[mw];exact am _ (by lia),?_⟩;have i:((r.length:Int)-1).toNat=r.length-1:=by lia
 rw[i];unfold rng;refine re (λg=>∃v,g=[v,some (aL r)]) (λp:Nat=>decide (bg r p)) (λp:Nat=>D.int p) (λp:Nat=>D.int (0+p)) ⟨_,rfl⟩ ?_ k;rintro p e g ⟨v,rfl⟩;have e:=bT.mp e;have a:r[p]?=some r[p]:=dr (by lia);have b:r[p+1]?=some r[p+1]:=dr (by lia);have h:=λs=>qd (au:=s) a
 have f:=λs=>qd (au:=s) b
 rw[u4] at f;rw[qr];refine⟨_,rfl,⟨_,rfl⟩,?_,λ_=>?_⟩
 ·simp only[W,V];refine WP.of (h _) (WP.of (f _) ?_);simp only[W,V];refine⟨.inl ⟨by decide,by decide⟩,trivial,?_⟩;rw[decide_eq_decide];exact⟨λz=>⟨_,_,a,b,z⟩,λ⟨x,y,d,c,z⟩=>by rw[a] at d;rw[b] at c;cases d;cases c;exact z⟩
 ·simp only[W,V];exact⟨trivial,trivial⟩
theorem Hy(c:af r 16 6)(e:bg r p)(k:∀g,Q (.lst (aJ (om r p))) (s++g)):WP (aG (aH (aE wp (aB (aU cL (aA 4) (aA 6)) (aB (aU cL (aA 4) (aU aO (aA 6) (eC (.int 1)))) aC)))) 1 [4,6] (gN 0) aI (aU aO (aU aO (lI (aA 1) dX (dW (aA 2))) (aA 0)) (lI (aA 1) (dW (aU aO (aA 2) (eC (.int 2)))) dX)) [a0,a1,a2,a3,some (aL r),a5,some (.int p)] s) Q:=by
 have l:=vV c e;have x:p+1<r.length:=by obtain⟨a,b,_,z,_⟩:=e;exact(cn.mp z).1
 have d:r.getD p 0<2*r.getD (p+1) 0:=by
  obtain⟨a,b,o,q,h⟩:=e;rw[dO,o,dO,q];exact h
 have m:r[p]?=some (r.getD p 0):=by rw[dO,dr (by lia)];rfl
 have w:r[p+1]?=some (r.getD (p+1) 0):=by rw[dO,dr (by lia)];rfl
 have t:=λs=>qd (au:=s) m
 have f:=λs=>qd (au:=s) w
 rw[u4] at f;have A:=c.len;unfold om at k;generalize r.getD p 0=a at *
 generalize r.getD (p+1) 0=b at *
 simp only[W,V];refine WP.of (t _) (WP.of (f _) ?_);refine UM (by lia) (by lia) (by lia) (by lia) d λg=>⟨_,rfl,by rw[zd];exact am _ (by have:=rx a b (a/2+1).toNat;lia),?_⟩
 have n:=xV r p;have i:=QU r (p+2);rw[u4] at i;unfold aJ;refine re (λj=>∃v,j=[v,some (aL r),some (.int p)]) (λ_=>true) (λtwo=>aL (r.take p++two++r.drop (p+2))) aL ⟨_,rfl⟩ ?_ ?_
 ·rintro two u j ⟨v,rfl⟩;have y:two.length<=2:=RU two u;refine⟨_,rfl,⟨_,rfl⟩,by simp only[W,uU],λ_=>?_⟩;simp only[W,V,M];refine⟨_,rfl,.inl ⟨_,rfl,?_⟩⟩;rw[n];have E:(r.take p).length<=100:=by rw[fj];lia
  have C:(r.drop (p+2)).length<=100:=by rw[py];lia
  refine⟨by rw[az,az];exact am _ (by lia),_,rfl,.inl ⟨_,rfl,?_⟩⟩;rw[show(p:Int)+2=(p:Int)+(2:Nat) from rfl,i];refine⟨by rw[cx,az,az,az];exact am _ (by lia),trivial,?_⟩;simp[aL]
 ·rw[uP];have:=k g;rw[show aJ ((ap a b (a/2+1).toNat).map λtwo=>r.take p++two++r.drop (p+2))=(ap a b (a/2+1).toNat).map λtwo=>aL (r.take p++two++r.drop (p+2)) from by unfold aJ;rw[gi];rfl] at this;exact this
theorem wU:WP (aB f aC σ au) Q=WP (f σ au) (λx s=>Q [x] s):=by simp only[W]
def jp(r:List Int):Bool:=decide (bv r=[])
theorem Ka(h:l≠[])(s:aa):∃p∈l,cL (.lst (kC l)) (.int (-1)) s=.ok (.int p) s:=by
 refine⟨l.getLast h,List.getLast_mem h,lR (xs:=kC l) rfl ?_⟩;have a:0<l.length:=List.length_pos_iff.mpr h;have e:kC l=kC l.dropLast++[D.int (l.getLast h)]:=by
  conv=>lhs;rw[←List.dropLast_concat_getLast h]
  simp
 rw[e];exact EX _ _
structure qZ (m:Int) (ws fu:List (List Int)):Prop where
 row:∀r∈fu,af r 16 6/\ak 1 r<m
 nus:aZ (ws.filter jp)^^^aZ fu=aZ ws
 len:fu.length<=9*ws.length
theorem qZ.steep(h:qZ m ws fu)(a:bv r=[]):qZ m (ws++[r]) fu:=by
 refine⟨h.row,?_,by rw[cx];have:=h.len;lia⟩;rw[mN,l8 (by unfold jp;exact eK a),Du,nP,nP,←h.nus,gj,qq (aZ [r]),←gj]
theorem qZ.ex(h:qZ m ws fu)(a:af r 16 6)(b:bg r p)(e:ak 1 r<=m):qZ m (ws++[r]) (fu++om r p):=by
 have c:¬ bv r=[]:=λz=>uw z p b
 refine⟨λx hx=>?_,?_,?_⟩
 ·rcases eO.mp hx with hx|hx
  ·exact h.row x hx
  ·have hx:=(Ql r p).mem_iff.mpr hx;have:=Qp a.pos b hx;exact⟨CM a b x hx,by lia⟩
 ·rw[mN,l9 (by unfold jp;rw[dM c];decide),Du,kn,nP,nP,←h.nus,←Cw (Ql r p),xA a b,gj];show _=aZ _^^^(aZ fu^^^(nu r^^^0));rw[jH]
 ·have d:=h.len;have g:=x9 r p;have f:=(vV a b).1.2;rw[cx,cx,zF];lia
theorem kT(K:bt a)(G:∀r∈a,ak 1 r<=m)(t:gx au A B (aJ sp) [] s)(I:sp.length<=100000)
  (k:∀b o j f c,qZ m a b->gx au A B (aJ (sp++a.filter jp)) (aJ b) o->QQ (.nx [a0,some (aK a),some (.ref A),some (.ref B),j,f,c]) o):
  WP (dk (gN 4) FS (aJ a) [a0,some (aK a),some (.ref A),some (.ref B),v4,v5,v6] s) QQ:=by
 have E:=K.few;refine fR (λi w s=>∃b j f c,w=[a0,some (aK a),some (.ref A),some (.ref B),j,f,c]/\qZ m (a.take i) b/\gx au A B (aJ (sp++(a.take i).filter jp)) (aJ b) s) ⟨[],_,_,_,rfl,⟨λr H=>(by cases H),by simp[aZ],by simp⟩,by simpa using t⟩ ?_ ?_
 ·rintro i x w s P ⟨b,j,f,c,rfl,F,t⟩;obtain⟨r,h,rfl⟩:=zu P;have U:=(cn.mp h).1;have n:=db h;have d:=K.row r n;have X:=d.len;refine⟨[a0,some (aK a),some (.ref A),some (.ref B),some (aL r),f,c],rfl,?_⟩;have Y:(sp++(a.take i).filter jp).length<=200000:=by
   have:=vr jp (a.take i);rw[fj] at this;rw[cx];lia
  have J:=F.len;rw[fj] at J;unfold FS;rw[sA];obtain⟨T,o,y,z,l⟩:=(SY (au:=s) (a0:=a0) (a1:=some (aK a)) (a2:=some (.ref A)) (a3:=some (.ref B)) (a5:=f) (a6:=c) (r:=r) (Q:=λv o=>v=.lst (kC (bv r))/\o=s) (by lia) ⟨rfl,rfl⟩).get;rw[z,l] at y;clear z l;refine WP.of (show aF 5 _ _ _=.ok (.nx [a0,some (aK a),some (.ref A),some (.ref B),some (aL r),some (.lst (kC (bv r))),c]) _ from by rw[xK,y];rfl) ?_;simp only[W,V];refine⟨am _ (by simp),WP.of J0 ?_⟩;simp only[W,V];by_cases hp:bv r=[]
  ·rw[if_pos hp];simp only[W,V,M];refine⟨_,_,rfl,t.a,_,_,rfl,t.a,by rw[zd];exact cQ _ (by lia),?_⟩;simp only[L];refine⟨b,_,_,_,rfl,by rw[zg h];exact F.steep hp,?_⟩;rw[zg h,mN,l8 (by unfold jp;exact eK hp),Du,←eh];have:=t.putA (zs:=aJ (sp++(a.take i).filter jp)++[aL r]);rw[show aJ (sp++(a.take i).filter jp)++[aL r]=aJ (sp++(a.take i).filter jp++[r]) from by simp[aJ]] at this;rw[show aJ (sp++(a.take i).filter jp)++[aL r]=aJ (sp++(a.take i).filter jp++[r]) from by simp[aJ]];exact this
  ·rw[if_neg hp];obtain⟨p,q,e⟩:=Ka hp s;have u:=CW.mp q
   try simp only[W,V]
   refine WP.of e ?_
   try simp only[W,V]
   rw[Rp];refine WP.of (show aA 3 [a0,some (aK a),some (.ref A),some (.ref B),some (aL r),some (.lst (kC (bv r))),some (.int p)] _=.ok (.ref B) _ from rfl) ⟨_,_,rfl,t.b,?_⟩;rw[wU];refine Hy d u λg=>?_
   have C:=t.more g;have R:=x9 r p;have S:=(vV d u).1.2;refine⟨_,_,_,rfl,C.b,rfl,by rw[zd,zd];exact am _ (by lia),?_⟩;simp only[L];refine⟨b++om r p,_,_,_,rfl,by rw[zg h];exact F.ex d u (G r n),?_⟩;rw[zg h,mN,l9 (by unfold jp;rw[dM hp];decide),Du,kn];have:=C.putB (zs:=aJ b++aJ (om r p));rw[show aJ (b++om r p)=aJ b++aJ (om r p) from by simp[aJ]];exact this
 ·rintro w s ⟨b,j,f,c,rfl,F,t⟩;rw[zd,eQ] at F t;exact k b s j f c F t
theorem Tj{l:List (List Int)}(b:l.Nodup)(h:fc l):l.length<=84:=by
 have:=ml b λr a=>by
  obtain⟨i,e,_⟩:=uI (h r a).1 (h r a).2;exact db e
 rwa [nM] at this
theorem Vc(hx:fY x=some (aJ l))(c:∀r∈l,af r 16 6)(hl:l.length<=1000000)(k:∀g,Q (aK (cK (aZ l))) (au++g)):WP (C8 [x] au) Q:=by
 refine fQ rfl ?_;simp only[W,V];obtain⟨g0,e0⟩:=C0 (au:=au) hx hl (by have:=zx l;lia);refine WP.of e0 ⟨am _ (by simp),?_⟩;generalize hA:(au++g0).length=A;have y:au.length<=A:=by rw[←hA,cx];lia
 refine CG (λj I s=>∃a sp R z J H,I=[some x,some (aK a),some (.ref A),R,z,J,H]/\bt a/\(∀r∈a,ak 1 r<j)/\fc sp/\aZ sp^^^aZ a=aZ l/\sp.length+84*j<=84*113/\s[A]?=some (.lst (aJ sp))/\∀i,i<au.length->s[i]?=au[i]?) (k:=113) ?_ (by lia) ?_
 ·refine⟨aQ l,[],_,_,_,_,rfl,⟨zr l,λr h=>c r (jj h)⟩,λr h=>?_,λr h=>(by cases h),?_,by simp,by rw[←hA];simp,λi d=>?_⟩
  ·have:=o6 (c r (jj h));lia
  ·rw[mm];exact lY _
  ·rw[eh,eR d]
 ·rintro j I s ⟨a,sp,R,z,J,H,rfl,K,E,S,C,P,q,e⟩;simp only[W,V];rw[show(((aJ a).length:Nat):Int)=(a.length:Int) by rw[zd]];refine⟨trivial,?_⟩;cases a with
  |nil=>
   rw[if_neg (by simp)];simp only[W,V,M];refine⟨_,_,rfl,q,?_⟩;obtain⟨U,v⟩:=C0 (au:=s.set A .dead) (x:=.lst (aJ sp)) (l:=sp) rfl (by lia) (by have:=zx sp;lia);refine WP.of v ?_;have u:au.length<=s.length:=by have:=zh q;lia
   have Y:=Fw (s:=s.set A .dead) (au:=au) (λi d=>by rw[dU (by lia)];exact e i d) (by rw[gR];exact u);have e3:aQ sp=cK (aZ l):=by
    have p:fc (aP sp):=λr h=>S r (jj (by unfold aQ;rw[(ze _).mem_iff];exact h))
    have f:=BU p (qi sp);have X:aZ (aP sp)=aZ sp:=by rw[←mm sp];unfold aQ;exact(Cw (ze _)).symm
    rw[X,show aZ sp=aZ l by rw[←C];exact(jH _).symm] at f;exact f
   rw[Y,e3,eh];exact k _
  |cons r0 ws0=>
   generalize hws:r0::ws0=a at *
   have n:0<a.length:=by rw[←hws];simp
   clear hws r0 ws0;rw[if_pos (by lia)];have hj:0<j:=by
    obtain⟨r,c⟩:=List.exists_mem_of_length_pos n;have p:=E r c;have f:=o6 (K.row r c);lia
   unfold Sh;simp only[W,V];refine⟨am _ (by simp),_,rfl,?_⟩;have w:=zh q;have t:gx au A s.length (aJ sp) [] (s++[.lst []]):=⟨by rw[eR w];exact q,by simp,by lia,y,by lia,λi d=>by rw[eR (by lia)];exact e i d⟩
   generalize s.length=B at t;refine kT (m:=(j:Int)-1) K (λr c=>by have:=E r c;lia) t (by lia) λo s' w4 w5 w6 F b=>?_
   simp only[W,V,M];refine⟨_,_,rfl,b.b,?_⟩;have T:=K.few;have fl:=F.len;obtain⟨U,v⟩:=C0 (au:=s'.set B .dead) (x:=.lst (aJ o)) (l:=o) rfl (by lia) (by have:=zx o;lia);refine WP.of v ?_;simp only[L];have G:fc (a.filter jp):=λr h=>by
    obtain⟨p,f⟩:=fH.mp h;exact⟨K.row r p,uw (gU f)⟩
   have sl:=Tj (K.nd.filter jp) G;have a0:=zh b.b;refine⟨j-1,by lia,aQ o,sp++a.filter jp,_,_,_,_,rfl,⟨zr o,λr h=>(F.row r (jj h)).1⟩,λr h=>?_,λr h=>?_,?_,?_,?_,λi d=>?_⟩
   ·have:=(F.row r (jj h)).2;lia
   ·rcases eO.mp h with h|h
    ·exact S r h
    ·exact G r h
   ·rw[mm,nP,gj,F.nus,C]
   ·rw[cx];lia
   ·rw[eR (by rw[gR];exact zh b.a),dU b.ne.symm];exact b.a
   ·have:=b.bB;rw[eR (by rw[gR];lia),dU (by lia)];exact b.low i d
noncomputable def cS:List (List (List Int)):=[[[]],[[1]],[[2]],[[2,1]],[[3,1],[4]],[[4,1]],[[4,2]],[[4,2,1]],[[5,2,1],[6,2],[7,1],[8]],[[6,2,1],[8,1]],[[6,3,1],[7,3],[8,2]],[[7,3,1],[8,2,1]],[[8,3,1],[8,4]],[[8,4,1]],[[8,4,2]],[[8,4,2,1]],[[9,4,2,1],[10,4,2],[11,4,1],[12,3,1],[12,4],[13,2,1],[14,2],[15,1],[16]]]
def oi(k:Nat):List (List Int):=(List.range k).flatMap λi=>(cS.getD (k-1-i) []).map λr=>((i+1:Nat):Int)::r
noncomputable def mU(r:List Int):Bool:=(r.all λx=>decide (1<=x))&&decide (r.sum<=16)&&Nat.ble r.length 6
theorem II:((List.range 16).all λk=>decide (cK (aZ (oi (k+1)))=cS.getD (k+1) [])&&(oi (k+1)).all mU&&decide (oi (k+1)).Nodup&&Nat.ble (oi (k+1)).length 1000)=true:=by decide +kernel
theorem yy:cS.length=17/\(cS.all λl=>Nat.ble l.length 100&&l.all λr=>Nat.ble r.length 6)=true:=by decide +kernel
theorem EM(h:mU r=true):af r 16 6:=by
 unfold mU at h;rw[gE,gE] at h;exact⟨λx a=>gU (di.mp h.1.1 x a),gU h.1.2,ik h.2⟩
structure Wm (k:Nat):Prop where
 eq:cK (aZ (oi k))=cS.getD k []
 ok:bt (oi k)
 len:(oi k).length<=1000
theorem wO(h:1<=k)(f:k<=16):Wm k:=by
 have:=di.mp II (k-1) (bT.mpr (by lia));rw[show k-1+1=k by lia,gE,gE,gE] at this;obtain⟨⟨⟨a,b⟩,c⟩,d⟩:=this;exact⟨gU a,⟨gU c,λr e=>EM (di.mp b r e)⟩,ik d⟩
theorem vI(h:k<=16):cS[k]?=some (cS.getD k []):=by
 rw[dO,dr (by rw[yy.1];lia)];rfl
theorem IK(h:k<=16):(cS.getD k []).length<=100/\∀r∈cS.getD k [],r.length<=6:=by
 have:=di.mp yy.2 _ (db (vI h));rw[gE] at this;exact⟨ik this.1,λr a=>ik (di.mp this.2 r a)⟩
theorem KY(h:1<=k)(m:k<=16)(t:gx au A B ((cS.take k).map aK) [] s)
  (q:∀e a,gx au A B ((cS.take k).map aK) (aJ (oi k)) e->QQ (.nx [a0,some (.ref A),some (.int k),some (.ref B),a]) e):
  WP (dk (gN 4) FW (rng 1 k) [a0,some (.ref A),some (.int k),some (.ref B),v4] s) QQ:=by
 have P:=wO h m;have d:∀i,i<=k->(((List.range i).flatMap λi=>(cS.getD (k-1-i) []).map λr=>((i+1:Nat):Int)::r)).length<=1000:=λi j=>by
  refine ay ?_ P.len;unfold oi;rw[show k=i+(k-i) by lia,List.range_add,pC,cx,show i+(k-i)=k by lia];lia
 refine fR (λi b s=>∃a,b=[a0,some (.ref A),some (.int k),some (.ref B),a]/\gx au A B ((cS.take k).map aK) (aJ ((List.range i).flatMap λi=>(cS.getD (k-1-i) []).map λr=>((i+1:Nat):Int)::r)) s) ⟨_,rfl,t⟩ ?_ ?_
 ·rintro i x b s l ⟨a,rfl,t⟩;obtain⟨j,rfl⟩:=rg l;refine⟨[a0,some (.ref A),some (.int k),some (.ref B),some (.int (1+i))],rfl,?_⟩;unfold FW;have g:cL (.ref A) (.int ((k:Int)-(1+i))) s=.ok (aK (cS.getD (k-1-i) [])) s:=by
   rw[show(k:Int)-(1+i)=((k-1-i:Nat):Int) by lia];refine lR (xs:=(cS.take k).map aK) (wn t.a) (EY ?_);rw[fq,OM (by lia),vI (by lia)];rfl
  have c:=IK (k:=k-1-i) (by lia);have n:=d i (by lia);simp only[W,V];rw[Rp];refine WP.of (show aA 3 [a0,some (.ref A),some (.int k),some (.ref B),some (.int (1+i))] s=.ok (.ref B) s from rfl) ⟨_,_,rfl,t.b,?_⟩;rw[wU];simp only[W,V];refine⟨trivial,WP.of g ⟨_,rfl,by rw[zd];exact am _ (by lia),?_⟩⟩;refine re (as:=cS.getD (k-1-i) []) (λb=>∃v,b=[v,some (.int (1+i))]) (λ_=>true) (λr=>aL (((i+1:Nat):Int)::r)) aL ⟨_,rfl⟩ ?_ ?_
  ·rintro r f b ⟨v,rfl⟩;refine⟨_,rfl,⟨_,rfl⟩,by simp only[W,uU],λ_=>?_⟩;have:=c.2 r f;simp only[W,V];refine⟨am _ (by simp),by rw[az];exact am _ (by simp;lia),trivial,?_⟩;rw[show(1:Int)+i=((i+1:Nat):Int) by lia]
   rfl
  ·rw[uP];refine⟨_,_,_,rfl,t.b,rfl,by rw[zd,az];exact am _ (by lia),?_⟩;simp only[L];refine⟨_,rfl,?_⟩;rw[va,pC,zH];have:=t.putB (zs:=aJ ((List.range i).flatMap λi=>(cS.getD (k-1-i) []).map λr=>((i+1:Nat):Int)::r)++(cS.getD (k-1-i) []).map λr=>aL (((i+1:Nat):Int)::r));rw[show aJ ((List.range i).flatMap (λi=>(cS.getD (k-1-i) []).map λr=>((i+1:Nat):Int)::r)++(cS.getD (k-1-i) []).map λr=>((i+1:Nat):Int)::r)=aJ ((List.range i).flatMap λi=>(cS.getD (k-1-i) []).map λr=>((i+1:Nat):Int)::r)++(cS.getD (k-1-i) []).map λr=>aL (((i+1:Nat):Int)::r) from by unfold aJ;rw[gC,gi];rfl];exact this
 ·rintro b s ⟨a,rfl,t⟩;rw[mw] at t;exact q s a t
theorem KZ(h:k<=16):(cS.take (k+1)).map aK=(cS.take k).map aK++[aK (cS.getD k [])]:=by
 rw[zg (vI h),gC];rfl
theorem GC{k:Nat}{n:Int}(y:n=k)(h:k<=16)(q:∀g,Q (.lst ((cS.take (k+1)).map aK)) (au++g)):WP (De [.int n] au) Q:=by
 refine fQ rfl ?_;subst y;simp only[W,V];refine⟨am _ (by simp),am _ (by simp),am _ (by simp),_,_,rfl,f6 (by lia) (by lia),f6 (by lia) (by lia),?_⟩;rw[show((k:Int)+1-1).toNat=k by lia];refine fR (λi m s=>∃l f e,m=[some (.int k),some (.ref au.length),l,f,e]/\s[au.length]?=some (.lst ((cS.take (i+1)).map aK))/\∀j,j<au.length->s[j]?=au[j]?) ⟨_,_,_,rfl,by simp;rfl,λj d=>by rw[eR d]⟩ ?_ ?_
 ·rintro i x m s w ⟨l,f,e,rfl,c,b⟩;obtain⟨p,rfl⟩:=rg w;refine⟨[some (.int k),some (.ref au.length),some (.int ((i+1:Nat):Int)),f,e],by rw[show(1:Int)+i=((i+1:Nat):Int) by lia];rfl,?_⟩;unfold Sn;simp only[W,V];refine⟨am _ (by simp),_,_,rfl,f6 (by lia) (by lia),f6 (by lia) (by lia),?_⟩;rw[show(((i+1:Nat):Int)+1-1).toNat=i+1 by lia];have v:=zh c;have t:gx au au.length s.length ((cS.take (i+1)).map aK) [] (s++[.lst []]):=⟨by rw[eR v];exact c,by simp,by lia,bj _,by lia,λj d=>by rw[eR (by lia)];exact b j d⟩
  refine KY (k:=i+1) (by lia) (by lia) t λr z a=>?_
  have P:=wO (k:=i+1) (by lia) (by lia);simp only[W,V,M];refine⟨_,_,rfl,a.a,WP.of (FB a.b) ?_⟩;refine CY (ks:=oi (i+1)) P.ok λg=>?_
  have o:(r++g)[au.length]?=some (.lst ((cS.take (i+1)).map aK)):=by
   rw[eR (zh a.a)];exact a.a
  refine⟨_,_,rfl,o,by rw[az,fj];exact cQ _ (by lia),?_⟩;simp only[L];refine⟨_,_,_,rfl,?_,λj d=>?_⟩
  ·rw[kR (zh o),KZ (k:=i+1) (by lia),P.eq]
  ·have:=zh a.b;have:=a.bB;rw[dU (by lia),eR (by lia)];exact a.low j d
 ·rintro m s ⟨l,f,e,rfl,c,b⟩;rw[mw] at c;simp only[W,V,M];refine⟨_,_,rfl,c,?_⟩;have u:=Fw (s:=s.set au.length .dead) (au:=au) (λi p=>by rw[dU (by lia)];exact b i p) (by rw[gR];have:=zh c;lia);rw[u];exact q _
end Dd
namespace K45
end K45
namespace Dd
open L2 K07 K23
def cX(l:List (List Int)) (v:Nat):Nat:=l.foldr (λr x=>cY r v^^^x) 0
theorem uq(l:List (List Int)):aZ l=cX l 1:=rfl
theorem FG:∀(l m:List (List Int)) (v:Nat),cX (l++m) v=cX l v^^^cX m v
 |[],m,v=>(lY _).symm
 |r::l,m,v=>by show cY r v^^^cX (l++m) v=(cY r v^^^cX l v)^^^cX m v;rw[FG l m,gj]
theorem v8{l:List (List Int)}(h:l.Perm m)(v:Nat):cX l v=cX m v:=by
 induction h with
 |nil=>rfl
 |@cons x a b _ ih=>show cY x v^^^cX a v=cY x v^^^cX b v;rw[ih]
 |swap x y l=>show cY y v^^^(cY x v^^^cX l v)=cY x v^^^(cY y v^^^cX l v);rw[←gj,←gj,qq (cY y v)]
 |trans _ _ a b=>exact a.trans b
theorem MB{l:List (List Int)}(a:l.Nodup)(v:Nat):cX (aR l r) v=cX l v^^^cY r v:=by
 by_cases h:r∈l
 ·have p:l.Perm (r::aR l r):=by
   refine C2 a (iB.mpr ⟨λz=>?_,qj a⟩) λx=>?_
   ·rw[kX] at z;rcases z with⟨_,z⟩|⟨_,z⟩
    ·exact z rfl
    ·exact z h
   ·rw[bU,kX];by_cases c:x=r
    ·subst c;simp[h]
    ·simp[c]
  rw[v8 p v];show _=(cY r v^^^cX (aR l r) v)^^^cY r v;rw[qq,←gj,qp,lY]
 ·have e:aR l r=l++[r]:=by unfold aR;rw[if_neg h]
  rw[e,FG];show cX l v^^^(cY r v^^^0)=_;rw[jH]
theorem Ft(v:Nat):∀(m l:List (List Int)),l.Nodup->cX (m.foldl aR l) v=cX l v^^^cX m v
 |[],l,_=>(jH _).symm
 |r::m,l,nd=>by
  rw[sN,Ft v m _ (qj nd),MB nd];show _=cX l v^^^(cY r v^^^cX m v);rw[gj]
theorem ED(l:List (List Int))(v:Nat):cX (aQ l) v=cX l v:=by
 unfold aQ;rw[v8 (ze _)];unfold aP;rw[Ft v l [] mI];exact lY _
theorem EC{f:List Int->List Int}{g:List Int->Nat}(r:List Int)(v:Nat)(h:∀two,cY (f two) v=cY r (g two)):∀l:List (List Int),cX (l.map f) v=cY r (l.foldr (λtwo x=>g two^^^x) 0)
 |[]=>(Cv r).symm
 |two::l=>by
  show cY (f two) v^^^cX (l.map f) v=cY r (g two^^^l.foldr (λtwo x=>g two^^^x) 0);rw[EC r v h l,B8,h]
theorem Ic{r:List Int}{p:Nat}{L:Nat}(v:Nat)(h:af r 16 L)(q:bg r p):cX (br r p) v=cY r v/\∀z∈br r p,z.sum=r.sum:=by
 obtain⟨a,b,f,e,o⟩:=q;have G:p+1<r.length:=(cn.mp e).1;have A:=h.pos a (db f);have t:=h.pos b (db e);have l:r=r.take p++([a,b]++r.drop (p+2)):=by
  have m:r.drop p=a::r.drop (p+1):=by
   rw[jY (by lia)]
   congr 1
   exact(cn.mp f).2
  have n:r.drop (p+1)=b::r.drop (p+2):=by
   rw[jY (by lia)]
   congr 1
   exact(cn.mp e).2
  calc r=r.take p++r.drop p:=(kx p r).symm
   _=_:=by rw[m,n];simp
 have i:r.sum=(r.take p).sum+(a+(b+(r.drop (p+2)).sum)):=by
  conv=>lhs;rw[l]
  rw[gQ,gQ];simp;lia
 have j:a+b<=16:=by
  have E:=h.sum;have u:0<=(r.take p).sum:=zm λx k=>h.pos x (l5 k)
  have C:0<=(r.drop (p+2)).sum:=zm λx k=>h.pos x (pF k)
  lia
 obtain⟨a,rfl⟩:=qH (show 0<=a by lia);obtain⟨b,rfl⟩:=qH (show 0<=b by lia);unfold br;rw[dO,f,dO,e];simp only[Dy];refine⟨?_,λz s=>?_⟩
 ·rw[v8 ((ze _).map _),show((a:Int)/2+1).toNat=a/2+1 by lia,Fv (by lia) (by lia) (by lia) (bj _)];rw[EC (g:=λtwo=>cY two (cY (r.drop (p+2)) v)) (r.take p) v λtwo=>by rw[mr,mr]];rw[xC (by lia) (by lia) (by lia) (by lia)]
  conv=>rhs;rw[l]
  rw[mr,mr];rfl
 ·obtain⟨two,d,rfl⟩:=cP.mp s;have d:=(ze _).mem_iff.mp d;rw[show((a:Int)/2+1).toNat=a/2+1 by lia,Fv (by lia) (by lia) (by lia) (bj _)] at d;rw[gQ,gQ,i];rcases Rl d with rfl|⟨c,y,w,rfl⟩
  ·simp;lia
  ·simp;lia
theorem EF(v:Nat):∀{q:List (List Int×Nat)}{e:List (List Int)},bt e->lL e q->cX (eZ e q) v=cX e v/\∀d:Int,(∀r∈e,r.sum=d)->∀r∈eZ e q,r.sum=d
 |[],e,h,_=>⟨rfl,λ_ h=>h⟩
 |z::q,e,h,w=>by
  obtain⟨a,b⟩:=h.step w.1 w.2.1;obtain⟨c,d⟩:=EF v a w.2.2;obtain⟨i,g⟩:=Ic v (h.row _ w.1) w.2.1;refine⟨c.trans ?_,λn f=>d n λr hr=>?_⟩
  ·unfold stepK;rw[Ft v _ _ h.nd];show cX e v^^^(cY z.1 v^^^cX (br z.1 z.2) v)=_;rw[i,qp,jH]
  ·rcases Fm hr with hr|hr
   ·exact f r hr
   ·rcases bU.mp hr with rfl|hr
    ·exact f _ w.1
    ·rw[g r hr];exact f _ w.1
theorem xQ(K:bt b):∀(n j:Nat),j<=n->∀(lr:Lr) (q:List (List Int×Nat)),Iv b (j:Int) lr [] q->∃d,lL b d/\∀x∈eZ b d,iq x
 |0,j,hj,lr,q,h=>by
  by_cases c:lr=[]
  ·subst c;exact⟨q,h.wk,h.end_⟩
  ·obtain⟨⟨l,a⟩,_⟩:=BW c;have g:cp lr<(j:Int):=h.lt _ a;have f:0<=cp lr:=(h.g.key _ a).1;lia
 |n+1,j,hj,lr,q,h=>by
  by_cases c:lr=[]
  ·subst c;exact⟨q,h.wk,h.end_⟩
  ·obtain⟨⟨l,a⟩,_⟩:=BW c;have g:cp lr<(j:Int):=h.lt _ a;have f:0<=cp lr:=(h.g.key _ a).1;have e:=(h.next a).rows K;rw[show cp lr=((cp lr).toNat:Int) by lia] at e;exact xQ K n (cp lr).toNat (by lia) _ _ e
structure Wl (ks:List (List Int)):Prop where
 op:∀v,cX (cK (aZ ks)) v=cX ks v
 ok:bt (cK (aZ ks))
 st:fc (cK (aZ ks))
 sum:∀d:Int,(∀r∈ks,r.sum=d)->∀r∈cK (aZ ks),r.sum=d
theorem BV(K:bt ks):Wl ks:=by
 obtain⟨q,w,s⟩:=xQ K 113 113 (bj _) _ _ (Iv.start K);have e:=QK K w s;obtain⟨b,_⟩:=K.walk w;refine⟨λv=>?_,⟨?_,λr a=>?_⟩,λr a=>?_,λd c r a=>?_⟩
 ·rw[←e,v8 (ze _)];exact(EF v K w).1
 ·rw[←e];exact(ze _).nodup_iff.mpr b.nd
 ·rw[←e] at a;exact b.row r ((ze _).mem_iff.mp a)
 ·rw[←e] at a;have a:=(ze _).mem_iff.mp a;exact⟨b.row r a,s r a⟩
 ·rw[←e] at a;exact(EF 0 K w).2 d c r ((ze _).mem_iff.mp a)
theorem uJ(v:Nat)(C:List (List Int)):∀M:List (List Int),cX (ai M C) v=cX M (cX C v)
 |[]=>rfl
 |m::M=>by
  show cX (C.map (m++·)++ai M C) v=cY m (cX C v)^^^cX M (cX C v);rw[FG,uJ v C M,EC (g:=λc=>cY c v) m v λc=>mr m c v]
  rfl
theorem K7:(cR.all λr=>decide ((2:Int)^r.length<=r.sum+1))=true:=by decide +kernel
theorem yD(h:af r 16 6)(s:iq r):(2:Int)^r.length<=r.sum+1:=by
 obtain⟨i,e,_⟩:=uI h s;exact gU (di.mp K7 r (db e))
theorem vW(d:af a 16 6)(e:af b 16 6)(f:iq a)(g:iq b)(h:a.sum+b.sum<=16):af (a++b) 16 6:=by
 have i:=yD d f;have l:=yD e g;refine⟨λx hx=>?_,by rw[gQ];exact h,?_⟩
 ·rcases eO.mp hx with hx|hx
  ·exact d.pos x hx
  ·exact e.pos x hx
 ·rw[cx];have k:=d.len;have j:=e.len;rcases mG 6 (a.length+b.length) with z|z
  ·exfalso
   have c:∀x∈List.range 7,∀y∈List.range 7,6<x+y->(18:Int)<2^x+2^y:=by decide +kernel
   have:=c a.length (bT.mpr (by lia)) b.length (bT.mpr (by lia)) z;lia
  ·exact z
theorem BQ:((List.range 17).all λk=>(cS.getD k []).all λr=>mU r&&decide (bv r=[])&&decide (r.sum=(k:Int)))=true/\(cS.all λl=>Nat.ble l.length 20)=true/\cK 1=[[]]:=by decide +kernel
structure Wn (k:Nat):Prop where
 row:∀r∈cS.getD k [],af r 16 6/\iq r/\r.sum=k
 len:(cS.getD k []).length<=20
theorem SH(h:k<=16):Wn k:=by
 refine⟨λr a=>?_,?_⟩
 ·have:=di.mp (di.mp BQ.1 k (bT.mpr (by lia))) r a;rw[gE,gE] at this;exact⟨EM this.1.1,uw (gU this.1.2),gU this.2⟩
 ·exact ik (di.mp BQ.2.1 _ (db (vI h)))
structure Md (M:List (List Int)) (d:Int) (F:Nat->Nat):Prop where
 ok:bt M
 st:fc M
 sum:∀r∈M,r.sum=d
 op:∀v,cX M v=F v
 eq:M=cK (cX M 1)
theorem Md.nil:Md [[]] 0 (λv=>v):=by
 refine⟨⟨by simp,λr c=>?_⟩,λr c=>?_,λr c=>?_,λv=>?_,BQ.2.2.symm⟩
 ·rw[fJ] at c;subst c;exact⟨λx d=>(by cases d),by simp,by simp⟩
 ·rw[fJ] at c;subst c;exact⟨⟨λx d=>(by cases d),by simp,by simp⟩,λp ⟨a,b,e,_⟩=>by simp at e⟩
 ·rw[fJ] at c;subst c;rfl
 ·show v^^^0=v;exact jH v
theorem Md.of{L:List (List Int)}(a:∀r∈L,af r 16 6/\r.sum=d)(i:∀v,cX L v=F v):Md (cK (aZ L)) d F:=by
 have K:bt (aQ L):=⟨zr L,λr h=>(a r (jj h)).1⟩
 have s:=BV K;have f:=s.op;have e:aZ L=cX (cK (aZ L)) 1:=by
  have:=s.op 1;rw[mm] at this;rw[this,ED];rfl
 have c:=s.ok;have g:=s.st;have b:=s.sum;rw[mm] at f c g b;exact⟨c,g,b d λr h=>(a r (jj h)).2,λv=>by rw[f,ED];exact i v,by rw[←e]⟩
theorem CP{M:List (List Int)}(h:r∈ai M C):∃a∈M,∃b∈C,r=a++b:=by
 obtain⟨a,c,h⟩:=ll.mp h;obtain⟨b,d,rfl⟩:=cP.mp h;exact⟨a,c,b,d,rfl⟩
theorem Md.pr{M:List (List Int)}{d:Int}(h:Md M d F){k:Nat}(j:k<=16)(n:d+k<=16):(∀r∈ai M (cS.getD k []),af r 16 6/\r.sum=d+k)/\∀r∈ai (cS.getD k []) M,af r 16 6/\r.sum=d+k:=by
 have c:=SH j;refine⟨λr g=>?_,λr g=>?_⟩
 ·obtain⟨a,e,b,i,rfl⟩:=CP g;have f:=c.row b i;have m:=h.sum a e;have l:=f.2.2;exact⟨vW (h.ok.row a e) f.1 (h.st a e).2 f.2.1 (by lia),by rw[gQ];lia⟩
 ·obtain⟨b,i,a,e,rfl⟩:=CP g;have f:=c.row b i;have m:=h.sum a e;have l:=f.2.2;exact⟨vW f.1 (h.ok.row a e) f.2.1 (h.st a e).2 (by lia),by rw[gQ];lia⟩
theorem Md.behind{M:List (List Int)}{d:Int}(h:Md M d F){k:Nat}(b:k<=16)(a:d+k<=16):Md (cK (aZ (aQ (ai M (cS.getD k []))))) (d+k) λv=>F (cX (cS.getD k []) v):=by
 rw[mm];exact Md.of (h.pr b a).1 λv=>by rw[uJ,h.op]
theorem Md.ahead{M:List (List Int)}{d:Int}(h:Md M d F){k:Nat}(b:k<=16)(a:d+k<=16):Md (cK (aZ (ai (cS.getD k []) M))) (d+k) λv=>cX (cS.getD k []) (F v):=
 Md.of (h.pr b a).2 λv=>by rw[uJ,h.op]
def gH(b:List Int) (v:Nat):Nat:=b.foldl (λx a=>cX (cS.getD a.toNat []) x) v
def tn(a:List Int):List (List Int):=cK (gH a 1)
theorem IM{m:Nat}{a:Int}(h:m<=16)(b:0<=a)(c:a<=m):cL (.lst ((cS.take (m+1)).map aK)) (.int a) s=.ok (aK (cS.getD a.toNat [])) s:=by
 obtain⟨k,rfl⟩:=qH b;refine lR rfl (EY ?_);rw[fq,OM (by lia),vI (by lia)];rfl
theorem yH(a:f σ au=.ok (.tup xs) au)(q:Q xs.reverse au):WP (lH f σ au) Q:=by
 unfold lH;rw[a];exact q
theorem U8{m:Nat}(w:m<=16){row:List Int}(b:af row m 6)(k:∀g,Q (aK (tn row)) (au++g)):WP (C5 [aL row,.lst ((cS.take (m+1)).map aK)] au) Q:=by
 refine fQ rfl ?_;simp only[W,V];refine⟨am _ (by simp),am _ (by simp),yH (xs:=row.map D.int) rfl ?_⟩;refine fR (λi l s=>∃q M g,l=[some (aL row),some (.lst ((cS.take (m+1)).map aK)),some (aK M),q]/\s=au++g/\Md M (row.drop (row.length-i)).sum (gH (row.drop (row.length-i)))) ⟨_,[[]],[],rfl,by simp,?_⟩ ?_ ?_
 ·rw[Nat.sub_zero,Oe];exact Md.nil
 ·rintro i y l s n ⟨q,M,g,rfl,rfl,h⟩;have x:i<row.length:=by have:=(cn.mp n).1;simpa using this
  have C:row.length-i=row.length-(i+1)+1:=by lia
  have d:row.length-(i+1)<row.length:=by lia
  have z:y=.int row[row.length-(i+1)]:=by
   rw[List.getElem?_reverse (by simpa using x),az,fq,show row.length-1-i=row.length-(i+1) by lia,dr d] at n
   simpa using n.symm
  subst z;have v:row.drop (row.length-(i+1))=row[row.length-(i+1)]::row.drop (row.length-i):=by
   rw[jY d,C]
  have o:=BS b _ (l0 d);have j:(row.drop (row.length-(i+1))).sum<=m:=by
   have H:row.sum=(row.take (row.length-(i+1))).sum+(row.drop (row.length-(i+1))).sum:=by rw[←gQ,kx]
   have:0<=(row.take (row.length-(i+1))).sum:=zm λp o=>b.pos p (l5 o)
   have:=b.sum;lia
  refine⟨_,rfl,?_⟩;unfold Se;rw[v];rw[v,kl] at j;generalize row[row.length-(i+1)]=a at o j;generalize row.drop (row.length-i)=R at h j;simp only[W,V];refine WP.of (IM w (by lia) (by lia)) ?_;obtain⟨a,rfl⟩:=qH (show 0<=a by lia);rw[nW];have c:=SH (k:=a) (by lia);have t:=(h.pr (k:=a) (by lia) (by lia)).1;have f:=h.ok.few;have I:M.length*(cS.getD a []).length<=15000*20:=N4 f c.len;obtain⟨G,e⟩:=Fi (au:=au++g) (one:=M) (other:=cS.getD a []) (λr b=>⟨(t r b).1.len,(t r b).1.sum⟩) (by lia) (by have:=zx (ai M (cS.getD a []));rw[wA] at this;lia);refine WP.of e ?_;have K:bt (aQ (ai M (cS.getD a []))):=⟨zr _,λr b=>(t r (jj b)).1⟩
  refine CY K λE=>?_
  simp only[L];refine⟨_,_,g++(G++E),rfl,by simp,?_⟩;have A:=h.behind (k:=a) (by lia) (by lia);rw[kl,Int.add_comm];exact A
 ·rintro l s ⟨q,M,g,rfl,rfl,h⟩;rw[vk,az,sE,N6] at h;simp only[W,V];have e:M=tn row:=by
   have u:=h.eq;rw[h.op 1] at u;exact u
  rw[e];exact k g
theorem qf(v:Nat):(cK v).length<=84:=by
 unfold cK;rw[wz,az];have:=vr (λi=>v.testBit i) (List.range 84)
 rwa [qy] at this
theorem xU(a:List (List Int))(x:List Int):(aQ a).count x%2=a.count x%2:=by
 have e:=zr a;have d:x∈aQ a↔a.count x%2=1:=by unfold aQ;rw[(ze _).mem_iff,rm]
 by_cases c:x∈aQ a
 ·have b:(aQ a).count x<=1:=List.nodup_iff_count.mp e x;have f:0<(aQ a).count x:=y6.mpr c;have:=d.mp c;lia
 ·have b:(aQ a).count x=0:=vg.mpr c;rcases OP (a.count x) with z|z
  ·rw[b,z]
  ·exact absurd (d.mpr z) c
theorem Qs{a b:List (List Int)}(h:∀x,a.count x%2=b.count x%2):aQ a=aQ b:=vS (qi a) λx=>by rw[rm,h x]
theorem Kr(a b:List (List Int)):aQ (aQ a++b)=aQ (a++b):=Qs λx=>by
 rw[qx,qx];have:=xU a x;lia
theorem NG(a:List (List Int)):(a.flatMap tn).length<=84*a.length:=by
 induction a with
 |nil=>simp
 |cons r a ih=>
  have:=qf (gH r 1);rw[sO,cx,dN];show(cK (gH r 1)).length+_<=_;lia
theorem Le(h:∀x∈ns,0<=x/\x<=16):0<=iY 0 ns/\iY 0 ns<=16/\∀x∈ns,x<=iY 0 ns:=by
 cases ns with
 |nil=>exact⟨by decide,by decide,λx b=>(by cases b)⟩
 |cons n ns=>
  obtain⟨a,c⟩:=Ck ns n;have e:iY 0 (n::ns)=ce true n ns:=rfl;rw[e];exact⟨(h _ a).1,(h _ a).2,c⟩
theorem AS{a:List Int}:iK 0 [.lst (a.map .int)] au=.ok (.int (iY 0 a)) au:=by
 unfold iK;dsimp only;rw[show(cD au (.lst (a.map .int))).bind bC=some a from rA a]
theorem Tp(c:∀r∈a,af r 16 6)(A:a.length<=100)(k:∀g,Q (aK (aQ (a.flatMap tn))) (au++g)):WP (hZ [aK a] au) Q:=by
 refine fQ rfl ?_;simp only[W,V];refine⟨_,rfl,by rw[zd];exact am _ (by lia),?_⟩;refine re (as:=a) (λb=>∃v,b=[v]) (λ_=>true) (λr=>D.int r.sum) aL ⟨_,rfl⟩ ?_ ?_
 ·rintro r d b ⟨v,rfl⟩;refine⟨_,rfl,⟨_,rfl⟩,by simp only[W,uU],λ_=>?_⟩;simp only[W,V,M];exact⟨r,rA r,by first|rfl|trivial,by first|rfl|trivial⟩
 ·rw[uP,show(a.map λr=>D.int r.sum)=(a.map List.sum).map D.int by rw[gi];rfl];refine WP.of AS ?_;have n:=Le (ns:=a.map List.sum) λx d=>by
   obtain⟨r,h,rfl⟩:=cP.mp d;exact⟨zm (c r h).pos,(c r h).sum⟩
  have top:∀r∈a,r.sum<=iY 0 (a.map List.sum):=λr h=>n.2.2 _ (cP.mpr ⟨r,h,rfl⟩)
  obtain⟨p,q,_⟩:=n;generalize iY 0 (a.map List.sum)=T at p q top;have j:T=(T.toNat:Int):=by lia
  generalize T.toNat=m at j;refine GC j (by lia) λo=>⟨am _ (by simp),?_⟩
  refine⟨_,rfl,?_⟩;refine fR (λi b s=>∃l g,b=[some (aK a),some (.lst ((cS.take (m+1)).map aK)),some (aK (aQ ((a.take i).flatMap tn))),l]/\s=au++g) ⟨_,o,rfl,rfl⟩ ?_ ?_
  ·rintro i x b s d ⟨l,g,rfl,rfl⟩;obtain⟨r,f,rfl⟩:=zu d;have z:=(cn.mp f).1;have e:=db f;refine⟨_,rfl,?_⟩;unfold RH;simp only[W,V];refine U8 (m:=m) (by lia) ⟨(c r e).pos,by rw[←j];exact top r e,(c r e).len⟩ λu=>?_
   have w:=NG (a.take i);have C:=C1 ((a.take i).flatMap tn);have y:=qf (gH r 1);rw[fj] at w;refine EW (by show _+(cK (gH r 1)).length<=_;lia) λt=>?_
   simp only[L];refine⟨some (aL r),g++(u++t),?_,by simp⟩;rw[Kr,zg f,pC,zH]
  ·rintro b s ⟨l,g,rfl,rfl⟩;rw[zd,eQ];simp only[W,V];exact k g
end Dd
namespace K47
end K47
namespace Dd
open L2 K13
end Dd
namespace K08
end K08
namespace Dd
open L2 K13
theorem TY{a b:List (List Int)}(h:∀x,a.count x%2=b.count x%2):aQ a=aQ b:=vS (qi a) λx=>by rw[rm,h x]
theorem TL(a:List (List Int))(x:List Int):(aQ a).count x%2=a.count x%2:=by
 have e:=zr a;have b:x∈aQ a↔a.count x%2=1:=by unfold aQ;rw[(ze _).mem_iff,rm]
 by_cases c:x∈aQ a
 ·have d:(aQ a).count x<=1:=List.nodup_iff_count.mp e x;have f:0<(aQ a).count x:=y6.mpr c;have:=b.mp c;lia
 ·have d:(aQ a).count x=0:=vg.mpr c;have:¬ a.count x%2=1:=λz=>c (b.mpr z)
  lia
noncomputable abbrev Row:=List Int
noncomputable def ky{a:Type}(l:List a) (c:a->Nat):Nat:=(l.map c).sum
theorem Fe{b:Type}(a:b)(l:List b)(c:b->Nat):ky (a::l) c=c a+ky l c:=by simp[ky]
theorem Ue{d:Type}(a b:List d)(c:d->Nat):ky (a++b) c=ky a c+ky b c:=by simp[ky]
theorem Ng{d:Type}{a b:List d}(h:a.Perm b)(c:d->Nat):ky a c=ky b c:=(h.map c).sum_nat
theorem QF(c:Row->Nat):∀(n:Nat) (l:List Row),l.length<=n->(∀x,l.count x%2=0)->ky l c%2=0
 |_,[],_,_=>rfl
 |0,_::_,h,_=>by simp at h
 |n+1,y::l,hn,h=>by
  have d:=h y;rw[List.count_cons_self] at d;have b:y∈l:=y6.mp (by lia);have p:=List.perm_cons_erase b;have e:=QF c n (l.erase y) (by rw[List.length_erase_of_mem b];simp at hn;lia) λx=>by
   have a:=h x;rw[yS,p.count_eq,yS] at a;split at a<;>lia
  rw[Fe,Ng p,Fe];lia
theorem Lf{a b:List Row}(c:Row->Nat)(h:∀x,a.count x%2=b.count x%2):ky a c%2=ky b c%2:=by
 have:=QF c _ (a++b) (bj _) λx=>by rw[qx];have:=h x;lia
 rw[Ue] at this;lia
noncomputable def xr{a:Type}(l:List a) (f:a->Nat):Nat:=l.foldr (λx b=>f x^^^b) 0
section
variable {α β:Type}
theorem gA(x:α):xr (x::l) f=f x^^^xr l f:=rfl
theorem wo:∀(l m:List α),xr (l++m) f=xr l f^^^xr m f
 |[],m=>(lY _).symm
 |x::l,m=>by rw[nV,gA,gA,wo l m,gj]
theorem ux(h:β->α):∀l:List β,xr (l.map h) f=xr l λx=>f (h x)
 |[]=>rfl
 |x::l=>by rw[cf,gA,gA,ux h l]
theorem ri(h:β->List α):∀l:List β,xr (l.flatMap h) f=xr l λx=>xr (h x) f
 |[]=>rfl
 |x::l=>by rw[sO,wo,gA,ri h l]
theorem iw:∀{l:List α},(∀x∈l,f x=g x)->xr l f=xr l g
 |[],_=>rfl
 |x::l,h=>by rw[gA,gA,h x (dS ..),iw λy a=>h y (cr _ a)]
theorem ES:∀l:List α,xr l (λ_=>0)=0
 |[]=>rfl
 |x::l=>by rw[gA,ES l];rfl
theorem yK(a b c d:Nat):(a^^^b)^^^(c^^^d)=(a^^^c)^^^(b^^^d):=by
 rw[gj,gj,←gj b,←gj c,qq b c]
theorem sC:∀l:List α,xr l (λx=>f x^^^g x)=xr l f^^^xr l g
 |[]=>by show 0=0^^^0;rw[qp]
 |x::l=>by rw[gA,gA,gA,sC l,yK]
theorem Fz(p:α->Bool):∀l:List α,xr (l.filter p) f=xr l λx=>if p x=true then f x else 0
 |[]=>rfl
 |x::l=>by
  rw[gA,←Fz p l];by_cases c:p x=true
  ·rw[l8 c,gA,if_pos c]
  ·rw[l9 c,if_neg c,lY]
theorem Jg(f:Nat->Nat)(N:Nat):xr (List.range (N+1)) f=xr (List.range N) f^^^f N:=by
 rw[va,wo];show _^^^(f N^^^0)=_;rw[jH]
end
theorem wV{a b:List Row}(h:∀x,a.count x%2=b.count x%2):xr a f=xr b f:=by
 have c:∀(l:List Row) (i:Nat),(xr l f).testBit i=decide (ky l (λx=>if(f x).testBit i=true then 1 else 0)%2=1):=λl i=>by
  induction l with
  |nil=>simp[xr,ky]
  |cons x l ih=>
   rw[gA,uZ,ih,Fe];cases(f x).testBit i
   ·simp
   ·simp only[h8];rw[mJ];simp;lia
 refine Nat.eq_of_testBit_eq λi=>?_
 rw[c,c,Lf _ h]
theorem GL(l:List Row):xr (aQ l) f=xr l f:=wV (TL l)
theorem sB(x:Row):∀l:List Row,xr l (λy=>if y=x then 1 else 0)=l.count x%2
 |[]=>rfl
 |a::l=>by
  rw[gA,sB x l,yS];have:=OP (l.count x);by_cases c:a=x
  ·rw[if_pos c,if_pos (by simpa using c)];rcases this with e|e<;>rw[e]
   ·show 1=_;lia
   ·show 0=_;lia
  ·rw[if_neg c,if_neg (by simpa using c),lY];lia
theorem N2(h:∀f:Row->Nat,xr a f=xr b f):aQ a=aQ b:=TY λx=>by rw[←sB x a,←sB x b,h]
namespace Tab
def oq:List RN:=(List.range 2).flatMap λd=>(List.range 3).flatMap λc=>(List.range 6).flatMap λb=>(List.range 17).flatMap λa=>bif Nat.ble (a+3*b+7*c+15*d) 16 then[nz [a,b,c,d]] else[]
def SI(s:RN):Nat:=gt s 0+17*gt s 1+102*gt s 2+306*gt s 3
def BC:List RN->Nat->Nat->Nat
 |[],_,i=>i
 |c::cs,x,i=>bif Nat.beq (SI c) x then i else BC cs x (i+1)
def ji(s:RN):Nat:=BC oq (SI s) 0
def eP(j:Nat):RN:=oq.getD j []
noncomputable def V7:List Nat:=[1,2,3,5,7,9,12,16,20,25,31,37,44,52,61,72,84,405,6,809,11,1516,19,2425,30,3637,43,5152,60,7172,83,101112,1416,1819,23,293031,3537,4243,50,596061,7072,8283,22232425,2830,3435,41,49505152,5860,6970,81,3941424344,475052,565861,6772,79818283,656769707172,778183,13141516,1719,21222425,272830,33343637,404143,48495152,575860,68697172,808183,262728,32,384041,46,555758,66,788081,45464748505152,545760,6465666970,767781,757677788081,5354555657596061,6366677072,7475777880818283,626364666768707172,73768083]
noncomputable def Tk:List Nat:=[1,2,3,418,4,19,5,620,6,72132,21,7,8223358,833,822,8,2359,2334,23,9,354360,243543,35,1024,10,256168,4461,2544,112536,25,11,69,1226374562,123745,1237,1226,12,276370,13384651,274663,46,2738,27,13,1428394752647175,71,143952,394764,283947,39,1428,14,152940485365727680,29486576,296572,15294853,4865,2948,152940,29,15,1630414954566673778183,1641547381,163054567377,1630495456,73,1654,1630414966,164149,1641,1630,16,315057677884,314257787982,50747879,315778,315057,316774,425055,315067,50,3142,31,17]
noncomputable def ldC:List Nat:=[0,1,2,4,6,8,11,15,19,24,30,36,43,51,60,71,83,3,5,7,10,14,18,23,29,35,42,50,59,70,82,9,13,17,22,28,34,41,49,58,69,81,21,27,33,40,48,57,68,80,38,46,55,66,78,64,76,12,16,20,26,32,39,47,56,67,79,25,31,37,45,54,65,77,44,53,63,75,74,52,62,73,61,72]
def j5:List Nat:=V7.map (kE 9)
def jP:List Nat:=Tk.map (kE 11)
def mn(s:RN):Nat:=j5.getD (ji s) 0
def bW(i:Nat):List Int:=cR.getD i []
def dj(g:Nat->Nat) (v:Nat):Nat:=xr (List.range 84) λi=>if v.testBit i=true then g i else 0
def cE(n v:Nat):Nat:=dj (λi=>cY (bW i) v) n
def eG(s:RN):RN:=s.foldr (λx a=>(x+2*gt a 0)::a) []
def ol(w:Nat) (x:RN):Bool:=Nat.blt (ji x) 84&&decide (eP (ji x)=x)&&Nat.beq (dc 1 x) w
def AZ(a j:Nat):Bool:=bif Nat.ble (a+dc 1 (eP j)) 16 then((aN [a] (eP j)).all (ol (a+dc 1 (eP j)))&&Nat.beq (xr (aN [a] (eP j)) mn) (fw a (j5.getD j 0))) else true
def AG(a j:Nat):Bool:=bif Nat.ble (a+dc 1 (eP j)) 16 then((aN (eP j) [a]).all (ol (a+dc 1 (eP j)))&&Nat.beq (xr (aN (eP j) [a]) mn) (cE (j5.getD j 0) (fw a 1))) else true
def Bt(j:Nat):Bool:=fB.contains (eP j)&&Nat.beq (ji (eP j)) j&&Nat.beq (eW jP (j5.getD j 0)) (2^j)&&(List.range 84).all (λi=>!(j5.getD j 0).testBit i||decide ((bW i).sum=(dc 1 (eP j):Nat)))&&Nat.blt (j5.getD j 0) (2^84)&&Nat.beq (eW j5 (jP.getD j 0)) (2^j)&&decide (aM (eG (eP j))=bW (ldC.getD j 0))&&Nat.beq (jP.getD (ldC.getD j 0) 0/2^j) 1&&Nat.blt (ldC.getD j 0) 84&&Nat.ble (dc 1 (eP j)) 16&&Nat.beq (jP.getD j 0/2^84) 0&&(List.range 84).all (λi=>!(jP.getD j 0).testBit i||decide ((bW j).sum=(dc 1 (eP i):Nat)))
theorem Mf:(List.range 84).all Bt=true:=by decide +kernel
theorem G2:fB.all (λs=>ol (dc 1 s) s)=true:=by decide +kernel
theorem Mj:((List.range 16).all λa=>(List.range 84).all λj=>AZ (a+1) j)=true:=by decide +kernel
theorem MX:((List.range 16).all λa=>(List.range 84).all λj=>AG (a+1) j)=true:=by decide +kernel
theorem J1:((List.range 17).all λd=>Nat.ble ((oq.filter λs=>Nat.beq (dc 1 s) d).length) 40)=true/\j5.length=84/\jP.length=84:=by decide +kernel
structure SL (j:Nat):Prop where
 mem:eP j∈fB
 ix:ji (eP j)=j
 zz:eW jP (j5.getD j 0)=2^j
 sum:∀i,i<84->(j5.getD j 0).testBit i=true->(bW i).sum=(dc 1 (eP j):Nat)
 lt:j5.getD j 0<2^84
 mz:eW j5 (jP.getD j 0)=2^j
 led:aM (eG (eP j))=bW (ldC.getD j 0)
 top:jP.getD (ldC.getD j 0) 0/2^j=1
 ld:ldC.getD j 0<84
 wt:dc 1 (eP j)<=16
 zlt:jP.getD j 0<2^84
 zsum:∀i,i<84->(jP.getD j 0).testBit i=true->(bW j).sum=(dc 1 (eP i):Nat)
theorem nq(h:j<84):SL j:=by
 have q:=di.mp Mf j (bT.mpr h);unfold Bt at q;simp only[gE] at q;obtain⟨⟨⟨⟨⟨⟨⟨⟨⟨⟨⟨a,b⟩,c⟩,d⟩,e⟩,f⟩,g⟩,k⟩,l⟩,m⟩,n⟩,o⟩:=q;have p:∀(x:Nat) (w:Nat->Bool),(List.range 84).all (λi=>!x.testBit i||w i)=true->∀i,i<84->x.testBit i=true->w i=true:=λx w s i r u=>by
  have z:=di.mp s i (bT.mpr r);rw[u] at z
  simpa using z
 refine⟨by simpa using a,gV b,gV c,λi r u=>gU (p _ _ d i r u),?_,gV f,gU g,gV k,?_,ik m,?_,λi r u=>gU (p _ _ o i r u)⟩
 ·exact ik e
 ·exact ik l
 ·have:=gV n;rcases Nat.div_eq_zero_iff.mp this with z|z
  ·exact absurd z (by decide)
  ·exact z
theorem wI(h:ol w x=true):ji x<84/\eP (ji x)=x/\dc 1 x=w:=by
 unfold ol at h;simp only[gE] at h;exact⟨ik h.1.1,gU h.1.2,gV h.2⟩
theorem gW(h:s∈fB):ji s<84/\eP (ji s)=s:=let ⟨a,b,_⟩:=wI (di.mp G2 s h);⟨a,b⟩
theorem Pa(h:s∈fB):dc 1 s<=16:=by
 obtain⟨a,b⟩:=gW h;have:=(nq a).wt
 rwa [b] at this
theorem wb(v w:Nat):dj g (v^^^w)=dj g v^^^dj g w:=by
 unfold dj;rw[←sC];refine iw λi _=>?_
 rw[uZ];cases v.testBit i<;>cases w.testBit i<;>simp
theorem wm:dj g 0=0:=by
 unfold dj;rw[iw (g:=λ_=>0) λi _=>by simp];exact ES _
theorem vU{a:Type}(f:a->Nat):∀L:List a,dj g (xr L f)=xr L λx=>dj g (f x)
 |[]=>wm
 |x::L=>by rw[gA,wb,vU f L];rfl
theorem Ua{v:Nat}(e:∀i,i<84->v.testBit i=true->g i=h i):dj g v=dj h v:=by
 unfold dj;refine iw λi a=>?_
 split
 ·rename_i t;exact e i (bT.mp a) t
 ·rfl
theorem CD(h:j<84):dj g (2^j)=g j:=by
 have b:∀(l:List Nat),l.Nodup->xr l (λi=>if(2^j).testBit i=true then g i else 0)=if j∈l then g j else 0:=λl=>by
  induction l with
  |nil=>intro _;rfl
  |cons a l ih=>
   intro d;rw[iB] at d;rw[gA,ih d.2,zi];by_cases c:j=a
   ·subst c;simp[d.1]
   ·have:j∈a::l↔j∈l:=by simp[c]
    simp[c]
 unfold dj;rw[b _ Dx,if_pos (bT.mpr h)]
theorem uD(n v:Nat):cX (cK n) v=cE n v:=by
 unfold cK;rw[v8 (ze _)];show xr (List.map _ _) (λr=>cY r v)=_;rw[ux,Fz]
 rfl
theorem yC(h:i<84):bW i∈cR:=by
 unfold bW;rw[dO,dr (by rw[nM];exact h)];exact l0 _
theorem Cd(a:i<84)(b:j<84)(e:bW i=bW j):i=j:=by
 unfold bW at e;rw[dO,dO,dr (by rw[nM];exact a),dr (by rw[nM];exact b)] at e;exact(DC Ez).mp e
theorem K8:(cR.all λr=>mU r&&decide (bv r=[]))=true:=by decide +kernel
theorem iu(h:i<84):af (bW i) 16 6/\iq (bW i):=by
 have:=di.mp K8 _ (yC h);rw[gE] at this;exact⟨EM this.1,uw (gU this.2)⟩
theorem Lb(b:Int):iq [b]:=uw rfl
theorem Ib{b:Nat}(d:1<=b)(c:b<=16):af [(b:Int)] 16 6:=⟨λp a=>by rw[fJ.mp a];lia,by simp;lia,by simp⟩
theorem MC{n:Nat}{d:Int}{b:Nat}(l:∀i,i<84->n.testBit i=true->(bW i).sum=d)(m:1<=b)(s:b<=16)(o:d+b<=16)(v:Nat):cE (cE n (fw b 1)) v=cE n (fw b v):=by
 have K:bt (((List.range 84).filter λi=>n.testBit i).map λi=>bW i++[(b:Int)]):=by
  refine⟨?_,λr h=>?_⟩
  ·refine DF _ (R:=λi j=>i≠j/\i<84/\j<84) (λi j z e=>z.1 (Cd z.2.1 z.2.2 (List.append_cancel_right e))) ?_;refine D6 (λ{a b} k p z=>⟨z,bT.mp (fH.mp k).1,bT.mp (fH.mp p).1⟩) (Dx.filter _)
  ·obtain⟨i,c,rfl⟩:=cP.mp h;obtain⟨c,q⟩:=fH.mp c;have c:=bT.mp c;exact vW (iu c).1 (Ib m s) (iu c).2 (Lb _) (by rw[l i c q];simpa using o)
 have g:∀w,cX (((List.range 84).filter λi=>n.testBit i).map λi=>bW i++[(b:Int)]) w=cE n (fw b w):=λw=>by
  show xr (List.map _ _) (λr=>cY r w)=_;rw[ux,Fz];unfold cE dj;refine iw λi _=>?_
  split
  ·rw[mr];rfl
  ·rfl
 have f:=(BV K).op v;rw[uD,uq,g,g] at f;exact f
def CL(l:List cq) (d:Nat):Prop:=∀r∈l,∃s∈fB,r=aM s/\dc 1 s=d
def nC(l:List cq):Nat:=xr l λr=>mn (jZ r)
theorem oz(l:List cq):nC (aQ l)=nC l:=GL _
theorem CL.odd(h:CL l d):CL (aQ l) d:=λr a=>h r (jj a)
theorem sj(h:s∈fB):mn s=j5.getD (ji s) 0/\SL (ji s)/\eP (ji s)=s:=⟨rfl,nq (gW h).1,(gW h).2⟩
theorem HU(h:s∈fB):∀i,i<84->(mn s).testBit i=true->(bW i).sum=(dc 1 s:Nat):=λi d e=>by
 obtain⟨a,b,c⟩:=sj h;have:=b.sum i d e
 rwa [c] at this
theorem Ex(l:List RN):nC (l.map aM)=xr l mn:=by
 unfold nC;rw[ux];exact iw λs _=>by rw[h7]
theorem sf(h:ol w x=true):x∈fB/\dc 1 x=w:=by
 obtain⟨a,b,c⟩:=wI h;exact⟨b ▸ (nq a).mem,c⟩
theorem oW(g:1<=b) (f:s∈fB)(h:b+dc 1 s<=16):
  ((aN [b] s).all (ol (b+dc 1 s))=true/\xr (aN [b] s) mn=fw b (mn s))/\((aN s [b]).all (ol (b+dc 1 s))=true/\xr (aN s [b]) mn=cE (mn s) (fw b 1)):=by
 obtain⟨d,e⟩:=gW f;have a:=di.mp (di.mp Mj (b-1) (bT.mpr (by lia))) _ (bT.mpr d);have c:=di.mp (di.mp MX (b-1) (bT.mpr (by lia))) _ (bT.mpr d);unfold AZ at a;unfold AG at c;rw[e,show b-1+1=b by lia,mO h,cond_true,gE] at a c;exact⟨⟨a.1,gV a.2⟩,⟨c.1,gV c.2⟩⟩
def i4(l:List cq) (b:Nat):List cq:=l.flatMap λr=>[[(b:Int)]].flatMap (mk r)
def m9(a:Nat) (l:List cq):List cq:=[[(a:Int)]].flatMap λr=>l.flatMap (mk r)
theorem yF(b:Nat):jZ [(b:Int)]=[b]:=h7 [b]
theorem Gn{d b:Nat}(g:CL l d)(i:1<=b)(h:b+d<=16):CL (i4 l b) (b+d)/\∀v,cE (nC (i4 l b)) v=cE (nC l) (fw b v):=by
 have e:∀r,[[(b:Int)]].flatMap (mk r)=(aN (jZ r) [b]).map aM:=λr=>by
  show mk r [(b:Int)]++[]=_;rw[kn];unfold mk;rw[yF]
 refine⟨λx f=>?_,λv=>?_⟩
 ·obtain⟨r,a,f⟩:=ll.mp f;rw[e] at f;obtain⟨y,j,rfl⟩:=cP.mp f;obtain⟨s,c,rfl,rfl⟩:=g r a;rw[h7] at j;obtain⟨m,n⟩:=sf (di.mp (oW i c h).2.1 y j);exact⟨y,m,rfl,n⟩
 ·unfold i4;have k:nC (l.flatMap λr=>[[(b:Int)]].flatMap (mk r))=xr l λr=>cE (mn (jZ r)) (fw b 1):=by
   unfold nC;rw[ri];refine iw λr a=>?_
   obtain⟨s,c,rfl,rfl⟩:=g r a;rw[e,h7];exact(Ex _).trans (oW i c h).2.2
  rw[k];unfold cE;rw[vU];show _=dj _ (xr l _);rw[vU];refine iw λr a=>?_
  obtain⟨s,c,rfl,rfl⟩:=g r a;rw[h7];exact MC (HU c) i (by lia) (by lia) v
theorem Gm(i:CL l d)(k:1<=a)(h:a+d<=16):CL (m9 a l) (a+d)/\nC (m9 a l)=fw a (nC l):=by
 have e:m9 a l=l.flatMap λs=>(aN [a] (jZ s)).map aM:=by
  show(l.flatMap (mk [(a:Int)]))++[]=_;rw[kn];unfold mk;rw[yF]
 rw[e];refine⟨λx f=>?_,?_⟩
 ·obtain⟨r,b,f⟩:=ll.mp f;obtain⟨y,j,rfl⟩:=cP.mp f;obtain⟨s,c,rfl,rfl⟩:=i r b;rw[h7] at j;obtain⟨m,n⟩:=sf (di.mp (oW k c h).1.1 y j);exact⟨y,m,rfl,n⟩
 ·have g:∀L:List cq,fw a (xr L λr=>mn (jZ r))=xr L λr=>fw a (mn (jZ r)):=λL=>by
   induction L with
   |nil=>exact vZ a
   |cons x L ih=>rw[gA,vP,ih];rfl
  unfold nC;rw[ri,g];refine iw λr b=>?_
  obtain⟨s,c,rfl,rfl⟩:=i r b;rw[h7];exact(Ex _).trans (oW k c h).1.2
theorem yo{b:Type}(a:List Nat)(f:b->Nat):∀L:List b,eW a (xr L f)=xr L λx=>eW a (f x)
 |[]=>uH _
 |x::L=>by rw[gA,vR,yo a f L];rfl
def CA(l:List cq):Prop:=∀r∈l,∃s∈fB,r=aM s
theorem CL.ca(h:CL l d):CA l:=λr c=>let ⟨s,a,b,_⟩:=h r c;⟨s,a,b⟩
theorem wJ(h:CA l):eW jP (nC l)=xr l λr=>2^ji (jZ r):=by
 unfold nC;rw[yo];refine iw λr d=>?_
 obtain⟨s,e,rfl⟩:=h r d;obtain⟨a,b,c⟩:=sj e;rw[h7,a,b.zz]
theorem Kl(n:CA l)(h:CA m)(e:nC l=nC m):aQ l=aQ m:=by
 refine N2 λf=>?_
 have c:∀{k:List cq},CA k->xr k f=dj (λj=>f (aM (eP j))) (eW jP (nC k)):=λ{k} d=>by
  rw[wJ d,vU];refine iw λr g=>?_
  obtain⟨s,i,rfl⟩:=d r g;obtain⟨a,b⟩:=gW i;rw[h7,CD a,b]
 rw[c n,c h,e]
end Tab
end Dd
namespace Dd
open L2
end Dd
namespace L2
open Spec PyProof.Rows PySem.W
end L2
namespace Dd
open L2
end Dd
namespace L2
open Spec PyProof.Rows
end L2
namespace Dd
open L2 PyProof.Rows
end Dd
namespace Dd
open L2
end Dd
namespace HT
open Spec PyProof.Rows
section
open SeqAt
open PySem.AutoSeq1 (wpAny_loadPart')
open MeetsSeq MeetsSeq2 MeetsSeq3
theorem HA(h:Q (.bool (decide (j<i))) s):wpAny (model prog w) A (richCompare .Gt (.int i t) (.int j u)) Q E s:=
 (PyProof.Rows.gt_int h:wpAny (model prog w) A (compareOp .Gt _ _) Q E s)
theorem L8(l b:Addr)(I C:Array Value)(n m:Nat)(dd de:Option Addr)(sl sm:Array (Option Value))(ns T:List Int)(hi:IntsAre I.toList ns)(hj:IntsAre C.toList T):
  Meets (Builtin.«tuple.__gt__» ⟨[.ref l,.ref b],[]⟩)
   (λ_ R s=>s.heap.get? l=some { cls:=.type "tuple",dict:=dd,data:=.seq I n,slots:=sl }/\s.heap.get? b=some { cls:=.type "tuple",dict:=de,data:=.seq C m,slots:=sm }/\R (.ok (.ret (.bool (lexLt T ns)))) s):=
 .of_wp λo w A R s h=>by
  obtain⟨Y,g,d,X,os⟩:=s;obtain⟨hl,hb,h⟩:=h
  have f2:=AutoSeq1.sub_tuple_tuple;have z1:I.size=ns.length:=by have:=hi.length;simpa using this
  have z2:C.size=T.length:=by have:=hj.length;simpa using this
  wp_walk using D0 hl,D0 hb,wpAny_forIn_list _ (λk b s'=>b.1=none/\s'=⟨Y,g,d,X,os⟩/\∃(vs U:List Value) (G J:List Int),k=vs.zip U/\IntsAre vs G/\IntsAre U J/\G.length+C.size=J.length+I.size/\R (.ok (.ret (.bool (lexLt J G)))) ⟨Y,g,d,X,os⟩) _
  case turn=>
   rintro⟨y,x⟩ k b s' ⟨P,rfl,vs,U,G,J,S,hv,H,f,r⟩;cases hv with
   |nil=>simp at S
   |cons a t hv'=>
    cases H with
    |nil=>simp at S
    |cons c u hw'=>
     obtain⟨⟨rfl,rfl⟩,v⟩:(y=.int a t/\x=.int c u)/\k=_:=by simpa using S
     have z:=f;rw[rB] at r;rw[dN,dN] at z;obtain⟨e,he,p⟩:=Qk A.in1 ⟨Y,g,d,X,os⟩ a t c u;refine ab (he o w _ _ ?_);cases e with
     |true=>
      rw[if_pos (p.mp rfl).symm] at r
      wp_walk
      exact⟨rfl,rfl,_,_,_,_,v,hv',hw',by lia,r⟩
     |false=>
      rw[if_neg (λq=>absurd (p.mpr q.symm) nX)] at r;have a0:=λE Q h=>HA (prog:=o) (w:=w) (A:=A.in1) (s:=⟨Y,g,d,X,os⟩) (i:=a) (t:=t) (j:=c) (u:=u) (E:=E) (Q:=Q) h
      wp_walk using a0
      exact⟨_,rfl,by simpa using r⟩
  case fin=>
   rintro⟨b1,b2⟩ s' ⟨P,rfl,vs,U,G,J,S,hv,H,f,r⟩;obtain rfl:b1=none:=P;have hs:lexLt J G=decide (C.size<I.size):=by
    rw[mJ,qw];cases hv with
    |nil=>
     cases H with
     |nil=>rw[Db];simp only[pj] at f;constructor<;>intro q<;>first|cases q|lia
     |cons c u H=>rw[Di];simp only[pj,dN] at f;constructor<;>intro q<;>first|cases q|lia
    |cons a t hv=>
     cases H with
     |nil=>rw[wC];simp only[pj,dN] at f;constructor<;>intro q<;>first|rfl|lia
     |cons c u H=>simp at S
   rw[hs] at r
   wp_walk
   exact⟨_,rfl,by simpa [Builtin.Tuple.tupleCompareSizes] using r⟩
  case h=>
   exact⟨rfl,rfl,I.toList,C.toList,ns,T,rfl,hi,hj,by lia,h⟩
end
theorem J5{A:Around}{s:Shared}(f:IsTup s.heap l xs)(e:IsTup s.heap b ys)(i:IntsAre xs.toList ns)(g:IntsAre ys.toList ms)
  (d:A.units<cLine)(h:Q (.bool (lexLt ms ns)) s):wpAny (model prog w) A (richCompare .Gt (.ref l) (.ref b)) Q E s:=by
 obtain⟨⟨_,_,_,_⟩,a,k,_,j⟩:=id f;obtain⟨⟨_,_,_,_⟩,c,n,_,m⟩:=id e;cases k;cases j;cases n;cases m
 exact richCompare_meets_room (op:=.Gt) ⟨_,a,rfl⟩ ⟨_,c,rfl⟩ F.slot_tuple_gt F.entry_tuple_gt (F.args_tuple_gt_2 _ _) (L8 l b _ _ _ _ _ _ _ _ ns ms i g) ⟨a,c,(⟨λx=>(nomatch x),h⟩:Value.bool (lexLt ms ns)≠Value.notImplemented/\Q (.bool (lexLt ms ns)) s)⟩ d
end HT
namespace Dd
open Spec PyProof.Rows L2
def kG(c:da):List (List Int)->aa->bJ (List (List Int))
 |[],au=>.ok [] au
 |k::ks,au=>(c [aL k] au).bind λv b=>match v with
  |.tup ds=>match bC ds with
   |some m=>(kG c ks b).bind λd a=>.ok (m::d) a
   |none=>.stuck
  |_=>.stuck
def pickK:List Int×List Int->List (List Int×List Int)->List Int×List Int
 |b,[]=>b
 |b,x::l=>pickK (if HT.lexLt b.2 x.2 then x else b) l
def kK(f:SE) (d:da):SE:=λh g=>(f h g).bind λx a=>match x with
 |.ref n=>match a[n]? with
  |some (.dT kvs)=>(kG d (kvs.map (·.1)) (a.set n (.fT kvs))).bind λe c=>match (kvs.map (·.1)).zip e with
   |b::l=>.ok (aL (pickK b l).1) c
   |[]=>.stuck
  |_=>.stuck
 |_=>.stuck
noncomputable def j6(a:Array Value) (c:Nat):Obj:={ cls:=.type "list",dict:=none,data:=.seq a c,slots:=#[] }
theorem qL{h':Heap}(I:Inv X ((S,o)::aW) τ H s)(f:ed X aW H S)(k:∀b u,b≠S->s.heap.get? b=some u->h'.get? b=some u)(d:h'.get? S=some o')(c:∀v,o'.data≠.cell v):Inv X ((S,o')::aW) τ H {s with heap:=h',toks:=t'}:=by
 have e:Inv X aW τ H s:=I.pins_of λp hp=>I.pin p (gG _ (cr _ hp))
 have a:Inv X aW τ H {s with heap:=h',toks:=t'}:=e.turned k f.1 f.2.1 f.2.2.2.1 f.2.2.2.2.1 f.2.2.2.2.2;refine a.pins_of λp hp=>?_
 rcases bU.mp hp with rfl|hp
 ·exact⟨d,f.1,f.2.1,f.2.2.1,c⟩
 ·exact a.pin p (gG _ hp)
section
variable {X:Cx}{k:Nat}{ps:List Str}{Fk:da}{fa:Addr}{fd:FuncData}
theorem J9(G:gf X.prog X.w X.K X.mg X.base jE k fa fd ps (vx X.K ps.length Fk))(U:Binds X.K fd ps [])(x:ps.length=1)(z:bR (k+1) X.A){o:List (Addr×Obj)}{t:L2.St}{H:Hp}{s:Shared}{d:Loc}{h b:aa}{f m:List Int}{p:Addr}{i:List D}{Q:Value->Shared->Prop}{E:Value->Shared->Prop}
  (I:Inv X o t H s)(j:bP X.K d h H)(n:H p=some (.tup (f.map V.int)))(e:Fk [aL f] h=.ok (.tup i) b)(y:bC i=some m)
  (q:∀(u:Addr) l H2 a,Inv X o t H2 l->bp d H a H2->bP X.K a b H2->H2 u=some (.tup (m.map V.int))->Q (.ref u) l):wpAny (model X.prog X.w) X.A.in1 (call (.ref fa) [.ref p]) Q E s:=by
 have T:ae X.K d H [aL f] [V.ref p]:=.cons (.tup n (wl j n) (uG _)) .nil;refine yM (uX (G.run X.A.in1 X.stack s H ⟨[.ref p],[]⟩ [.ref p] [V.ref p] (λv H2=>∃u a,v=.ref u/\bp d H a H2/\bP X.K a b H2/\H2 u=some (.tup (m.map V.int))) E0 z.in1 I.env0.in1 (by simpa using U s [.ref p] I.kIn (by simpa using x.symm)) (.cons rfl .nil) ⟨d,[aL f],h,.tup i,b,T,j,e,by rw[x];rfl,λg H' u J P R=>?_⟩) λr s' c=>?_)
 ·cases R with
  |tup g1 g2 g3=>exact⟨_,g,rfl,J,P,by rw[←qh g3 y];exact g1⟩
 ·cases r with
  |error er=>exact c.elim
  |ok fl=>
   cases fl with
   |ret u=>
    obtain⟨v,H2,C,Y,w,a,rfl,A,r2,S⟩:=I.after c;cases(show u=Value.ref w from Y);exact q w s' H2 a C A r2 S
   |next=>exact c.elim
   |brk=>exact c.elim
   |cont=>exact c.elim
end
def q7(H:Hp):Option (List Int×List Int)->Array Value->Prop
 |none,xs=>xs=#[]
 |some b,xs=>∃a c,xs=#[.ref a,.ref c]/\H a=some (.tup (b.1.map V.int))/\H c=some (.tup (b.2.map V.int))
def mZ:Option (List Int×List Int)->List (List Int×List Int)->Option (List Int×List Int)
 |none,[]=>none
 |none,x::l=>some (pickK x l)
 |some b,l=>some (pickK b l)
theorem NT{X:Cx}(G:gf X.prog X.w X.K X.mg X.base jE k fa fd ps (vx X.K ps.length Fk))(bn:Binds X.K fd ps [])(h1:ps.length=1)(hr:bR (k+1) X.A) {ob:Obj}{qs:List (Addr×List Int)}{R:Result->Shared->Prop}(ex:ob.ExactDict)(dt:ob.data=.dict es ep)
  (a3:es.toList.map (·.key)=qs.map λp=>Value.ref p.1)(ne:it≠S):
  ∀(i:List (Addr×List Int)) (j:Nat) (b:Option (List Int×List Int)) (f:Array Value) (c:Nat) (s:Shared) (H:Hp) (ρ:Loc) (au:aa) (ms:List (List Int)),qs.drop j=i->Inv X ((S,j6 f c)::aW) τ H s->s.heap.IsKeyIter it a j es.size ep->ed X aW H it->ed X aW H S ->
   H a=some (.frz ob (.dT vs))->bP X.K ρ au H->q7 H b f->(∀p∈i,H p.1=some (.tup (p.2.map V.int)))->kG Fk (i.map (·.2)) au=.ok ms stE->(b=none->i≠[]) ->
   (∀(r:List Int×List Int) s' P t q,mZ b ((i.map (·.2)).zip ms)=some r->Inv X aW τ P s'->bp ρ H t P->bP X.K t stE P->P q=some (.tup (r.1.map V.int))->R (.ok (.ret (.ref q))) s') ->
   codeAny (model X.prog X.w) X.A (.builtin "max.loop" ⟨[.ref it,.ref fa,.ref S],[]⟩) R s:=by
 have nm:(toString "max"++toString ".loop" : String)="max.loop":=by decide
 have b3:es.size=qs.length:=by
  have:=congrArg List.length a3
  rwa [az,az,gF] at this
 intro i
 induction i with
 |nil=>
  intro j b f c s H ρ au ms hj I hi d fS hz rp n hq e a2 A;have hS:s.heap.get? S=some (j6 f c):=(I.pin (S,j6 f c) (gG _ dS)).1;obtain⟨eo,_⟩:=(show ax X.prog X.w H s.heap a (.frz ob (.dT vs)) from I.hok a _ hz)
  have lj:es.size<=j:=by rw[b3];exact List.drop_eq_nil_iff.mp hj
  cases e;cases b with
  |none=>exact absurd rfl (a2 rfl)
  |some b=>
   obtain⟨q,Q,rfl,E,h3⟩:=n;refine pi F.entry_max_loop ?_;rw[qF vt _];refine ab (pd hS rfl (ab (sI (Dct.EL hr.hd hi ⟨ob,eo,ex,dt⟩ lj λg eb=>?_))));have gS:g.get? S=some (j6 #[.ref q,.ref Q] c):=eb _ _ (cJ ne) hS;refine ab (qu gS rfl (ab (lX (aq ?_))));have I1:Inv X ((S,j6 #[.ref q,.ref Q] c)::aW) τ H {s with heap:=g}:=I.turned (t':=s.toks) (λb o n e=>eb b o n e) d.1 d.2.1 d.2.2.2.1 d.2.2.2.2.1 λp hp=>by
    rcases eO.mp hp with hp|hp
    ·exact d.2.2.2.2.2 p (vp _ hp)
    ·rcases bU.mp hp with rfl|hp
     ·exact cJ ne
     ·exact d.2.2.2.2.2 p (gG _ hp)
   have I2:=qL (t':=s.toks) I1 fS (h':=g.update S (Obj.mapSeq λ_=>#[])) (λb u n e=>(og _ _ (cJ n)).trans e) (lq _ gS rfl) (λv z=>by cases z);exact A b _ H ρ q rfl (I2.pins_of λp hp=>I2.pin p (gG _ (cr _ hp))) (.refl _ _) rp E
 |cons p i ih=>
  intro j b f c s H ρ au ms hj I hi d fS hz rp n hq e a2 A;have hS:s.heap.get? S=some (j6 f c):=(I.pin (S,j6 f c) (gG _ dS)).1;obtain⟨eo,_⟩:=(show ax X.prog X.w H s.heap a (.frz ob (.dT vs)) from I.hok a _ hz)
  have b1:qs[j]?=some p:=by
   have:=congrArg (·[0]?) hj
   simpa using this
  have C:∃Y,es[j]?=some Y/\Y.key=.ref p.1:=by
   have e1:(es.toList.map (·.key))[j]?=some (.ref p.1):=by rw[a3,fq,b1];rfl
   rw[fq] at e1;obtain⟨Y,e2,e3⟩:=iE.mp e1;exact⟨Y,by rw[←iW];exact e2,e3⟩
  obtain⟨Y,C,hk⟩:=C;obtain⟨v,a9,e1,e⟩:=za (show(Fk [aL p.2] au).bind _=_ from e);cases v with
  |tup ds=>
   dsimp only at e;cases em:bC ds with
   |none=>rw[em] at e;cases e
   |some m=>
    rw[em] at e;obtain⟨x,b9,e2,e3⟩:=za e;cases e3;refine pi F.entry_max_loop ?_;rw[qF vt _];refine ab (pd hS rfl (ab (sI (Dct.E8 hi ⟨ob,eo,ex,dt⟩ C λg a6 sb=>?_))));rw[hk];have I1:Inv X ((S,j6 f c)::aW) τ H {s with heap:=g}:=I.turned (t':=s.toks) (λb o n e=>(sb.2 b n).trans e) d.1 d.2.1 d.2.2.2.1 d.2.2.2.2.1 λp hp=>by
     rcases eO.mp hp with hp|hp
     ·exact d.2.2.2.2.2 p (vp _ hp)
     ·rcases bU.mp hp with rfl|hp
      ·exact cJ ne
      ·exact d.2.2.2.2.2 p (gG _ hp)
    obtain⟨oI,b4,a5,a0⟩:=id a6;have I2:Inv X ((it,oI)::(S,j6 f c)::aW) τ H {s with heap:=g}:=I1.pins_of λp hp=>by
     rcases bU.mp hp with rfl|hp
     ·exact⟨b4,d.1,d.2.1,d.2.2.1,λv z=>by rw[a0] at z;cases z⟩
     ·exact I1.pin p (gG _ hp)
    refine ab (sI (iV (J9 G bn h1 hr I2 rp (hq p dS) e1 em λu s2 H2 a8 T x2 b0 hu=>?_)));have P1:=T.pin (it,oI) (gG _ dS);have J:=T.pin (S,j6 f c) (gG _ (cr _ dS));have I4:Inv X ((S,j6 f c)::aW) τ H2 s2:=T.pins_of λp hp=>T.pin p (gG _ (cr _ hp))
    have b6:ed X aW H2 it:=⟨P1.2.1,d.2⟩
    have a4:ed X aW H2 S:=⟨J.2.1,fS.2⟩
    have b5:=x2.frz _ _ _ hz;have tp:∀{y:Addr}{l:List L2.V},H y=some (.tup l)->H2 y=some (.tup l):=λ{y l} h=>(x2.out h (wl rp h)).1
    have U:=tp (hq p dS);have a1:s2.heap.IsKeyIter it a (j+1) es.size ep:=⟨oI,P1.1,a5,a0⟩
    have go:∀(b':List Int×List Int) (ys:Array Value) (c':Nat) (E:Heap) (t2:Nat),q7 H2 (some b') ys->E.get? S=some (j6 ys c')->(∀y w,y≠S->s2.heap.get? y=some w->E.get? y=some w)->mZ b ((p.2,m)::(i.map (·.2)).zip x)=some (pickK b' ((i.map (·.2)).zip x)) ->
      codeAny (model X.prog X.w) X.A (.builtin "max.loop" ⟨[.ref it,.ref fa,.ref S],[]⟩) R { s2 with heap:=E,toks:=t2 }:=λb' ys c' E t2 a7 b2 kk pk=>
     ih (j+1) (some b') ys c' {s2 with heap:=E,toks:=t2} H2 a8 a9 x (by rw[←List.tail_drop,hj];rfl) (qL (t':=t2) I4 a4 kk b2 (λv z=>by cases z)) (by obtain⟨o,q1,q2⟩:=a1;exact⟨o,kk _ _ ne q1,q2⟩) b6 a4 b5 b0 a7 (λp hp=>tp (hq p (cr _ hp))) e2 (λz=>by cases z) λr s' P t q er I' x' r' h'=>A r s' P t q (by
      show mZ b ((p.2,m)::(i.map (·.2)).zip x)=some r
      rw[pk];exact er) I' (x2.trans x') r' h'
    cases b with
    |none=>
     cases n;refine ab (qu J.1 rfl ?_);rw[nm];exact aq ⟨mH vt _,go (p.2,m) #[.ref p.1,.ref u] _ _ s2.toks ⟨p.1,u,rfl,U,hu⟩ (lq _ J.1 rfl) (λy w hy e=>(og _ _ (cJ hy)).trans e) rfl⟩
    |some b=>
     obtain⟨q,Q,rfl,q1,q2⟩:=n;obtain⟨_,b7,r1,T1⟩:=(show ax X.prog X.w H2 s2.heap u (.tup (m.map V.int)) from T.hok u _ hu)
     obtain⟨_,b8,r2,T2⟩:=(show ax X.prog X.w H2 s2.heap Q (.tup (b.2.map V.int)) from T.hok Q _ (tp q2))
     refine ab (sI (iV (ab (HT.J5 T1 T2 (by simpa using uR r1) (by simpa using uR r2) hr.in1.units0 (ab (iV (mM (ab (lX (aq ?_))))))))));cases hc:HT.lexLt b.2 m with
     |true=>
      rw[if_pos rfl];refine ab (qu J.1 rfl (ab (lX ?_)));rw[nm];exact aq ⟨mH vt _,go (p.2,m) #[.ref p.1,.ref u] _ _ s2.toks ⟨p.1,u,rfl,U,hu⟩ (lq _ J.1 rfl) (λy w hy e=>(og _ _ (cJ hy)).trans e) (by show some (pickK _ _)=_;simp only[pickK,hc,h8])⟩
     |false=>
      rw[if_neg (by decide)];refine ab (lX ?_);rw[nm];exact aq ⟨mH vt _,go b _ _ _ s2.toks ⟨q,Q,rfl,tp q1,tp q2⟩ J.1 (λy w hy e=>e) (by show some (pickK _ _)=_;simp only[pickK,hc];rfl)⟩
  |_=>cases e
end Dd
namespace L2
open Spec PyProof.Rows
theorem E9:Slot "reversed" "__length_hint__" "reversed.__length_hint__":=by
 refine Slot.of (owner:="reversed") (n:="__length_hint__") ?_ (by decide +kernel) (by decide +kernel) (by decide +kernel) ?_ ?_
 ·rw[sK,sV]
  kernel_rfl
 ·first
   |exact .inl (by decide +kernel)
   |exact .inr (by decide +kernel)
 ·rw[yR]
  kernel_rfl
theorem Tf:entryFor table "reversed.__length_hint__"=some Builtin.«reversed.__length_hint__»:=entryFor_of_tree (by kernel_rfl)
theorem M0(a:Value):argsOk "reversed.__length_hint__" ⟨[a],[]⟩:=by
 unfold argsOk;rw[signature?_of (id:="reversed.__length_hint__") (n:="__tnih_htgnel__".toList) (o:="desrever".toList) (by kernel_rfl) su]
 kernel_rfl
theorem M4:typeLookup (.type "reversed") (Str.ofString "__len__")=pure none:=by
 rw[sK,sV]
 kernel_rfl
theorem Tg{b:Array Value}:Meets (Builtin.«reversed.__length_hint__» ⟨[.ref it],[]⟩) (λ_ R s=>dB s.heap it a ((b.size:Int)-1)/\s.heap.IsTuple a b/\(b.size:Int)<2^62/\∀t h,R (.ok (.ret (.int b.size t))) {s with toks:=h}):=
 .of_wp λf w A R s c=>by
  obtain⟨l,g,p,m⟩:=c;obtain⟨q,e,v,d⟩:=id l;obtain⟨o,j,k,r⟩:=id g;have u:s.TypeIs (.ref a) "tuple":=⟨o,j,k⟩
  unfold Builtin.«reversed.__length_hint__»;refine ab (nR (a:=Value.ref it) (by rfl) ?_);refine ab (jG (i:=0) (x:=.ref a) e d rfl ?_)
  try dsimp only
  rw[if_neg (show ¬ ((Value.ref a==Value.none)=true) from nX)];refine ab (len_tuple g (by lia) ?_);refine ab (nR (a:=some (b.size:Int)) (by rfl) ?_);dsimp only;refine ab (jG (i:=1) (x:=.int ((b.size:Int)-1) 0) (s:={s with toks:=s.toks+1+1}) e d rfl ?_);dsimp only;rw[if_neg (by lia)];have n:(b.size:Int)-1+1=b.size:=by lia
  rw[n]
  wp_walk
  exact⟨_,rfl,m _ _⟩
theorem M3{s:Shared}{items:Array Value}(c:dB s.heap it a ((items.size:Int)-1))(l:s.heap.IsTuple a items)(e:(items.size:Int)<1000)(m:items.size≠0)(k:∀d,Q true {s with toks:=d}):
  wpAny (model prog w) A (Builtin.List.listLengthHint (.ref it)) Q E s:=by
 unfold Builtin.List.listLengthHint;refine ab (sL c.is M4 ?_);generalize hid:("reversed.__length_hint__" : String)=id0
 have f:typeLookup (.type "reversed") (Str.ofString "__length_hint__")=pure (some (.builtin id0)):=by rw[←hid]; exact E9.lookup
 have g:splitId id0=some ("reversed","__length_hint__"):=by subst hid; decide +kernel
 dsimp only;refine pf (λz=>absurd z (by decide +kernel)) λ_=>?_
 refine pf (λz=>absurd z (by decide)) λ_=>?_
 refine ab (sL c.is f ?_);dsimp only;rw[g];dsimp only;refine ab (Dw (T:="reversed") (b:=true) c.is F.sub_reversed_self ?_)
 refine pf (λz=>absurd z (by decide)) λ_=>?_
 subst hid;refine pf (λz=>absurd z (by decide +kernel)) λ_=>?_
 refine ab (lW (ab (nR (E9.bind _) ?_)));dsimp only;refine ab (qt (o9 E9 c.is Tf (M0 _) Tg ⟨c,l,by lia,λt d=>?_⟩));obtain⟨N,j⟩:∃N:Int,N=(items.size:Int):=⟨_,rfl⟩
 rw[←j] at e ⊢;show wpAny _ _ (asInt? (.int N t) >>= _) _ _ _;refine ab (nR (a:=some N) (by rfl) ?_);dsimp only;have h:Builtin.List.listFitsIndex N=true:=by unfold Builtin.List.listFitsIndex;rw[gE,qw,qw];constructor<;>lia
 have i:Builtin.List.listTooLong N.toNat=false:=by unfold Builtin.List.listTooLong;rw[jo];exact dM (by lia)
 refine pf (λz=>absurd z (by rw[h];decide)) λ_=>?_
 refine pf (λz=>absurd z (by lia)) λ_=>?_
 refine pf (λz=>absurd z (by rw[i];decide)) λ_=>aq ?_
 rw[show(N != 0)=true by simp;lia];exact k d
theorem Te{B:Around}(s:B.handled=none) (p:it≠a)(d:Array Value)(x:d.size<1000):
  Walks P w B it [it,a] [it] d.size (λi v=>d[d.size-1-i]?=some v) (λi h=>dB h it a ((d.size:Int)-1-i)/\IsTup h a d) where
 sub:=λb j=>bU.mpr (.inl (fJ.mp j))
 frame:=λ_ _ _ z l=>⟨let ⟨o,e,r⟩:=z.1;⟨o,l it (by simp) o e,r⟩,let ⟨o,e,r⟩:=z.2;⟨o,l a (by simp) o e,r⟩⟩
 item:=λi k W E y z f=>by
  have n:d[d.size-1-i]?=some d[d.size-1-i]:=zJ (by lia);have u:(d.size:Int)-1-i=((d.size-1-i:Nat):Int):=by lia
  refine Qy z.2 (by rw[←u];exact z.1) n (by lia) λg q r m=>?_
  refine f _ g q n ⟨?_,let ⟨o,e,c⟩:=z.2;⟨o,(m.2 a (cJ p)).trans e,c⟩⟩ λb o j e=>(m.2 b (by simpa using j)).trans e
  rw[show(d.size:Int)-1-((i+1:Nat):Int)=((d.size-1-i:Nat):Int)-1 by lia];exact r
 done:=λk W E z f=>yz (by lia) s z.1 λg b=>f g k.toks λc o t e=>b c o (by simpa using t) e
 self:=λ_ k Q E z f=>Og z.1.is CC (li CC z.1.is Ri (aq ⟨_,rfl, "reversed",_,z.1.is,uK.lookup,f⟩) (QC _))
theorem UE{B:Around}{s:Shared}{items:Array Value}{R:List Value->Shared->Prop}(hh:B.handled=none)(Y:it≠a)(U:items.size<1000)(hn:items.size≠0)(H:dB s.heap it a ((items.size:Int)-1))(X:IsTup s.heap a items)
  (q:∀(J:Heap) (G:Nat) (d:Array Value),(∀b o,b≠it->s.heap.get? b=some o->J.get? b=some o)->ItemsOf (λi v=>items[items.size-1-i]?=some v) d items.size->R d.toList {s with heap:=J,toks:=G}):wpAny (model P w) B (collect (.ref it)) R E s:=by
 have S:=eF;have x:it<s.heap.objs.size:=let ⟨_,e,_⟩:=H;cu e
 have k:a<s.heap.objs.size:=X.lt;unfold collect;refine ab (wpAny_runValue (pi F.entry_proto_collect ?_));rw[qF F.plain_proto_collect _]
 show wpAny _ B.in1 (newList [] >>= λl=>_) _ _ s;refine ab (kq (aq ⟨mH F.plain_list_iadd _,pi F.entry_list_iadd ?_⟩));rw[qF F.plain_list_iadd _]
 have t:∀ b o,s.heap.get? b=some o->(s.heap.push { cls:=.type "list",data:=.seq ([]:List Value).toArray }).get? b=some o:=λb o e=>cg _ e
 have I:(s.heap.push { cls:=.type "list",data:=.seq ([]:List Value).toArray }).get? s.heap.objs.size=some { cls:=.type "list",data:=.seq #[] }:=ez _ rfl
 have j:dB (s.heap.push { cls:=.type "list",data:=.seq ([]:List Value).toArray }) it a ((items.size:Int)-1):=let ⟨o,e,r⟩:=H; ⟨o,t _ _ e,r⟩
 have u:IsTup (s.heap.push { cls:=.type "list",data:=.seq ([]:List Value).toArray }) a items:=let ⟨o,e,r⟩:=X; ⟨o,t _ _ e,r⟩
 have W:=Te (P:=P) (w:=w) (B:=B.in1) hh Y items U;show wpAny _ B.in1 (Builtin.List.listExtendWith (.ref s.heap.objs.size) (.ref it) (.ref s.heap.objs.size)) _ _ _;have n:s.heap.objs.size≠it:=nS x;have Q:s.heap.objs.size≠a:=nS k;unfold Builtin.List.listExtendWith;refine ab (yO (T:="reversed") (dB.is (s:={ s with heap:=_ }) j) ?_)
 have g1:Builtin.List.listSameRef (.ref s.heap.objs.size) (.ref it)=false:=by simp[Builtin.List.listSameRef,n]
 rw[g1];refine pf (λz=>absurd z (by decide)) λ_=>?_
 refine ab (W.self 0 _ _ _ ⟨by simpa using j,u⟩ ?_);refine ab (iV (M3 (items:=items) j u (by lia) hn λG=>?_));refine pf (λ_=>?_) λz=>absurd (by rfl) z
 refine ab (lW ?_);refine ab ?_;show wpAny _ _ (updateSeq s.heap.objs.size (·.push .none) >>= λ_=>updateSeq s.heap.objs.size (·.pop)) _ _ _;refine ab (qu I rfl ?_);have f:=lq (Obj.mapSeq (·.push Value.none)) I rfl;refine qu (hz:=by seq_fits) f rfl ?_;have p:=lq (Obj.mapSeq (·.pop)) f rfl;have m:∀ b o,b≠s.heap.objs.size->(s.heap.push { cls:=.type "list",data:=.seq ([]:List Value).toArray }).get? b=some o->(((s.heap.push { cls:=.type "list",data:=.seq ([]:List Value).toArray }).update s.heap.objs.size (Obj.mapSeq (·.push Value.none))).update s.heap.objs.size (Obj.mapSeq (·.pop))).get? b=some o:=λb o h e=>
  (og _ _ (cJ h)).trans ((og _ _ (cJ h)).trans e)
 refine aq ⟨mH F.plain_extend_loop _,codeAny_extend_loopS W.toS (by rw[jo];lia) s.heap.objs.size (by simp[n,Q]) (.ref s.heap.objs.size) items.size 0 _ #[] _ rfl (iT _) ⟨?_,?_⟩ p (ItemsOf.nil _) λA d c C y g=>?_⟩
 ·let ⟨o,e,r⟩:=j;exact⟨o,m _ _ (cJ n) e,by simpa using r⟩
 ·let ⟨o,e,r⟩:=u;exact⟨o,m _ _ (cJ Q) e,r⟩
 ·refine ab (wpAny_load y (aq ?_));rw[Moved.eq_with C];refine q A.heap A.toks d (λb o h e=>C.heap b o (λz=>?_) (m b o (dF (cu e)) (t b o e))) g;rcases bU.mp z with z|z
  ·exact absurd (cu e) (by rw[z];exact nT _)
  ·exact h (fJ.mp z)
theorem Ul{B:Around}{s:Shared}{items:Array Value}(y:B.handled=none)(m:it≠a)(x:items.size<1000)(n:items.size≠0)(l:dB s.heap it a ((items.size:Int)-1))(z:IsTup s.heap a items)
  (k:∀(g:Heap) (j:Nat),(∀ b o,b≠it->s.heap.get? b=some o->g.get? b=some o)->Q (.ref g.objs.size) { s with heap:=g.push { cls:=.type "tuple",data:=.seq items.reverse },toks:=j }):wpAny (model P w) B (PySem.call (.type "tuple") [.ref it]) Q E s:=by
 have q:s.TypeIs (.ref it) "reversed":=l.is
 refine callType_codes (Q₁:=λe c=>c.TypeIs e "tuple"/\Q e c) Ov (F.typeCall_tuple_1 _) F.entry_object_init ?_ λe c d=>⟨d.1,F.args_object_init_2 e _,object_init_meets Ov.init.lookup Ov.made (by decide) P w B.in1 _ c ⟨d.1,rfl,d.2⟩⟩
 refine codeAny_of_tree ?_;show wpAny _ _ (do checkBuiltinCall "tuple.__new__" _; again (.builtin "tuple.__new__" _)) _ _ s
 refine ab (nR (F.newCall_tuple_1 _) (aq ⟨mH F.plain_tuple_new _,pi F.entry_tuple_new ?_⟩));rw[qF F.plain_tuple_new _]
 have H:=sub_tuple_self;have A:=init_tuple_lookup;have G:=madeHere_tuple
 wp_walk using yO q,UE (B:=B.in1.in1) y m x n l z
 intro g j h p f;show wpAny _ _ (Builtin.Tuple.tupleExact h.toList.toArray >>= λv=>ret v) _ _ _;have r:h.toList.toArray=items.reverse:=by
  rw[Array.toArray_toList];apply Array.ext
  ·rw[f.1,Array.size_reverse]
  ·intro i u C;have:=f.2 i _ (zJ u);rw[Array.getElem_reverse];have t:=(OQ.mp this).2;rw[←t]
 rw[r];unfold Builtin.Tuple.tupleExact;refine ab (kq (aq ?_) (by show items.reverse.size<=sizeLine;rw[Array.size_reverse,jo];lia));exact⟨⟨_,ez _ rfl,rfl⟩,k g j p⟩
def pM(K:Fg) (c:TE):TE:=λd H Q=>c d H λx H1=>∃a b,x=.ref a/\bH K H1 a b/\b≠[]/\b.length<1000/\∀q,H1 q=none->Q (.ref q) (ar H1 q (.tup b.reverse))
theorem S1{X:Cx}(hc:X.calm=true)(Y:Gl X "tuple")(T:X.mg "tuple"=none)(u:Gl X "reversed")(A:X.mg "reversed"=none)(hl:PE X l tl)
  (J:starEach [l] X.env=[(false,eval l X.env)]:=by rfl)(j:starEach [Expr.Call (.Name "reversed" p2) [l] [] pos2] X.env=[(false,eval (.Call (.Name "reversed" p2) [l] [] pos2) X.env)]:=by rfl):PE X (.Call (.Name "tuple" p) [.Call (.Name "reversed" p2) [l] [] pos2] [] pos) (pM X.K tl):=by
 intro y s t H Q I h;refine pB (lQ I Y T PyProof.Rows.Boot.tuple (sX (e:=.Call (.Name "reversed" p2) [l] [] pos2) (rest:=[]) ?_ j rfl))
 rw[j];refine qD (pB (lQ I u A Sx (sX (e:=l) (rest:=[]) ?_ J rfl)));rw[J];refine qD (bi (hl y s t H _ I h) λv d ⟨x,H1,m,r1,q1⟩=>sR ?_);obtain⟨a,E,rfl,hq,S,hk,q⟩:=q1;cases r1;obtain⟨c,P,w,hz⟩:=m.tuple hq;have k:=P.length;have g:c.toArray.size=E.length:=by rw[dR];exact k.symm
 refine Qb (items:=c.toArray) w (by rw[g];lia) λtk=>sR ?_
 have I2:Inv X y t H1 { d with heap:=d.heap.push { cls:=.type "reversed",data:=.fields #[.ref a,rawInt ((c.toArray.size:Int)-1)] },toks:=tk }:=m.kept λb o e=>cg _ e
 have R:d.heap.objs.size≠a:=cJ (dF (show IsTup d.heap a c.toArray from w).lt);have n:IsTup (d.heap.push { cls:=.type "reversed",data:=.fields #[.ref a,rawInt ((c.toArray.size:Int)-1)] }) a c.toArray:=let ⟨o,e,r⟩:=(show IsTup d.heap a c.toArray from w); ⟨o,cg _ e,r⟩
 refine Ul (items:=c.toArray) (I.ok.hd hc) R (by rw[g];exact hk) (by rw[g];intro z;exact S (OE.mp z)) ⟨_,ez _ rfl,rfl,rfl⟩ n λG i U=>?_
 have f:=m.fpOk (H':=H1) (bj _) (m.hok.fresh (bj _));have C:Inv X y t H1 {d with heap:=G,toks:=i}:=I2.turned U f.1 f.2.1 f.2.2.2.1 f.2.2.2.2.1 f.2.2.2.2.2;refine⟨.ref G.objs.size,_,C.laid (t':=i) (o:=.tup E.reverse) (λb o e=>cg _ e) (bj _) ⟨by rw[vk];exact hz,c.reverse,QJ P,?_⟩,rfl,q _ (C.hok.fresh (bj _))⟩;rw[←List.reverse_toArray];exact IsTup.new _ _
theorem MY(f:(d==sysModules)=false):MeetsIn P w (Builtin.«dict.__len__» ⟨[.ref d],[]⟩) (λ_ R s=>Dct.kO s.heap d es ep/\R (.ok (.ret (.int es.size s.toks))) {s with toks:=s.toks+1}):=
 .of_wp λA R s b=>by
  obtain⟨⟨o,e,c,a⟩,h⟩:=b;show wpAny _ _ (dictSize d >>= _) _ _ s;unfold dictSize;refine ab (ab (vf e a (aq (ab (m:=Builtin.Dict.pendingCount d) (wpAny_pendingCount_other f (wpAny_ret_mkInt ?_))))));rw[uY];exact h
theorem T8{s:Shared}(f:(d==sysModules)=false)(x:Dct.kO s.heap d es ep)(g:(es.size:Int)<2^60)(h:∀a,Q (decide (es.size≠0)) {s with toks:=a}):wpAny (model P w) B (truthy (.ref d)) Q E s:=by
 have b:=x.is;have c:wpAny (model P w) B (runValue (.builtin "len" ⟨[.ref d],[]⟩)) (λr e=>(∃ t,r=.int es.size t)/\∃ a,e={ s with toks:=a }) E s:=by
  refine wpAny_runValue (pi entry_len ?_);rw[qF plain_len _];unfold Builtin.«len»
  refine ab (m:=oneArg "len" _) (aq (ab (m:=callSpecial? (.ref d) (Str.ofString "__len__")) (wpAny_callSpecial?_slot (name:=Str.ofString "__len__") b Oy (uW Oy b F.entry_dict_len (F.args_dict_len_1 _) (MY f) ⟨x,?_⟩))))
  show wpAny _ _ _ _ _ {s with toks:=s.toks+1};refine ab (iV (aq (ab (lX ?_))));show wpAny _ _ (if((es.size:Nat):Int)<0 then _ else _) _ _ _;rw[if_neg (by lia)];show wpAny _ _ (if((es.size:Nat):Int) ≥ 2^63 then _ else _) _ _ _;rw[if_neg (by lia)];exact ab (wpAny_mkInt (aq ⟨⟨_,rfl⟩,_,rfl⟩))
 unfold truthy;refine ab (wpAny_callSpecial?_none (name:=Str.ofString "__bool__") b noBool_dict ?_)
 refine ab (sL (name:=Str.ofString "__len__") b Oy.lookup ?_)
 refine ab (bi c λr e z=>?_);obtain⟨⟨t,rfl⟩,a,rfl⟩:=z;have:((es.size:Int) != 0)=decide (es.size≠0):=by rw[mJ];simp
 exact aq (this ▸ h a)
theorem Ja:BH X (λx H Q=>∃a b,x=.ref a/\H a=some (.dT b)/\Q (!b.isEmpty) H):=by
 intro p s w H x v Q I n h;obtain⟨a,b,rfl,e,q⟩:=h;cases n;obtain⟨z,k,r,c,o,d,t,i,g,j,m,u⟩:=(show ax X.prog X.w H s.heap a (.dT b) from I.hok a _ e)
 have l:d.size=b.length:=by
  have:=congrArg List.length m;rw[az,gF] at this;rw[this];exact c.length.symm
 rw[jo] at z;refine T8 k ⟨o,i,g,j⟩ (by lia) λf=>⟨H,I.tok f,?_⟩
 have:decide (d.size≠0)=!b.isEmpty:=by
  rw[l];cases b<;>simp
 rw[this];exact q
theorem K0(g:PE X a ta)(m:∀b,isTrue a X.env b=(do let v ←b;standAt a.pos;holding [v] (truthy v))):PT X a (λd H Q=>ta d H λx f=>∃p c,x=.ref p/\f p=some (.dT c)/\Q (!c.isEmpty) f):=λe s d H Q I h=>
 isTrue_plain (bi (g e s d H _ I h) λv k ⟨x,H1,i,j,l⟩=>Ja e k d H1 x v Q i j l) (m _)
end L2
namespace Dd
open Spec PyProof.Rows L2
theorem LB(a v:Value):checkBuiltinCall "max" ⟨[a],[(Str.ofString "key",v)]⟩=pure ():=by kernel_rfl
theorem Np(v:Value):Builtin.Builtins.bindParams "max" ["key","default"] 0 ⟨[],[(Str.ofString "key",v)]⟩=pure [some v,none]:=rfl
theorem Jv{X:Cx}(c:ke X.prog X.w X.K X.mg X.base x k ps Fk)(h1:ps.length=1)(hr:bR (k + 1) X.A)(hg:Gl X "max")(hm:X.mg "max"=none)(hx:Gl X x)(hl:JE X l f)(a8:(x==("__debug__" : Str))=false:=by decide)
  (hs:starEach [l] X.env=(false,eval l X.env)::starEach [] X.env:=by rfl)(he:backTo pos (starEach [l] X.env)=(false,eval l X.env)::backTo pos (starEach [] X.env):=by rfl)(a7:(backTo pos (starEach [l] X.env)).any (·.1)=false:=by rfl):JE X (.Call (.Name "max" p) [l] [⟨some "key",.Name x xp,kpos⟩] pos) (kK f Fk):=by
 obtain⟨fa,fd,G,bn,kp,m⟩:=c;refine⟨λJ s τ H Q I ⟨ρ,σ,au,v,a6,a,rp,e,q⟩=>?_⟩;have nm:(toString "max"++toString ".loop" : String)="max.loop":=by decide
 obtain⟨d,C,e1,e⟩:=za e;refine pB (lQ I hg hm PyProof.Rows.boot_max ?_);refine callWith_kw (bi (yx hl.out xE hs pos J s τ H (λj H1=>∃u g,j=[u]/\bp ρ H g H1/\bP X.K g C H1/\At X.K g H1 d u) I ⟨ρ,σ,au,d,C,a,rp,e1,λg H1 u x1 r1 a1=>⟨u,g,rfl,x1,r1,a1⟩⟩) λus t a5=>?_) he a7;obtain⟨j,H1,I1,rv,u,g,hv,x1,a0,a1⟩:=a5;subst hv;obtain⟨u',rfl,ru⟩:=vals1 rv;refine kws_cons (Ev I1 hx m (kws_nil ?_) a8);cases d with
 |ref n=>
  dsimp only at e;split at e
  ·rename_i Y hn;obtain⟨ms,b0,e2,e⟩:=za e;obtain⟨i,rfl,hp,j,T,g2⟩:=ig a0 a1 hn (by intro z;cases z);cases ru;obtain⟨z,ns,ys,a2,A,S,U,o1,ex,dt,e4,e5⟩:=(show ax X.prog X.w H1 t.heap i (.dT j) from I1.hok i _ T)
   obtain⟨qs,b1,b2,b3⟩:=FD (P:=X.prog) (w:=X.w) a2 g2.keys;have a9:S.toList.map (·.key)=qs.map λp=>Value.ref p.1:=by rw[e4,gi];exact b3
   have E:bp g H1 g (ar H1 i (.frz A (.dT j))):=bp.wr hp (qc T) _;have R:bP X.K g (C.set n (.fT Y)) (ar H1 i (.frz A (.dT j))):=a0.wr hp (qc T) ⟨j,A,zq,g2.ext E⟩;have I2:=I1.freeze T o1;cases hz:(Y.map (·.1)).zip ms with
   |nil=>rw[hz] at e;cases e
   |cons b bs=>
    rw[hz] at e;cases e;show wpAny (model X.prog X.w) X.A (call (.builtin "max") [.ref i] [(Str.ofString "key",.ref fa)]) _ _ t
    refine yM (DP F.plain_max F.entry_max ?_);rw[show checkBuiltinCall "max" _=pure () from LB _ _]
    refine aq (ab (nR (Np _) (ab (aq (ab (Dct.E7 ns ⟨A,o1,ex,dt⟩ (ab (kq ?_))))))));rw[nm];have i1:(t.heap.push (Dct.fg i S.size U)).objs.size=t.heap.objs.size+1:=nU ..
    have I3:Inv X J τ (ar H1 i (.frz A (.dT j))) {t with heap:=(t.heap.push (Dct.fg i S.size U)).push (j6 #[] 0)}:=I2.kept (t':=t.toks) λb o q=>cg _ (cg _ q)
    have fI:ed X J (ar H1 i (.frz A (.dT j))) t.heap.objs.size:=I2.fpOk (bj _) (I2.hok.fresh (bj _));have fS:ed X J (ar H1 i (.frz A (.dT j))) (t.heap.push (Dct.fg i S.size U)).objs.size:=I2.fpOk (by rw[i1];exact uV _) (I2.hok.fresh (by rw[i1];exact uV _));have hS:((t.heap.push (Dct.fg i S.size U)).push (j6 #[] 0)).get? (t.heap.push (Dct.fg i S.size U)).objs.size=some (j6 #[] 0):=ez _ rfl;have a3:∀{y:Addr}{l:List L2.V},H1 y=some (.tup l)->ar H1 i (.frz A (.dT j)) y=some (.tup l):=λ{y l} h=>by
     rw[zo (by rintro rfl;rw[T] at h;cases h)];exact h
    refine aq ⟨mH vt _,NT G bn h1 hr (aW:=J) (τ:=τ) (a:=i) (ob:=A) (vs:=j) (stE:=a6) ex dt a9 (by rw[i1];exact dF (ve _)) qs 0 none #[] 0 _ _ g _ ms rfl ?_ ⟨_,cg _ (ez _ rfl),rfl,rfl⟩ fI fS zq R rfl (λp hp=>a3 (b2 p hp)) (by rw[b1];exact e2) (λ_ zz=>?_) λr s' H' a4 pb er I' x' r' hb=>?_⟩
    ·exact I3.pins_of λp hp=>by
      rcases bU.mp hp with rfl|hp
      ·exact⟨hS,fS.1,fS.2.1,fS.2.2.1,λv z=>by cases z⟩
      ·exact I3.pin p (gG _ hp)
    ·rw[zz] at b1;rw[←b1] at hz;cases hz
    ·rw[b1,hz] at er;cases er;exact⟨.ref pb,H',I',rfl,q a4 H' _ (x1.trans (E.trans x')) r' (.tup hb (wl r' hb) (uG _))⟩
  ·cases e
 |_=>cases e
def gO(f:SE):SE:=λc b=>(f c b).bind λx a=>match x with
 |.tup xs=>if 1<=xs.length/\xs.length<1000 then .ok (.tup xs.reverse) a else .stuck
 |_=>.stuck
theorem qW{K:Fg}:∀{c:List D}{d:List L2.V},ae K ρ H c d->ae K ρ H c.reverse d.reverse
 |_,_,.nil=>.nil
 |_,_,.cons a b=>by rw[DH,DH];exact(qW b).append (.cons a .nil)
theorem Nz{X:Cx}(g:X.calm=true)(o:Gl X "tuple")(n:X.mg "tuple"=none)(j:Gl X "reversed")(k:X.mg "reversed"=none)(c:JE X l f)
  (E:starEach [l] X.env=[(false,eval l X.env)]:=by rfl)(i:starEach [Expr.Call (.Name "reversed" p2) [l] [] pos2] X.env=[(false,eval (.Call (.Name "reversed" p2) [l] [] pos2) X.env)]:=by rfl):JE X (.Call (.Name "tuple" p) [.Call (.Name "reversed" p2) [l] [] pos2] [] pos) (gO f):=
 ⟨fG (S1 g o n j k c.out E i) λP H Q h=>by
  obtain⟨G,w,t,v,A,a,r,e,q⟩:=h;obtain⟨x,m,s,e⟩:=za e;refine⟨G,w,t,x,m,a,r,s,λC H1 u y b I=>?_⟩;cases x with
  |tup xs=>
   dsimp only at e;split at e
   ·rename_i g;cases e;cases I with
    |@tup pa _ vs g1 g2 g3=>
     have c:=g3.length;refine⟨pa,vs,rfl,bH.of g1,λz=>by rw[z] at c;simp at c;lia,by rw[c];exact g.2,λJ d=>?_⟩;exact q _ _ _ (y.trans (bp.new d _)) (b.new d _) (.tup zq (CO b d) ((qW g3).ext (bp.new d _)))
   ·cases e
  |_=>cases e⟩
def kM(f:SE):ST:=λc b=>(f c b).bind λv a=>match v with
 |.ref n=>match a[n]? with
  |some (.dT kvs)=>.ok (!kvs.isEmpty) a
  |_=>.stuck
 |_=>.stuck
theorem LZ(h:JE X a f)(E:∀b,isTrue a X.env b=(do let v ←b;standAt a.pos;holding [v] (truthy v)):=by intro _;rfl):JT X a (kM f):=⟨jV (K0 h.out E) λR H Q g=>by
 obtain⟨G,t,s,v,y,i,o,e,q⟩:=g;obtain⟨x,k,r,e⟩:=za e;refine⟨G,t,s,x,k,i,o,r,λA H1 u w d I=>?_⟩;cases x with
 |ref n=>
  dsimp only at e;split at e
  ·rename_i c l;cases e;obtain⟨p,rfl,P,j,m,J⟩:=ig d I l (by intro z;cases z);have C:c.isEmpty=j.isEmpty:=by
    have:=J.length;cases c<;>cases j<;>simp at this ⊢
   exact⟨p,j,rfl,m,by rw[←C];exact q _ _ w d⟩
  ·cases e
 |_=>cases e⟩
end Dd
namespace Dd
open L2
def Sd:SS:=(aD (aF 2 (aU aO (aA 3) (aU bQ (eC (.int 2)) (aA 2))))
 (aF 1 (aU aO (aT (aB (aA 2) aC)) (aA 1))))
def C4:da:=cG 4 1 (aD (aF 1 (aT aC))
 (aD (aF 2 (eC (.int 0)))
 (aD (bz (lH (aA 0)) (gN 3) Sd)
 (aY (aA 1)))))
def Sr:SS:=(aF 1 (aE oB (aB (aA 1) (aB (aT (aB (aT (aB (aA 2) aC)) aC)) aC))))
def uT:da:=cG 3 1 (aD (aF 1 (aT (aB (aT aC) aC)))
 (aD (bz (aH (aA 0)) (gN 2) Sr)
 (aY (aA 1))))
def qk:da:=cG 1 1 (aY (gO (aU aO (aA 0) (aU gZ (aT (aB (eC (.int 0)) aC)) (aU df (eC (.int 4)) (aE cZ (aB (aA 0) aC)))))))
def FO:SS:=(aD (iF 1 (aF 4 (aE C4 (aB (kK (aA 1) qk) aC))))
 (aD (bq (bO (aA 3) (aB (aA 4) aC)))
 (bz (aH (aE uT (aB (aA 4) aC))) (gN 2) Da)))
def CH:da:=cG 5 1 (aD (aF 1 dZ)
 (aD (bz (aH (aA 0)) (gN 2) uS)
 (aD (aF 3 (cM aC))
 (aD (dy (kM (aA 1)) FO)
 (aY (aE bE (aB (aE bf (aB (aA 3) aC)) aC)))))))
def Sa:SS:=(bz (aH (aE uT (aB (aA 2) aC))) (gN 3) Sq)
def lc:da:=cG 4 1 (aD (aF 1 dZ)
 (aD (bz (aH (aA 0)) (gN 2) Sa)
 (aY (aE bE (aB (aE bf (aB (aA 1) aC)) aC)))))
def zy:da:=cG 1 1 (aY (aE lc (aB (aE hZ (aB (aE CH (aB (aA 0) aC)) aC)) aC)))
def Ch:SS:=(ft (vz (eB (aU oj (aE hZ (aB (aE hZ (aB (aA 6) aC)) aC)) (aE C8 (aB (aA 6) aC)))) (eB (aU oj (aE hZ (aB (aE nN (aB (aA 6) aC)) aC)) (aE hZ (aB (aA 6) aC))))) (aY (eC (.bl false))) fK)
def P6:SS:=(aD (aF 2 (aE wg (aB (aA 0) (aB (aA 1) aC))))
 (aD (aF 3 (aE ry (aB (aA 2) (aB (eC (.int 3)) (aB (eC (.int 7)) (aB (eC (.int 3)) aC))))))
 (aD (aF 4 (aE ry (aB (aA 2) (aB (eC (.int 3)) (aB (eC (.int 7)) (aB (eC (.int 3)) aC))))))
 (aD (aF 5 (aE ry (aB (aA 2) (aB (eC (.int 2)) (aB (eC (.int 12)) (aB (eC (.int 6)) aC))))))
 (aD (bz (aH (ip (aB (aA 3) (aB (aA 4) (aB (aA 5) aC))))) (gN 6) Ch)
 (aD (ft (eB (aU oj (aE hZ (aB (aE nL (aB (aA 3) (aB (aA 4) aC))) aC)) (aE nN (aB (aE nL (aB (aE hZ (aB (aA 4) aC)) (aB (aE hZ (aB (aA 3) aC)) aC))) aC)))) (aY (eC (.bl false))) fK)
 (aD (ft (eB (aU oj (aE hZ (aB (aE oA (aB (aA 3) (aB (aA 5) aC))) aC)) (aE oA (aB (aE hZ (aB (aA 3) aC)) (aB (aE hZ (aB (aA 5) aC)) aC))))) (aY (eC (.bl false))) fK)
 (aD (aF 7 (aE oB (aB (aE zy (aB (aE lc (aB (aA 4) aC)) aC)) (aB (aE zy (aB (aE lc (aB (aA 3) aC)) aC)) aC))))
 (ft (eB (aU oj (aE zy (aB (aE oB (aB (aE lc (aB (aA 3) aC)) (aB (aE lc (aB (aA 4) aC)) aC))) aC)) (aA 7))) (aY (eC (.bl false))) fK)))))))))
def rC:da:=cG 8 1 (aD (bz (jw (aB (aU aO (aE gn (aB (eC (.int 1)) (aB (aE cZ (aB (aA 0) aC)) aC))) (eC (.int 1))) aC)) (gN 1) P6)
 (aY (eC (.bl true))))
end Dd
namespace Dd
open L2 K13
namespace Tab
theorem xD(a:1<=b)(c:b<=16):[b]∈fB/\dc 1 [b]=b:=by
 have:((List.range 16).all λb=>fB.contains [b+1]&&Nat.beq (dc 1 [b+1]) (b+1))=true:=by decide +kernel
 have:=di.mp this (b-1) (bT.mpr (by lia));rw[show b-1+1=b by lia,gE] at this;exact⟨by simpa using this.1,gV this.2⟩
theorem sk:[]∈fB/\dc 1 []=0/\mn []=1:=by decide +kernel
theorem rY:CL [[]] 0:=λr a=>⟨[],sk.1,fJ.mp a,sk.2.1⟩
theorem GY{b:Nat}(c:1<=b)(a:b<=16):CL [[(b:Int)]] b:=λr d=>⟨[b],(xD c a).1,fJ.mp d,(xD c a).2⟩
theorem xz:nC [[]]=1:=by
 show mn (jZ [])^^^0=1;rw[jH];exact sk.2.2
theorem rX(h:CL l d)(j:l.Nodup):l.length<=40:=by
 by_cases hd:d<=16
 ·have:=ml j (m:=(oq.filter λs=>Nat.beq (dc 1 s) d).map aM) λr i=>by
   obtain⟨s,c,rfl,e⟩:=h r i;refine cP.mpr ⟨s,fH.mpr ⟨?_,by rw[e];exact Nat.beq_refl d⟩,rfl⟩;obtain⟨a,b⟩:=gW c;rw[←b];unfold eP;rw[dO];cases q:oq[ji s]? with
   |none=>
    have g:oq.length=84:=by decide +kernel
    rw[Sv,g] at q;lia
   |some x=>exact db q
  rw[az] at this;have f:=di.mp J1.1 d (bT.mpr (by lia));exact ay this (ik f)
 ·cases l with
  |nil=>simp
  |cons r l=>
   obtain⟨s,c,_,e⟩:=h r dS;exact absurd (Pa c) (by lia)
theorem V5(n:CL l d)(j:CL m e)(h:d+e<=16):∀r∈l,∀s∈m,∃a sn,Pr r s a sn:=λr g s k=>by
 obtain⟨a,b,o,p⟩:=n r g;obtain⟨sn,c,i,q⟩:=j s k;have f:dc 1 a+dc 1 sn<=16:=by lia
 exact⟨a,sn,o,i,uz b,uz c,f,w8 b c f⟩
def bF(m:List cq) (a:List Int):List cq:=a.foldl (λm b=>aQ (i4 m b.toNat)) m
def io(m:List cq) (b:List Int):List cq:=b.foldr (λa m=>aQ (m9 a.toNat m)) m
theorem Eo:∀{row:List Int}{m:List cq}{d:Nat},CL m d->m.Nodup->(∀x∈row,1<=x)->(d:Int)+row.sum<=16->CL (bF m row) (d+row.sum.toNat)/\(bF m row).Nodup/\∀v,cE (nC (bF m row)) v=cE (nC m) (cY row v)
 |[],m,d,h,nd,_,_=>⟨by simpa [bF] using h,nd,λv=>rfl⟩
 |b::row,m,d,h,nd,hp,hs=>by
  have j:=hp b dS;have a:∀x∈row,1<=x:=λx g=>hp x (cr _ g)
  have k:=zm a;rw[kl] at hs;have q:=Gn (b:=b.toNat) h (by lia) (by lia);obtain⟨f,i,c⟩:=Eo (row:=row) q.1.odd (zr _) a (by lia);refine⟨?_,i,λv=>?_⟩
  ·have e:d+(b::row).sum.toNat=b.toNat+d+row.sum.toNat:=by rw[kl];lia
   rw[e];exact f
  ·show cE (nC (bF (aQ (i4 m b.toNat)) row)) v=_;rw[c,oz,q.2];rfl
theorem yj:∀{row:List Int}{m:List cq}{d:Nat},CL m d->m.Nodup->(∀x∈row,1<=x)->(d:Int)+row.sum<=16->CL (io m row) (d+row.sum.toNat)/\(io m row).Nodup/\nC (io m row)=cY row (nC m)
 |[],m,d,h,nd,_,_=>⟨by simpa [io] using h,nd,rfl⟩
 |a::row,m,d,h,nd,hp,hs=>by
  have i:=hp a dS;have b:∀x∈row,1<=x:=λx g=>hp x (cr _ g)
  have j:=zm b;rw[kl] at hs;obtain⟨f,k,c⟩:=yj (row:=row) h nd b (by lia);have q:=Gm (a:=a.toNat) f (by lia) (by lia);refine⟨?_,zr _,?_⟩
  ·have e:d+(a::row).sum.toNat=a.toNat+(d+row.sum.toNat):=by rw[kl];lia
   rw[e];exact q.1.odd
  ·show nC (aQ (m9 a.toNat (io m row)))=_;rw[oz,q.2,c];rfl
theorem B3:∀(N n:Nat),n<2^N->xr (List.range N) (λi=>if n.testBit i=true then 2^i else 0)=n
 |0,n,h=>by
  have:n=0:=by simpa using h
  subst this;rfl
 |N+1,n,h=>by
  rw[Jg];have a:=B3 N (n%2^N) (Nat.mod_lt _ (Dt N));rw[iw (g:=λi=>if n.testBit i=true then 2^i else 0) λi b=>by rw[Nat.testBit_mod_two_pow];simp[bT.mp b]] at a;rw[a];refine Nat.eq_of_testBit_eq λi=>?_
  rw[uZ,Nat.testBit_mod_two_pow];by_cases c:i<N
  ·have:(if n.testBit N=true then 2^N else 0).testBit i=false:=by
    split
    ·rw[zi];simp;lia
    ·simp
   rw[this];simp[c]
  ·by_cases c2:i=N
   ·subst c2;cases hb:n.testBit i<;>simp
   ·have d:n.testBit i=false:=Nat.testBit_lt_two_pow (dq h (DQ (by decide) (by lia)));have:(if n.testBit N=true then 2^N else 0).testBit i=false:=by
     split
     ·rw[zi];simp;lia
     ·simp
    rw[this,d];simp
theorem rb(h:i<84):nu (bW i)=2^i:=by
 obtain⟨j,e,q⟩:=uI (iu h).1 (iu h).2;have a:j<84:=by have:=(cn.mp e).1;rwa [nM] at this
 have:bW j=bW i:=by
  show cR.getD j []=_;rw[dO,e];rfl
 rw[q,Cd a h this]
theorem EB(h:n<2^84):cE n 1=n:=by
 show dj (λi=>nu (bW i)) n=n;rw[Ua (h:=λi=>2^i) λi a _=>rb a];exact B3 84 n h
theorem Cg{a:Type}{f:a->Nat}:∀{l:List a},(∀x∈l,f x<2^84)->xr l f<2^84
 |[],_=>by show 0<_;decide
 |x::l,h=>Nat.xor_lt_two_pow (h x dS) (Cg λy b=>h y (cr _ b))
theorem rP(h:CA l):nC l<2^84:=Cg λr d=>by
 obtain⟨s,e,rfl⟩:=h r d;obtain⟨a,b,c⟩:=sj e;rw[h7,a];exact b.lt
theorem uL(d:∀x∈row,1<=x)(b:row.sum<=16):CL (bF [[]] row) row.sum.toNat/\(bF [[]] row).Nodup/\nC (bF [[]] row)=nu row/\CL (io [[]] row) row.sum.toNat/\(io [[]] row).Nodup/\nC (io [[]] row)=nu row:=by
 obtain⟨a,g,f⟩:=Eo rY (by simp) d (by simpa using b);obtain⟨c,e,h⟩:=yj rY (by simp) d (by simpa using b);rw[jI] at a c;refine⟨a,g,?_,c,e,by rw[h,xz];rfl⟩;rw[←EB (rP a.ca),f,xz];show dj _ (2^0)=_;rw[CD (by decide)]
 rfl
theorem yf{a:List Int}{i:Nat}(h:(a.map D.int)[i]?=some y):∃b,a[i]?=some b/\y=.int b:=by
 rw[fq] at h;obtain⟨b,c,e⟩:=iE.mp h;exact⟨b,c,e.symm⟩
theorem Sk{a:List Int}(f:∀x∈a,1<=x)(H:a.sum<=16)(k:∀g,Q (aK (bF [[]] a)) (au++g)):WP (uT [aL a] au) Q:=by
 have z:∀i,∃d:Nat,CL (bF [[]] (a.take i)) d/\(bF [[]] (a.take i)).Nodup/\(d:Int)=(a.take i).sum:=λi=>by
  have h:∀x∈a.take i,1<=x:=λx c=>f x (l5 c)
  have e:(a.take i).sum+(a.drop i).sum=a.sum:=by rw[←gQ,kx]
  have w:=zm λx (c:x∈a.drop i)=>f x (pF c)
  have G:=zm h;obtain⟨A,t,_⟩:=Eo rY (by simp) h (by show((0:Nat):Int)+_<=16;lia);exact⟨_,A,t,by lia⟩
 refine fQ rfl ?_;simp only[W,V];refine⟨by show 0<=sizeLine;decide,by show 1<=sizeLine;decide,_,rfl,?_⟩;refine fR (λi m s=>(∃v,m=[some (aL a),some (aK (bF [[]] (a.take i))),v])/\∃g,s=au++g) ⟨⟨_,rfl⟩,[],(kn _).symm⟩ ?_ ?_
 ·rintro i y m s u ⟨⟨v,rfl⟩,g,rfl⟩;obtain⟨b,j,rfl⟩:=yf u;have l:=db j;have E:=f b l;obtain⟨d,n,r,I⟩:=z i;have p:(a.take i).sum+b<=16:=by
   have e:(a.take (i+1)).sum+(a.drop (i+1)).sum=a.sum:=by rw[←gQ,kx]
   have w:=zm λx (c:x∈a.drop (i+1))=>f x (pF c)
   rw[zg j,gQ] at e;simp at e;lia
  refine⟨_,rfl,?_⟩;unfold Sr;simp only[W,V];have o:((b.toNat:Nat):Int)=b:=by lia
  have q:=GY (b:=b.toNat) (by lia) (by have:=zm λx (c:x∈a.take i)=>f x (l5 c);lia);rw[o] at q;refine⟨by show 1<=sizeLine;decide,by show 1<=sizeLine;decide,?_⟩;refine Fd (one:=bF [[]] (a.take i)) (other:=[[b]]) (rX n r) (by simp) (V5 n q (by lia)) λC=>?_
  refine⟨⟨some (.int b),?_⟩,g++C,by rw[eh]⟩;rw[zg j];unfold bF;rw[kr];show _=[some (aL a),some (aK (aQ (i4 _ b.toNat))),_]
  unfold i4;rw[o]
 ·rintro m s ⟨⟨v,rfl⟩,g,rfl⟩;rw[az,eQ];simp only[W,V];exact k g
theorem wy(n:∀r∈d,af r 16 6)(J:d.length<=1000)(k:∀g,Q (aK (aQ (d.flatMap (bF [[]])))) (au++g)):WP (lc [aK d] au) Q:=by
 have j:∀r∈d,(bF [[]] r).length<=40:=λr h=>let ⟨a,b,_⟩:=uL (n r h).pos (n r h).sum;rX a b
 have w:∀i,((d.take i).flatMap (bF [[]])).length<=40000:=λi=>by
  have:=Cs (l:=d.take i) (f:=bF [[]]) (c:=40) λr h=>j r (l5 h)
  have E:(d.take i).length<=d.length:=by rw[fj];exact ko _ _
  lia
 refine fQ rfl ?_;simp only[W,V,Dd.N];refine fR (λi e s=>(∃p u:Option D,e=[some (aK d),some (.ref au.length),p,u])/\∃g,s=au++(.dT (aS (aP ((d.take i).flatMap (bF [[]]))))::g)) ⟨⟨_,_,rfl⟩,[],rfl⟩ ?_ ?_
 ·rintro i y e s q ⟨⟨p,u,rfl⟩,g,rfl⟩;obtain⟨r,m,rfl⟩:=zu q;have o:=db m;refine⟨_,rfl,?_⟩;unfold Sa;simp only[W,V,Dd.N];refine Sk (n r o).pos (n r o).sum λA=>?_
  simp only[W,V,Dd.N];rw[eh,nV];generalize g++A=g3;have v:=w i;have H:=j r o;refine fR (λz e s=>(∃t:Option D,e=[some (aK d),some (.ref au.length),some (aL r),t])/\s=au++(.dT (aS (aP (((d.take i).flatMap (bF [[]]))++(bF [[]] r).take z)))::g3)) ⟨⟨_,rfl⟩,by simp⟩ ?_ ?_
  ·rintro z y e s q ⟨⟨t,rfl⟩,rfl⟩;obtain⟨b,x,rfl⟩:=zu q;refine⟨_,rfl,?_⟩;unfold Sq;simp only[W,V,L];have C:=zx (((d.take i).flatMap (bF [[]]))++(bF [[]] r).take z);have G:((bF [[]] r).take z).length<=(bF [[]] r).length:=by rw[fj];exact ko _ _
   rw[cx] at C;refine vM (iQ _ _) (by lia) ⟨⟨_,rfl⟩,?_⟩;rw[kS,zg x,←eh,Rc]
  ·rintro e s ⟨⟨t,rfl⟩,rfl⟩;simp only[L];refine⟨⟨_,_,rfl⟩,g3,?_⟩;rw[zd,eQ,zg m,pC,zH]
 ·rintro e s ⟨⟨p,u,rfl⟩,g,rfl⟩;rw[zd,eQ];have v:=w d.length;rw[eQ] at v;simp only[W,V];have I:=zx (d.flatMap (bF [[]]));refine CQ (iQ _ _) (by lia) ?_;simp only[W,V];exact k _
end Tab
end Dd
namespace Dd
open L2 K07 K23
end Dd
namespace K29
end K29
namespace Dd
open L2 K07 K23
theorem Ld{N:Nat}(g:σ[i]?=some (some (.ref N)))(d:au[N]?=some (.dT kv0))(w:WP (f σ au) (λc s=>∃b a,c=.nx b/\s[N]?=some (.fT a)/\QQ (.nx b) (s.set N (.dT a)))):WP (iF i f σ au) QQ:=by
 obtain⟨c,s,e,b,a,rfl,h,q⟩:=w.get;unfold iF;rw[g];dsimp only;rw[d];dsimp only;rw[e,zw,h];exact q
where stB28 (r:List Int):Bool:=decide (bv r=[])
theorem UY(h:au[n]?=some (.lst (aJ l)))(a:l.length<=1000000):bf [.ref n] au=.ok (.lst (aJ (aX l))) au:=by
 unfold bf;dsimp only
 rw[show(eY au (.ref n)).bind fD=some l from by
  rw[show eY au (.ref n)=some (aJ l) from by unfold eY;dsimp only;rw[h]]
  exact TB l]
 dsimp only;rw[if_pos a]
end Dd
namespace Dd
open L2 K13
namespace Tab
noncomputable def i6(r:List Int):List Int:=(r++List.replicate (4-r.length) 0).reverse
def cA(j:Nat):List Int:=aM (eP j)
def iX(r:List Int):Nat:=ji (jZ r)
theorem Ke:((List.range 84).all λi=>(List.range 84).all λj=>HT.lexLt (i6 (cA i)) (i6 (cA j))==Nat.blt i j)=true:=by decide +kernel
theorem jk(h:∃s∈fB,r=aM s):iX r<84/\cA (iX r)=r:=by
 obtain⟨s,c,rfl⟩:=h;obtain⟨a,b⟩:=gW c;unfold iX cA;rw[h7,b];exact⟨a,rfl⟩
theorem HM(e:∃x∈fB,r=aM x)(f:∃x∈fB,s=aM x):HT.lexLt (i6 r) (i6 s)=Nat.blt (iX r) (iX s):=by
 obtain⟨a,b⟩:=jk e;obtain⟨c,d⟩:=jk f;have:=di.mp (di.mp Ke _ (bT.mpr a)) _ (bT.mpr c);rw[b,d] at this;exact eq_of_beq this
theorem G0(h:∃s∈fB,r=aM s):r.length<=4:=by
 obtain⟨s,a,rfl⟩:=h;unfold aM;rw[az];exact uz a
theorem Tw(h:WP (f σ au) (λx s=>∃a,x=.tup a/\1<=a.length/\a.length<1000/\Q (.tup a.reverse) s)):WP (gO f σ au) Q:=by
 obtain⟨v,s,e,a,rfl,b,c,q⟩:=h.get;refine WP.of ?_ q;unfold gO;rw[e,zw];dsimp only;rw[if_pos ⟨b,c⟩]
theorem K3(m:Nat):rz (List.replicate m 0)=aL (List.replicate m 0):=by
 rw[Cb];unfold aM;rw[List.map_replicate];rfl
theorem Fi{r:List Int}(h:r.length<=4)(au:aa):qk [aL r] au=.ok (aL (i6 r)) au:=by
 have a:WP (qk [aL r] au) (λv s=>v=aL (i6 r)/\s=au):=by
  refine fQ rfl ?_;simp only[W,V,Dd.N];refine Tw ?_;simp only[W,V,Dd.N,List.replicate];have e:(4:Int)-((r.map D.int).length:Int)=((4-r.length:Nat):Int):=by rw[az];lia
  refine⟨by show 1<=sizeLine;decide,?_⟩;rw[e];refine WP.of (FA (by lia)) ?_;rw[K3];have b:aO (aL r) (aL (List.replicate (4-r.length) 0)) au=.ok (aL (r++List.replicate (4-r.length) 0)) au:=by
   unfold aO aL;dsimp only;rw[if_pos (by simp;rw[jo];lia),gC]
  refine WP.of b ⟨_,rfl,?_,?_,?_,rfl⟩
  ·simp;lia
  ·simp;lia
  ·unfold i6 aL;rw[Od]
 obtain⟨v,s,e,rfl,rfl⟩:=a.get;exact e
theorem yi:∀{b:List (List Int)}(a:aa),(∀r∈b,r.length<=4)->kG qk b a=.ok (b.map i6) a
 |[],_,_=>rfl
 |r::b,a,h=>by
  show(qk [aL r] a).bind _=_;rw[Fi (h r dS),zw];show(match bC ((i6 r).map .int) with|some m=>_|none=>_)=_;rw[rA];dsimp only;rw[yi a λx c=>h x (cr _ c),zw]
  rfl
theorem EI:∀{ks:List (List Int)}{b:List Int},(∀r∈b::ks,∃s∈fB,r=aM s)->∃m∈b::ks,pickK (b,i6 b) (ks.map λr=>(r,i6 r))=(m,i6 m)/\∀r∈b::ks,iX r<=iX m
 |[],b,_=>⟨b,dS,rfl,λr hr=>by rw[fJ.mp hr];exact bj _⟩
 |x::ks,b,h=>by
  have g:=h b dS;have i:=h x (by simp);show ∃m∈b::x::ks,pickK (if HT.lexLt (i6 b) (i6 x) then(x,i6 x) else(b,i6 b)) (ks.map λr=>(r,i6 r))=_/\_
  rw[HM g i];cases c:Nat.blt (iX b) (iX x) with
  |true=>
   obtain⟨m,f,e,d⟩:=EI (ks:=ks) (b:=x) λr hr=>h r (cr _ hr)
   refine⟨m,cr _ f,e,λr hr=>?_⟩;rcases bU.mp hr with rfl|hr
   ·have:=d x dS;have:iX r<iX x:=ik c;lia
   ·exact d r hr
  |false=>
   obtain⟨m,f,e,d⟩:=EI (ks:=ks) (b:=b) λr hr=>h r (by rcases bU.mp hr with z|z<;>simp[z])
   refine⟨m,by rcases bU.mp f with z|z<;>simp[z],e,λr hr=>?_⟩;rcases bU.mp hr with rfl|hr
   ·exact d r dS
   ·rcases bU.mp hr with rfl|hr
    ·have a:=d b dS;have:¬ iX b<iX r:=λz=>by rw[show Nat.blt (iX b) (iX r)=true from mO z] at c;cases c
     lia
    ·exact d r (cr _ hr)
theorem HQ{N:Nat}(n:f σ au=.ok (.ref N) au)(e:au[N]?=some (.dT (aS ks)))(c:∀r∈ks,∃s∈fB,r=aM s)(d:ks≠[]):
  ∃m∈ks,kK f qk σ au=.ok (aL m) (au.set N (.fT (aS ks)))/\∀r∈ks,iX r<=iX m:=by
 cases ks with
 |nil=>exact absurd rfl d
 |cons b ks=>
  obtain⟨m,j,i,h⟩:=EI c;refine⟨m,j,?_,h⟩;have g:(aS (b::ks)).map (·.1)=b::ks:=by unfold aS;rw[gi];exact List.map_id _
  unfold kK;rw[n,zw];dsimp only;rw[e];dsimp only;rw[g,yi _ λr k=>G0 (c r k),zw,cf,y9];dsimp only;have o:ks.zip (ks.map i6)=ks.map λr=>(r,i6 r):=by
   clear c j i h g e d
   induction ks with
   |nil=>rfl
   |cons a l ih=>rw[cf,y9,ih];rfl
  rw[o,i]
theorem HL(l:s∈fB)(k:∀g,Q (aL (bW (ldC.getD (ji s) 0))) (au++g)):WP (C4 [aL (aM s)] au) Q:=by
 refine fQ rfl ?_;simp only[W,V,Dd.N];refine⟨by show 0<=sizeLine;decide,?_⟩;refine yH (xs:=(aM s).map D.int) rfl ?_;rw[←Od];refine fR (λi j c=>(∃v,j=[some (aL (aM s)),some (aL (aM (eG (s.reverse.take i).reverse))),some (.int (gt (eG (s.reverse.take i).reverse) 0:Nat)),v])/\c=au) ⟨⟨_,rfl⟩,rfl⟩ ?_ ?_
 ·rintro i y j c t ⟨⟨v,rfl⟩,rfl⟩;obtain⟨b,d,rfl⟩:=yf t;have h:s.reverse[i]?=some b.toNat/\((b.toNat:Nat):Int)=b:=by
   unfold aM at d;rw[←Od,fq] at d;obtain⟨x,f,rfl⟩:=iE.mp d;exact⟨by simpa using f,by simp⟩
  obtain⟨f,A⟩:=h;have w:(s.reverse.take (i+1)).reverse=b.toNat::(s.reverse.take i).reverse:=by rw[zg f,Os];rfl
  have n:eG (s.reverse.take (i+1)).reverse=(b.toNat+2*gt (eG (s.reverse.take i).reverse) 0)::eG (s.reverse.take i).reverse:=by rw[w];rfl
  refine⟨_,rfl,?_⟩;unfold Sd;simp only[W,V,Dd.N,L];rw[n];have C:(eG (s.reverse.take i).reverse).length<=4:=by
   have:∀q:RN,(eG q).length=q.length:=λq=>by
    induction q with
    |nil=>rfl
    |cons a q ih=>show(_::eG q).length=_;rw[dN,ih,dN]
   rw[this,vk,fj];have:=uz l;rw[vk];lia
  have m:((b.toNat+2*gt (eG (s.reverse.take i).reverse) 0:Nat):Int)=b+2*(gt (eG (s.reverse.take i).reverse) 0:Nat):=by lia
  refine⟨.inl ⟨by decide,by decide⟩,by show 1<=sizeLine;decide,?_,⟨some (.int b),?_⟩,trivial⟩
  ·rw[az];unfold aM;rw[az,jo];simp;lia
  ·have u:aM ((b.toNat+2*gt (eG (s.reverse.take i).reverse) 0)::eG (s.reverse.take i).reverse)=(b+2*(gt (eG (s.reverse.take i).reverse) 0:Nat))::aM (eG (s.reverse.take i).reverse):=by
    unfold aM;rw[cf,m]
   have z:((gt ((b.toNat+2*gt (eG (s.reverse.take i).reverse) 0)::eG (s.reverse.take i).reverse) 0:Nat):Int)=b+2*(gt (eG (s.reverse.take i).reverse) 0:Nat):=m;rw[u,z]
   rfl
 ·rintro j c ⟨⟨v,rfl⟩,rfl⟩;rw[az,vk];simp only[W,V];have e:(s.reverse.take (aM s).length).reverse=s:=by
   rw[vw (by unfold aM;simp),zB]
  rw[e];obtain⟨r,p⟩:=gW l;have:=(nq r).led;rw[p] at this;rw[this];have o:=k []
  rwa [kn] at o
theorem Cm:∀{M:List Nat},M.Nodup->∀i,(xr M λj=>2^j).testBit i=decide (i∈M)
 |[],_,i=>by simp[xr]
 |a::M,nd,i=>by
  rw[iB] at nd;rw[gA,uZ,Cm nd.2,zi];by_cases c:a=i
  ·subst c;simp[nd.1]
  ·have:¬ i=a:=λz=>c z.symm
   simp[c,this]
theorem Nd{M:List Nat}(b:M.Nodup) (c:j∈M)(h:∀i∈M,i<=j):(xr M λj=>2^j)/2^j=1:=by
 have a:=Cm b j;rw[eK c] at a;have lt:(xr M λj=>2^j)<2^(j+1):=Nat.lt_pow_two_of_testBit _ λi f=>by
  rw[Cm b];exact dM λz=>by have:=h i z;lia
 have e:(xr M λj=>2^j)/2^j<2:=by
  rw[Nat.div_lt_iff_lt_mul (Dt j)];rw[yP] at lt;lia
 have d:(xr M λj=>2^j)/2^j%2=1:=by
  rw[Nat.testBit_eq_decide_div_mod_eq] at a;exact gU a
 generalize (xr M λj=>2^j)/2^j=q at e d ⊢;lia
theorem Lk(c:a/2^j=1)(d:b/2^j=1):a^^^b<2^j:=by
 have h:(a^^^b)/2^j=0:=by
  rw[←ON,Nat.shiftRight_xor_distrib,ON,ON,c,d];rfl
 rcases Nat.div_eq_zero_iff.mp h with z|z
 ·exact absurd z (nS (Dt j))
 ·exact z
theorem Nf(h:a/2^i=1)(k:a/2^j=1):i=j:=by
 have b:∀{i j:Nat},i<j->a/2^i=1->a/2^j=1->False:=λ{i j} c h k=>by
  have e:a<2^(i+1):=by
   have:=Nat.div_add_mod a (2^i);have m:=Nat.mod_lt a (Dt i);rw[h] at this;rw[yP];lia
  have d:2^j<=a:=by
   have:=Nat.div_add_mod a (2^j);rw[k] at this;lia
  have:=DQ (n:=2) (by decide) (show i+1<=j by lia);lia
 rcases Nat.lt_trichotomy i j with c|c|c
 ·exact(b c h k).elim
 ·exact c
 ·exact(b c k h).elim
theorem Ct(h:CA ks)(c:ks.Nodup):(ks.map iX).Nodup:=by
 induction ks with
 |nil=>exact mI
 |cons a ks ih=>
  rw[iB] at c;rw[cf,iB];refine⟨λz=>?_,ih (λr g=>h r (cr _ g)) c.2⟩;obtain⟨b,d,e⟩:=cP.mp z;have i:=(jk (h a dS)).2;have f:=(jk (h b (cr _ d))).2;rw[e,i] at f;exact c.1 (by rw[f];exact d)
theorem yJ(h:CA ks):eW jP (nC ks)=xr (ks.map iX) λj=>2^j:=by
 rw[wJ h,ux];rfl
theorem Mq{a m:List (List Int)}(b:a.Nodup):nC (m.foldl aR a)=nC a^^^nC m:=by
 have e:=NH (l:=m) b;have:nC (aX (m.foldl aR a))=nC (m.foldl aR a):=by
  exact wV λx=>by rw[(ze _).count_eq]
 rw[←this,e,oz];unfold nC;rw[wo]
structure qY (N0:Nat) (ks:List (List Int)) (T:List Nat):Prop where
 ca:CA ks
 nd:ks.Nodup
 num:nC ks^^^(xr T λj=>2^ldC.getD j 0)=N0
 lt:∀j∈T,j<84
 tnd:T.Nodup
 far:∀j∈T,∀r∈ks,iX r<j
theorem qY.turn{T:List Nat}(h:qY N0 d T) (n:m∈d)(top:∀r∈d,iX r<=iX m):
  af (bW (ldC.getD (iX m) 0)) 16 6/\qY N0 ((bF [[]] (bW (ldC.getD (iX m) 0))).foldl aR d) (T++[iX m])/\∀r∈(bF [[]] (bW (ldC.getD (iX m) 0))).foldl aR d,iX r<iX m:=by
 obtain⟨l,A⟩:=jk (h.ca m n);have J:=nq l;have q:=(iu J.ld).1;obtain⟨w,C,s,_⟩:=uL q.pos q.sum;rw[rb J.ld] at s;have g:CA ((bF [[]] (bW (ldC.getD (iX m) 0))).foldl aR d):=λr f=>by
  rcases Fm f with z|z
  ·exact h.ca r z
  ·exact w.ca r z
 have k:=Qn (m:=bF [[]] (bW (ldC.getD (iX m) 0))) h.nd;have t:nC ((bF [[]] (bW (ldC.getD (iX m) 0))).foldl aR d)=nC d^^^2^ldC.getD (iX m) 0:=by rw[Mq h.nd,s]
 have less:∀r∈(bF [[]] (bW (ldC.getD (iX m) 0))).foldl aR d,iX r<iX m:=λr f=>by
  have u:eW jP (nC ((bF [[]] (bW (ldC.getD (iX m) 0))).foldl aR d))<2^iX m:=by
   rw[t,vR,vQ,yJ h.ca]
   exact Lk (Nd (Ct h.ca h.nd) (Ot n) λi y=>by
    obtain⟨r,f,rfl⟩:=cP.mp y;exact top r f) J.top
  rw[yJ g] at u;have o:=Cm (Ct g k) (iX r);rw[eK (Ot f)] at o;rcases mG (iX r) (iX m) with z|z
  ·exact z
  ·rw[Nat.testBit_lt_two_pow (dq u (DQ (by decide) z))] at o;cases o
 refine⟨q,⟨g,k,?_,λj p=>?_,?_,λj p r f=>?_⟩,less⟩
 ·rw[t,wo,←h.num];show nC d^^^2^_^^^(_^^^(2^_^^^0))=_;rw[jH,gj,qq (2^_) (_^^^_),gj,qp,jH]
 ·rcases eO.mp p with z|z
  ·exact h.lt j z
  ·rw[fJ.mp z];exact l
 ·rw[sP];refine⟨h.tnd,by simp,λa x b v e=>?_⟩;rw[fJ.mp v] at e;have:=h.far a x m n;lia
 ·rcases eO.mp p with z|z
  ·have G:=less r f;have E:=h.far j z m n;lia
  ·rw[fJ.mp z];exact less r f
theorem qY.done{T:List Nat}(h:qY N0 [] T):aX (T.map λj=>bW (ldC.getD j 0))=cK N0:=by
 have d:∀i∈T,∀j∈T,ldC.getD i 0=ldC.getD j 0->i=j:=λi l j c e=>by
  have a:=(nq (h.lt i l)).top;have b:=(nq (h.lt j c)).top;rw[e] at a;exact Nf a b
 have m:(T.map λj=>bW (ldC.getD j 0)).Nodup:=by
  refine DF _ (R:=λi j=>i≠j/\i∈T/\j∈T) (λi j z e=>?_) ?_
  ·exact z.1 (d i z.2.1 j z.2.2 (Cd (nq (h.lt i z.2.1)).ld (nq (h.lt j z.2.2)).ld e))
  ·exact D6 (λ{a b} f k z=>⟨z,f,k⟩) h.tnd
 rw[BU (λr g=>by
  obtain⟨j,c,rfl⟩:=cP.mp g
  exact iu (nq (h.lt j c)).ld) m]
 congr 1
 have e:aZ (T.map λj=>bW (ldC.getD j 0))=xr T λj=>2^ldC.getD j 0:=by
  show xr (T.map _) nu=_;rw[ux];exact iw λj c=>rb (nq (h.lt j c)).ld
 rw[e,←h.num];exact(lY _).symm
theorem Et(c:aa)(a b:O)(g:aa):(c++a::b::g)[c.length+1]?=some b:=by
 rw[me (by lia)];simp
theorem K4(d:aa)(a b c:O)(g:aa):(d++a::b::g).set (d.length+1) c=d++a::c::g:=by
 rw[List.set_append_right _ _ (by lia)];simp
theorem Mi{N:Nat}(f:σ[1]?=some (some (.ref N)))(e:σ[2]?=some (some (aL r)))(c:s[N]?=some (.dT (aS ks)))(b:r∉ks)(h:ks.length<=1000000):uS σ s=.ok (.nx σ) (s.set N (.dT (aS (ks++[r])))):=by
 have d:=rq r;have g:=Fu b;have a:(aS ks).length<sizeLine:=by unfold aS;rw[az];exact cQ _ (by lia)
 rw[←g];unfold uS;rw[EN];simp only[tP,zw,se,f,e,d,c,a,h8]
theorem FX{a:aa}{T:List Nat}(c:qY (nC l) ks T)(G:ks≠[])
  (k:∀d m v p S,qY (nC l) d (T++[iX m])->m∈ks->(∀r∈d,iX r<iX m)->QQ (.nx [some (aK l),some (.ref a.length),v,some (.ref (a.length+1)),p]) (a++.dT (aS d)::.lst (aJ ((T++[iX m]).map λj=>bW (ldC.getD j 0)))::S)):
  WP (FO [some (aK l),some (.ref a.length),v,some (.ref (a.length+1)),p] (a++.dT (aS ks)::.lst (aJ (T.map λj=>bW (ldC.getD j 0)))::g)) QQ:=by
 have x:T.length<=84:=by
  have:=ml c.tnd (m:=List.range 84) λj u=>bT.mpr (c.lt j u)
  rwa [qy] at this
 have E:ks.length<=84:=by
  have:=ml (Ct c.ca c.nd) (m:=List.range 84) λj u=>by
   obtain⟨r,Q,rfl⟩:=cP.mp u;exact bT.mpr (jk (c.ca r Q)).1
  rwa [az,qy] at this
 obtain⟨m,q,P,top⟩:=HQ (σ:=[some (aK l),some (.ref a.length),v,some (.ref (a.length+1)),p]) (au:=a++.dT (aS ks)::.lst (aJ (T.map λj=>bW (ldC.getD j 0)))::g) (f:=aA 1) (N:=a.length) rfl (iQ _ _) c.ca G;obtain⟨e,h,less⟩:=c.turn q top;obtain⟨s,R,A⟩:=c.ca m q;have w:iX m=ji s:=by unfold iX;rw[A,h7]
 unfold FO;simp only[W,V,Dd.N];refine Ld (N:=a.length) rfl (iQ _ _) ?_;simp only[W,V,Dd.N];refine WP.of P ?_;rw[A,kS];refine HL R λI=>?_
 rw[←w,eh,nV,nV];refine⟨_,_,rfl,iQ _ _,?_⟩;rw[kS];simp only[W,V,Dd.N,M];refine⟨_,_,rfl,Et ..,_,_,rfl,Et ..,by unfold aJ;rw[az,az,jo];lia,?_⟩;rw[K4];refine Sk e.pos e.sum λX=>?_
 simp only[W,V,Dd.N];rw[eh,nV,nV];generalize g++I++X=g3;have J:aJ (T.map λj=>bW (ldC.getD j 0))++[aL (bW (ldC.getD (iX m) 0))]=aJ ((T++[iX m]).map λj=>bW (ldC.getD j 0)):=by
  unfold aJ;rw[gC,gC];rfl
 rw[J];have o:=rX (uL e.pos e.sum).1 (uL e.pos e.sum).2.1;generalize hC:bF [[]] (bW (ldC.getD (iX m) 0))=C at h less o;refine fR (λz n t=>(∃i,n=[some (aK l),some (.ref a.length),i,some (.ref (a.length+1)),some (aL (bW (ldC.getD (iX m) 0)))])/\t=a++.dT (aS ((C.take z).foldl aR ks))::.lst (aJ ((T++[iX m]).map λj=>bW (ldC.getD j 0)))::g3) ⟨⟨_,rfl⟩,rfl⟩ ?_ ?_
 ·rintro z y n t U ⟨⟨i,rfl⟩,rfl⟩;obtain⟨b,H,rfl⟩:=zu U;refine⟨_,rfl,?_⟩;unfold Da;simp only[W,V,L];have Y:=Dh (C.take z) ks c.nd;have h2:(C.take z).length<=C.length:=by rw[fj];exact ko _ _
  refine vM (iQ _ _) (by lia) ⟨⟨_,rfl⟩,?_⟩;rw[kS,zg H,kr]
  rfl
 ·rintro n t ⟨⟨i,rfl⟩,rfl⟩;rw[zd,eQ];exact k _ m i _ _ h q less
theorem T9(q:CA l)(v:l.Nodup)(k:∀g,Q (aK (cK (nC l))) (au++g)):WP (CH [aK l] au) Q:=by
 have x:l.length<=84:=by
  have:=ml (Ct q v) (m:=List.range 84) λj d=>by
   obtain⟨r,h,rfl⟩:=cP.mp d;exact bT.mpr (jk (q r h)).1
  rwa [az,qy] at this
 refine fQ rfl ?_;simp only[W,V,Dd.N];refine fR (λi o s=>(∃b,o=[some (aK l),some (.ref au.length),b,none,none])/\s=au++[.dT (aS (l.take i))]) ⟨⟨_,rfl⟩,rfl⟩ ?_ ?_
 ·rintro i y o s I ⟨⟨b,rfl⟩,rfl⟩;obtain⟨r,h,rfl⟩:=zu I;refine⟨_,rfl,?_⟩;have E:r∉l.take i:=λz=>by
   have e:(l.take (i+1)).Nodup:=(DL (i+1) l).nodup v;rw[zg h,sP] at e;exact e.2.2 r z r (by simp) rfl
  refine WP.of (Mi (N:=au.length) (ks:=l.take i) rfl rfl (iQ _ _) E (by rw[fj];lia)) ?_;simp only[L];refine⟨⟨_,rfl⟩,?_⟩;rw[kS,zg h]
 ·rintro o s ⟨⟨b,rfl⟩,rfl⟩;rw[zd,eQ];simp only[W,V,Dd.N];refine⟨by show 0<=sizeLine;decide,?_⟩;refine CG (λn o s=>∃c T b f g,o=[some (aK l),some (.ref au.length),b,some (.ref (au.length+1)),f]/\s=au++.dT (aS c)::.lst (aJ (T.map λj=>bW (ldC.getD j 0)))::g/\qY (nC l) c T/\∀r∈c,iX r<n) (k:=84) ⟨l,[],b,none,[],by simp,by simp[aJ],⟨q,v,jH _,λj d=>by simp at d,mI,λj d=>by simp at d⟩,λr h=>(jk (q r h)).1⟩ (by decide) ?_;rintro n o s ⟨c,T,b,f,g,rfl,rfl,p,C⟩;have G:kM (aA 1) [some (aK l),some (.ref au.length),b,some (.ref (au.length+1)),f] (au++.dT (aS c)::.lst (aJ (T.map λj=>bW (ldC.getD j 0)))::g)=.ok (!(aS c).isEmpty) (au++.dT (aS c)::.lst (aJ (T.map λj=>bW (ldC.getD j 0)))::g):=by
   unfold kM;rw[show aA 1 [some (aK l),some (.ref au.length),b,some (.ref (au.length+1)),f] (au++.dT (aS c)::.lst (aJ (T.map λj=>bW (ldC.getD j 0)))::g)=.ok (.ref au.length) _ from rfl,zw];dsimp only;rw[iQ]
  refine WP.of G ?_;cases c with
  |nil=>
   rw[if_neg (by decide)];have e:=p.done;simp only[W,V,Dd.N];have w:T.length<=84:=by
    have:=ml p.tnd (m:=List.range 84) λj d=>bT.mpr (p.lt j d)
    rwa [qy] at this
   refine WP.of (UY (l:=T.map λj=>bW (ldC.getD j 0)) (Et ..) (by rw[az];lia)) ?_;rw[e];simp only[W,V,Dd.N];exact k _
  |cons a c=>
   rw[if_pos (by rfl)];refine FX p (by simp) λu m b f H t A less=>?_
   simp only[L];exact⟨iX m,C m A,u,_,b,f,H,rfl,rfl,t,less⟩
def tT(i:Nat):Nat:=(bW i).sum.toNat
def mf:List Nat:=(List.range 84).map λi=>gH (bW i) 1
def ao(n:Nat):Nat:=eW mf n
def pA(a:Nat):Nat:=cX (cS.getD a []) 1
def BF(a i:Nat):Bool:=bif Nat.ble (a+tT i) 16 then Nat.beq (ao ((kD.getD a []).getD i 0)) (cE (mf.getD i 0) (pA a)) else true
theorem Lw:((List.range 16).all λa=>(List.range 84).all λi=>BF (a+1) i)=true:=by decide +kernel
theorem Nb:((List.range 84).all λi=>Nat.beq (ao (mf.getD i 0)) (2^i)&&Nat.blt (mf.getD i 0) (2^84)&&(List.range 84).all λk=>!(mf.getD i 0).testBit k||Nat.beq (tT k) (tT i))=true:=by decide +kernel
def AU(i j:Nat):Bool:=bif Nat.ble (dc 1 (eP i)) 7&&Nat.ble (dc 1 (eP j)) 7 then((aN (eP i) (eP j)).all (ol (dc 1 (eP i)+dc 1 (eP j)))&&Nat.beq (xr (aN (eP i) (eP j)) mn) (cE (j5.getD i 0) (j5.getD j 0))) else true
theorem Mo:((List.range 84).all λi=>(List.range 84).all λj=>AU i j)=true:=by decide +kernel
end Tab
end Dd
namespace Dd
open L2
end Dd
namespace Dd
open L2 K13
namespace Tab
theorem Ks(l:List (List Int)):aQ (aQ l)=aQ l:=Qs λx=>xU l x
theorem La(n:Nat):∃L,cK n=aQ L:=by
 refine⟨((List.range 84).filter λi=>n.testBit i).map λi=>cR.getD i [],?_⟩;have c:(((List.range 84).filter λi=>n.testBit i).map λi=>cR.getD i []).Nodup:=by
  refine DF _ (R:=λi j=>i≠j/\i<84/\j<84) (λi j z e=>z.1 (Cd z.2.1 z.2.2 e)) ?_;exact D6 (λ{a b} d f z=>⟨z,bT.mp (fH.mp d).1,bT.mp (fH.mp f).1⟩) (Dx.filter _)
 unfold cK;refine vS c λx=>?_
 rw[yU c];split<;>simp_all
theorem IW(n:Nat):(cK n).Nodup:=by
 obtain⟨L,e⟩:=La n;rw[e];exact zr L
theorem oF(h:r∈cK n):af r 16 6/\iq r:=by
 unfold cK at h;have h:=(ze _).mem_iff.mp h;obtain⟨i,a,rfl⟩:=cP.mp h;exact iu (bT.mp (fH.mp a).1)
theorem rh(h:n<2^84):aZ (cK n)=n:=by rw[uq,uD,EB h]
theorem Es(c:∀r∈rows,af r 16 6):CA (rows.flatMap (bF [[]]))/\CA (rows.flatMap (io [[]]))/\nC (rows.flatMap (bF [[]]))=aZ rows/\nC (rows.flatMap (io [[]]))=aZ rows:=by
 have b:=λr h=>uL (c r h).pos (c r h).sum
 refine⟨λx a=>?_,λx a=>?_,?_,?_⟩
 ·obtain⟨r,h,a⟩:=ll.mp a;exact(b r h).1.ca x a
 ·obtain⟨r,h,a⟩:=ll.mp a;exact(b r h).2.2.2.1.ca x a
 ·unfold nC;rw[ri];exact iw λr h=>(b r h).2.2.1
 ·unfold nC;rw[ri];exact iw λr h=>(b r h).2.2.2.2.2
theorem CA.odd(h:CA l):CA (aQ l):=λr a=>h r (jj a)
theorem Qt{L:List (List Int)}(a:∀r∈L,af r 16 6)(v:Nat):cE (aZ L) v=cX L v:=by
 have K:bt (aQ L):=⟨zr L,λr h=>a r (jj h)⟩
 have:=(BV K).op v
 rwa [mm,uD,ED] at this
theorem K9{n:Nat}(h:i<84)(t:n.testBit i=true):bW i∈cK n:=by
 unfold cK;exact(ze _).mem_iff.mpr (cP.mpr ⟨i,fH.mpr ⟨bT.mpr h,t⟩,rfl⟩)
theorem B2(h:r∈cK n):∃i,i<84/\n.testBit i=true/\r=bW i:=by
 unfold cK at h;obtain⟨i,a,rfl⟩:=cP.mp ((ze _).mem_iff.mp h);exact⟨i,bT.mp (fH.mp a).1,(fH.mp a).2,rfl⟩
def nD(x y:Nat):Prop:=∀i k,i<84->k<84->x.testBit i=true->y.testBit k=true->(bW i).sum+(bW k).sum<=16
theorem L6(h:nD x y):∀r∈ai (cK x) (cK y),af r 16 6:=λr e=>by
 obtain⟨a,f,b,j,rfl⟩:=CP e;obtain⟨i,d,g,rfl⟩:=B2 f;obtain⟨k,c,l,rfl⟩:=B2 j;exact vW (iu d).1 (iu c).1 (iu d).2 (iu c).2 (h i k d c g l)
theorem E4(n v w:Nat):cE n (v^^^w)=cE n v^^^cE n w:=by
 unfold cE dj;rw[←sC];refine iw λi _=>?_
 split
 ·exact B8 _ _ _
 ·rfl
theorem Fs(n:Nat):cE n 0=0:=by
 unfold cE dj;rw[iw (g:=λ_=>0) λi _=>by split;exact Cv _;rfl];exact ES _
theorem vO{f g:Nat->Nat}{n:Nat}(e:n<2^84)(c:f 0=0)(m:∀v w,f (v^^^w)=f v^^^f w)(b:g 0=0)(r:∀v w,g (v^^^w)=g v^^^g w)(h:∀i,i<84->n.testBit i=true->f (2^i)=g (2^i)):f n=g n:=by
 have d:∀{k:Nat->Nat},k 0=0->(∀v w,k (v^^^w)=k v^^^k w)->∀(l:List Nat) (q:Nat->Nat),k (xr l q)=xr l λx=>k (q x):=λ{k} o j l q=>by
  induction l with
  |nil=>exact o
  |cons a l ih=>rw[gA,j,ih];rfl
 rw[←B3 84 n e,d c m,d b r];refine iw λi p=>?_
 split
 ·rename_i t;exact h i (bT.mp p) t
 ·rw[c,b]
theorem gv:ao 0=0:=uH _
theorem gu(v w:Nat):ao (v^^^w)=ao v^^^ao w:=vR _ _ _
theorem nw(i:Nat):ao (2^i)=mf.getD i 0:=vQ _ _
theorem GH(h:i<84):mf.getD i 0=gH (bW i) 1:=by
 unfold mf;rw[dO,fq,List.getElem?_range h];rfl
theorem OZ(h:i<84):ao (mf.getD i 0)=2^i/\mf.getD i 0<2^84/\∀k,k<84->(mf.getD i 0).testBit k=true->(bW k).sum=(bW i).sum:=by
 have q:=di.mp Nb i (bT.mpr h);simp only[gE] at q;refine⟨gV q.1.1,ik q.1.2,λk a t=>?_⟩;have:=di.mp q.2 k (bT.mpr a);rw[t] at this;have e:tT k=tT i:=gV (by simpa using this);unfold tT at e;have b:=zm (iu a).1.pos;have c:=zm (iu h).1.pos;lia
theorem p6(h:n<2^84):ao n<2^84:=by
 have d:∀l:List Nat,(∀i∈l,i<84)->ao (xr l λi=>if n.testBit i=true then 2^i else 0)<2^84:=λl=>by
  induction l with
  |nil=>intro _;show ao 0<_;rw[gv];decide
  |cons a l ih=>
   intro c;rw[gA,gu];refine Nat.xor_lt_two_pow ?_ (ih λi b=>c i (cr _ b));split
   ·rw[nw];exact(OZ (c a dS)).2.1
   ·rw[gv];decide
 have:=d (List.range 84) λi b=>bT.mp b
 rwa [B3 84 n h] at this
theorem twice{n:Nat}(h:n<2^84):ao (ao n)=n:=
 vO (f:=λn=>ao (ao n)) (g:=λn=>n) h (by rw[gv,gv]) (λv w=>by rw[gu,gu]) rfl (λ_ _=>rfl) λi a _=>by
  show ao (ao (2^i))=2^i;rw[nw,(OZ a).1]
theorem Cn(h:af r 16 6):nu r<2^84/\∀i,i<84->(nu r).testBit i=true->(bW i).sum=r.sum:=by
 have K:bt [r]:=⟨by simp,λx b=>by rw[fJ.mp b];exact h⟩
 have e:aZ [r]=nu r:=by show nu r^^^0=_;rw[jH]
 have s:=(BV K).sum r.sum λx b=>by rw[fJ.mp b]
 rw[e] at s;have c:nu r=cE (nu r) 1:=by
  have:=Qt (L:=[r]) (λx b=>by rw[fJ.mp b];exact h) 1;rw[e] at this;rw[this];show nu r=cY r 1^^^0;rw[jH];rfl
 refine⟨?_,λi a t=>s _ (K9 a t)⟩;rw[c];unfold cE dj;refine Cg λi a=>?_
 split
 ·have a:=bT.mp a;show nu (bW i)<_;rw[rb a];exact Nat.pow_lt_pow_right (by decide) a
 ·decide
theorem HR:∀{a:List Int},af a 16 16->Md (tn a) a.sum (gH a):=λ{a}=>by
 intro h;have all:∀n,n<=a.length->Md (tn (a.take n)) (a.take n).sum (gH (a.take n)):=λn=>by
  induction n with
  |zero=>
   intro _;have:=Md.nil;have e:tn (a.take 0)=[[]]:=by show cK (gH [] 1)=_;exact BQ.2.2
   rw[e];exact this
  |succ n ih=>
   intro l;have g:a[n]?=some a[n]:=dr (by lia);have j:=h.pos _ (l0 (show n<a.length by lia));have M:=ih (by lia);have d:(a.take (n+1)).sum+(a.drop (n+1)).sum=a.sum:=by rw[←gQ,kx]
   have p:=zm λx (b:x∈a.drop (n+1))=>h.pos x (pF b)
   have o:=zm λx (b:x∈a.take n)=>h.pos x (l5 b)
   have m:=h.sum;rw[zg g] at d ⊢;rw[gQ,List.sum_singleton] at d ⊢;have q:=M.ahead (k:=a[n].toNat) (by lia) (by lia);have i:((a[n].toNat:Nat):Int)=a[n]:=by lia
   have c:∀v,gH (a.take n++[a[n]]) v=cX (cS.getD a[n].toNat []) (gH (a.take n) v):=λv=>by unfold gH;rw[kr];rfl
   rw[i] at q;have f:tn (a.take n++[a[n]])=cK (aZ (ai (cS.getD a[n].toNat []) (tn (a.take n)))):=by
    unfold tn;rw[c,uq,uJ]
    congr 2
    exact(M.op 1).symm
   rw[f,show gH (a.take n++[a[n]])=_ from funext c];exact q
 have:=all a.length (bj _)
 rwa [eQ] at this
theorem wQ(h:af row 16 16)(v:Nat):gH row v=cE (gH row 1) v:=by
 rw[←(HR h).op v];exact uD _ _
theorem qS(h:af r 16 6):af r 16 16:=⟨h.pos,h.sum,by have:=h.len;lia⟩
theorem Lz{a n:Nat}(h:1<=a)(d:n<2^84)(e:∀i,i<84->n.testBit i=true->(a:Int)+(bW i).sum<=16)(c:a<=16):ao (fw a n)=cE (ao n) (pA a):=by
 refine vO (f:=λn=>ao (fw a n)) (g:=λn=>cE (ao n) (pA a)) d (by rw[vZ,gv]) (λv w=>by rw[vP,gu]) (by rw[gv];exact wm) (λv w=>by rw[gu];exact wb _ _) λi b t=>?_
 show ao (fw a (2^i))=cE (ao (2^i)) (pA a);have q:=di.mp (di.mp Lw (a-1) (bT.mpr (by lia))) i (bT.mpr b);unfold BF at q;rw[show a-1+1=a by lia,mO (by unfold tT;have:=e i b t;lia),cond_true] at q;rw[nw];unfold fw;rw[vQ];exact gV q
theorem uM:∀{r:List Int},af r 16 6->gH r 1=ao (nu r)
 |[],_=>by
  show 1=ao (2^0);rw[nw,GH (by decide)];rfl
 |a::r,h=>by
  have j:=h.pos a dS;have d:=h.sum;rw[kl] at d;have c:af r 16 6:=⟨λp e=>h.pos p (cr _ e),by lia,by have:=h.len;rw[dN] at this;lia⟩
  have g:=zm c.pos;have b:=Cn c;show gH r (cX (cS.getD a.toNat []) 1)=ao (fw a.toNat (nu r));rw[wQ (qS c),uM c,Lz (by lia) b.1 (λi f t=>by rw[b.2 i f t];lia) (by lia)]
  rfl
theorem GG(h:af r 16 6):gH r 1<2^84:=by rw[uM h];exact p6 (Cn h).1
theorem IY(h:af r 16 6):aZ (tn r)=ao (nu r):=by
 unfold tn;rw[rh (GG h),uM h]
theorem Qd:∀{a:List (List Int)},(∀r∈a,af r 16 6)->aZ (a.flatMap tn)=ao (aZ a)
 |[],_=>gv.symm
 |r::a,h=>by
  rw[sO,nP,IY (h r dS),Qd λx b=>h x (cr _ b)];exact(gu _ _).symm
theorem yu{L:List (List Int)}(h:∀r∈L,af r 16 6/\iq r):aQ L=cK (aZ L):=by
 have e:=BU (l:=aQ L) (λr a=>h r (jj a)) (zr L);rw[mm] at e;rw[←e];exact(FL (ze (aP L))).symm
theorem Ui(h:∀r∈a,af r 16 6):aQ (a.flatMap tn)=cK (ao (aZ a)):=by
 rw[yu λx b=>by
  obtain⟨r,c,b⟩:=ll.mp b
  exact oF b,Qd h]
theorem o7(h:∀r∈a,af r 16 6):aZ a<2^84:=Cg λr b=>(Cn (h r b)).1
theorem tX{x y:Nat}(h:nD x y)(m:x<2^84)(l:y<2^84):ao (cE x y)=cE (ao y) (ao x):=by
 refine vO (f:=λx=>ao (cE x y)) (g:=λx=>cE (ao y) (ao x)) m (by rw[show cE 0 y=0 from wm,gv]) (λv w=>by rw[show cE (v^^^w) y=cE v y^^^cE w y from wb _ _,gu]) (by rw[gv,Fs]) (λv w=>by rw[gu,E4]) λi b e=>?_
 show ao (cE (2^i) y)=cE (ao y) (ao (2^i));refine vO (f:=λy=>ao (cE (2^i) y)) (g:=λy=>cE (ao y) (ao (2^i))) l (by rw[Fs,gv]) (λv w=>by rw[E4,gu]) (by rw[gv];exact wm) (λv w=>by rw[gu];exact wb _ _) λk a c=>?_
 show ao (cE (2^i) (2^k))=cE (ao (2^k)) (ao (2^i));have j:=vW (iu b).1 (iu a).1 (iu b).2 (iu a).2 (h i k b a e c);have n:cE (2^i) (2^k)=nu (bW i++bW k):=by
  show dj _ (2^i)=_;rw[CD b,←rb a];exact(mr _ _ _).symm
 have d:gH (bW i++bW k) 1=gH (bW k) (gH (bW i) 1):=by unfold gH;rw[kr]
 rw[n,←uM j,d,wQ (qS (iu a).1),uM (iu b).1,uM (iu a).1,rb b,rb a]
end Tab
end Dd
namespace K16
end K16
namespace Dd
open L2 K13
theorem L7{r:Row}(b:r.length<=6)(a:r.sum<=16)(q:Q (.bl true) au):WP (oy [aL r] au) Q:=by
 refine fQ rfl ?_;simp only[W,V,M];refine⟨trivial,?_⟩;rw[if_pos (by rw[az];lia)];refine⟨r,rA r,trivial,?_⟩;rw[eK a];exact q
theorem QO(m:∀a∈d,∀b∈c,(a++b).length<=6/\(a++b).sum<=16)(A:d.length*c.length<=1000)(k:∀g,Q (aK (aQ (ai d c))) (au++g)):WP (nL [aK d,aK c] au) Q:=by
 refine fQ rfl ?_;simp only[W,V,Dd.N];refine fR (λi e s=>(∃v w u,e=[some (aK d),some (aK c),some (.ref au.length),v,w,u])/\s=au++[.dT (aS (aP (ai (d.take i) c)))]) ⟨⟨_,_,_,rfl⟩,rfl⟩ ?_ ?_
 ·rintro i y e s l ⟨⟨v,w,u,rfl⟩,rfl⟩;obtain⟨a,h,rfl⟩:=zu l;refine⟨_,rfl,?_⟩;simp only[W,V,Dd.N];have z:i<d.length:=(cn.mp h).1;have n:(aP (ai (d.take i) c)).length+c.length<=1000:=by
   have f:=zx (ai (d.take i) c);rw[wA] at f;have p:(d.take i).length=i:=by rw[fj];lia
   rw[p] at f;have x:(i+1)*c.length<=d.length*c.length:=Ow _ z;rw[Do] at x;lia
  refine fR (λj e s=>(∃w u,e=[some (aK d),some (aK c),some (.ref au.length),some (aL a),w,u])/\s=au++[.dT (aS (((c.take j).map (a++·)).foldl aR (aP (ai (d.take i) c))))]) ⟨⟨_,_,rfl⟩,rfl⟩ ?_ ?_
  ·rintro j y e s l ⟨⟨w,u,rfl⟩,rfl⟩;obtain⟨b,o,rfl⟩:=zu l;obtain⟨r,t⟩:=m a (db h) b (db o);refine⟨_,rfl,?_⟩;have q:D.tup (a.map D.int++b.map D.int)=aL (a++b):=by rw[aL,gC]
   simp only[W,V,L];refine⟨am _ (by rw[az,az,←cx];lia),?_⟩;rw[q];refine L7 r t ?_;simp only[Dd.N,W,V,L,Bool.not_true];have f:=Dh ((c.take j).map (a++·)) (aP (ai (d.take i) c)) (qi _);have p:(c.take j).length<=c.length:=by rw[fj];exact ko _ _
   rw[az] at f;refine vM (k:=a++b) (ks:=((c.take j).map (a++·)).foldl aR (aP (ai (d.take i) c))) (by simp) (by lia) ⟨⟨_,_,rfl⟩,?_⟩;rw[zg o,gC,kr];simp
  ·rintro e s ⟨⟨w,u,rfl⟩,rfl⟩;simp only[L];refine⟨⟨_,_,_,rfl⟩,?_⟩;rw[zd,eQ,zg h,RS];unfold aP;rw[kr]
 ·rintro e s ⟨⟨v,w,u,rfl⟩,rfl⟩;rw[zd,eQ];simp only[W,V];have f:=zx (ai d c);rw[wA] at f;refine CQ (ks:=aP (ai d c)) (by simp) (by lia) ?_;simp only[W,V];exact k _
end Dd
namespace K19
end K19
namespace Dd
open L2 K13
namespace Tab
def Dg(n:Nat) (d:Int):Prop:=∀i,i<84->n.testBit i=true->(bW i).sum<=d
theorem rJ{a:Type}{f:a->Nat}:∀{l:List a},(∀x∈l,Dg (f x) d)->Dg (xr l f) d
 |[],_,i,_,t=>by simp[xr] at t
 |x::l,h,i,hi,t=>by
  rw[gA,uZ] at t;by_cases c:(f x).testBit i=true
  ·exact h x dS i hi c
  ·simp[c] at t;exact rJ (λy b=>h y (cr _ b)) i hi t
theorem xX(h:∀r∈a,af r 16 6)(e:∀r∈a,r.sum<=d):Dg (aZ a) d:=rJ λr b i c t=>by
 rw[(Cn (h r b)).2 i c t];exact e r b
theorem Jo(h:n<2^84):ao n=dj (λi=>mf.getD i 0) n:=
 vO h gv gu wm wb λi a _=>by rw[nw,CD a]
theorem ul(h:n<2^84)(c:Dg n d):Dg (ao n) d:=by
 rw[Jo h];refine rJ λi a=>?_
 have a:=bT.mp a;split
 ·rename_i t;intro k e b;rw[(OZ a).2.2 k e b];exact c i a t
 ·intro k _ b;simp at b
theorem Dg.fit(g:Dg x d)(f:Dg y e)(h:d+e<=16):nD x y:=λi k j a c b=>by
 have:=g i j c;have:=f k a b;lia
theorem He(h:Dg n d):∀r∈cK n,r.sum<=d:=λr b=>by
 obtain⟨i,a,t,rfl⟩:=B2 b;exact h i a t
def cN(n:Nat):List cq:=aQ ((cK n).flatMap (bF [[]]))
def W7(l:List cq):Prop:=∀r∈l,∃s∈fB,r=aM s/\dc 1 s<=7
theorem EQ{b:List (List Int)}(h:∀r∈b,af r 16 6)(f:∀r∈b,r.sum<=7):W7 (aQ (b.flatMap (bF [[]]))):=λx d=>by
 obtain⟨r,c,d⟩:=ll.mp (jj d);obtain⟨a,_⟩:=uL (h r c).pos (h r c).sum;obtain⟨s,e,g,i⟩:=a x d;have:=f r c;exact⟨s,e,g,by lia⟩
theorem Rj:Nat.ble ((oq.filter λs=>Nat.ble (dc 1 s) 7).length) 40=true/\oq.length=84:=by decide +kernel
theorem BX(h:W7 l)(f:l.Nodup):l.length<=40:=by
 have:=ml f (m:=(oq.filter λs=>Nat.ble (dc 1 s) 7).map aM) λr c=>by
  obtain⟨s,d,rfl,e⟩:=h r c;refine cP.mpr ⟨s,fH.mpr ⟨?_,mO e⟩,rfl⟩;obtain⟨a,b⟩:=gW d;rw[←b];unfold eP;rw[dO];cases q:oq[ji s]? with
  |none=>rw[Sv,Rj.2] at q;lia
  |some x=>exact db q
 rw[az] at this;exact ay this (ik Rj.1)
theorem xN(i:W7 l)(g:W7 m):∀r∈l,∀s∈m,∃a sn,Pr r s a sn:=λr e s h=>by
 obtain⟨a,b,j,k⟩:=i r e;obtain⟨sn,c,f,n⟩:=g s h;have d:dc 1 a+dc 1 sn<=16:=by lia
 exact⟨a,sn,j,f,uz b,uz c,d,w8 b c d⟩
theorem QH(a:r∈fB)(c:s∈fB)(h:dc 1 r<=7)(g:dc 1 s<=7):(aN r s).all (ol (dc 1 r+dc 1 s))=true/\xr (aN r s) mn=cE (mn r) (mn s):=by
 obtain⟨d,f⟩:=gW a;obtain⟨e,b⟩:=gW c;have q:=di.mp (di.mp Mo _ (bT.mpr d)) _ (bT.mpr e);unfold AU at q;rw[f,b,mO h,mO g,Bool.and_self,cond_true,gE] at q;exact⟨q.1,gV q.2⟩
theorem yv{a:Type}(n:Nat)(f:a->Nat):∀L:List a,cE n (xr L f)=xr L λx=>cE n (f x)
 |[]=>Fs n
 |x::L=>by rw[gA,E4,yv n f L];rfl
def lD(l m:List cq):List cq:=l.flatMap λr=>m.flatMap (mk r)
theorem AQ(n:W7 l)(k:W7 m):CA (lD l m)/\nC (lD l m)=cE (nC l) (nC m):=by
 refine⟨λx a=>?_,?_⟩
 ·obtain⟨r,c,a⟩:=ll.mp a;obtain⟨s,f,a⟩:=ll.mp a;obtain⟨b,h,rfl,d⟩:=n r c;obtain⟨g,i,rfl,j⟩:=k s f;unfold mk at a;rw[h7,h7] at a;obtain⟨y,o,rfl⟩:=cP.mp a;exact⟨y,(sf (di.mp (QH h i d j).1 y o)).1,rfl⟩
 ·unfold nC lD;rw[ri];unfold cE;rw[vU];refine iw λr c=>?_
  obtain⟨b,h,rfl,d⟩:=n r c;show _=cE (mn (jZ (aM b))) _;rw[yv,ri,h7];refine iw λs f=>?_
  obtain⟨g,i,rfl,j⟩:=k s f;have e:mk (aM b) (aM g)=(aN b g).map aM:=by unfold mk;rw[h7,h7]
  rw[e,h7];exact(Ex _).trans (QH h i d j).2
theorem rE(h:n<2^84):CA (cN n)/\(cN n).Nodup/\nC (cN n)=n:=by
 obtain⟨a,b,c,d⟩:=Es λr (e:r∈cK n)=>(oF e).1
 exact⟨a.odd,zr _,by unfold cN;rw[oz,c,rh h]⟩
theorem wD{n:Nat}(a:Dg n 7):W7 (cN n):=EQ (λr b=>(oF b).1) (He a)
theorem kT(h:∀r∈a,af r 16 6)(b:a.length<=100)(k:∀g,Q (aK (cK (ao (aZ a)))) (au++g)):WP (hZ [aK a] au) Q:=
 Tp h b λg=>by rw[Ui h];exact k g
theorem FT(b:CA l)(c:l.Nodup)(k:∀g,Q (aK (cN (ao (nC l)))) (au++g)):WP (zy [aK l] au) Q:=by
 have a:∀r∈cK (nC l),af r 16 6:=λr h=>(oF h).1
 refine fQ rfl ?_;simp only[W,V,Dd.N];refine T9 b c λe=>?_
 refine kT a (by have:=qf (nC l);lia) λf=>?_
 rw[rh (rP b)];refine wy (λr h=>(oF h).1) (by have:=qf (ao (nC l));lia) λd=>?_
 rw[eh,eh];exact k _
theorem vT{K:Bool->aa->Prop}(k:K false s):WP (oj (aK a) (aK a) s) (bK K):=by
 refine WP.of (Kq (neg:=true) a a) ?_;rw[if_pos rfl,eK rfl];exact k
theorem rD(c:∀r∈a,af r 16 6)(e:a.Nodup)(j:a.length<=10) (k:∀s,QQ (.nx [S,v1,v2,v3,v4,v5,some (aK a),v7]) s):
  WP (Ch [S,v1,v2,v3,v4,v5,some (aK a),v7] au) QQ:=by
 have d:=o7 c;have b:∀n,∀r∈cK n,af r 16 6:=λn r h=>(oF h).1
 unfold Ch;simp only[W,V,Dd.N];refine kT c (by lia) λl=>?_
 refine kT (b _) (by have:=qf (ao (aZ a));lia) λm=>?_
 rw[rh (p6 d),twice d];refine Vc rfl c (by lia) λi=>?_
 refine vT ?_;rw[if_neg (by decide)];refine CY ⟨e,c⟩ λf=>?_
 refine kT (b _) (by have:=qf (aZ a);lia) λo=>?_
 rw[rh d];refine kT c (by lia) λg=>?_
 refine vT ?_;rw[if_neg (by decide)];exact k _
theorem Na:Nat.ble ((cR.filter λr=>decide (r.sum<=7)).length) 20=true:=by decide +kernel
theorem QE(h:Dg n 7):(cK n).length<=20:=by
 have:=ml (IW n) (m:=cR.filter λr=>decide (r.sum<=7)) λr b=>by
  obtain⟨i,a,t,rfl⟩:=B2 b;exact fH.mpr ⟨yC a,eK (h i a t)⟩
 exact ay this (ik Na)
theorem Mh(C:∀r∈d,af r 7 3)(n1:d.Nodup)(l1:d.length<=3)(E:∀r∈c,af r 7 3)(n2:c.Nodup)(l2:c.length<=3)(h3:∀r∈f,af r 12 6)(n3:f.Nodup)(l3:f.length<=3) (k:∀w T s,QQ (.nx [S,v1,v2,some (aK d),some (aK c),some (aK f),w,T]) s):
  WP ((aD (bz (aH (ip (aB (aA 3) (aB (aA 4) (aB (aA 5) aC))))) (gN 6) Ch)
 (aD (ft (eB (aU oj (aE hZ (aB (aE nL (aB (aA 3) (aB (aA 4) aC))) aC)) (aE nN (aB (aE nL (aB (aE hZ (aB (aA 4) aC)) (aB (aE hZ (aB (aA 3) aC)) aC))) aC)))) (aY (eC (.bl false))) fK)
 (aD (ft (eB (aU oj (aE hZ (aB (aE oA (aB (aA 3) (aB (aA 5) aC))) aC)) (aE oA (aB (aE hZ (aB (aA 3) aC)) (aB (aE hZ (aB (aA 5) aC)) aC))))) (aY (eC (.bl false))) fK)
 (aD (aF 7 (aE oB (aB (aE zy (aB (aE lc (aB (aA 4) aC)) aC)) (aB (aE zy (aB (aE lc (aB (aA 3) aC)) aC)) aC))))
 (ft (eB (aU oj (aE zy (aB (aE oB (aB (aE lc (aB (aA 3) aC)) (aB (aE lc (aB (aA 4) aC)) aC))) aC)) (aA 7))) (aY (eC (.bl false))) fK))))) [S,v1,v2,some (aK d),some (aK c),some (aK f),w,T] au) QQ:=by
 have up:∀{l:List (List Int)}{m:Int}{lg:Nat},m<=16->lg<=6->(∀r∈l,af r m lg)->∀r∈l,af r 16 6:=λhm a6 h r g=>⟨(h r g).pos,by have:=(h r g).sum;lia,by have:=(h r g).len;lia⟩
 have i:=up (by lia) (by lia) C;have o:=up (by lia) (by lia) E;have J:=up (by lia) (by lia) h3;have j:=o7 i;have p:=o7 o;have b3:=o7 J;have P:Dg (aZ d) 7:=xX i λr g=>(C r g).sum
 have Q:Dg (aZ c) 7:=xX o λr g=>(E r g).sum
 have u:nD (aZ d) (aZ c):=P.fit Q (by decide);have a1:nD (ao (aZ c)) (ao (aZ d)):=(ul p Q).fit (ul j P) (by decide);have a3:∀n,∀r∈cK n,af r 16 6:=λn r h=>(oF h).1
 have pr:∀r∈aQ (ai d c),af r 16 6:=λr g=>by
  obtain⟨a,y,b,v,rfl⟩:=CP (jj g);have A:=C a y;have B:=E b v;refine⟨λx hx=>(eO.mp hx).elim (A.pos x) (B.pos x),by rw[gQ];have:=A.sum;have:=B.sum;lia,by rw[cx];have:=A.len;have:=B.len;lia⟩
 have a2:aZ (aQ (ai d c))=cE (aZ d) (aZ c):=by
  rw[mm,uq,uJ,←Qt i,uq c]
 simp only[W,V,Dd.N];refine⟨by show 3<=sizeLine;decide,?_⟩;refine fR (λz σ s=>∃w:Option D,σ=[S,v1,v2,some (aK d),some (aK c),some (aK f),w,T]) ⟨_,rfl⟩ ?_ ?_
 ·rintro z x σ s hx ⟨w,rfl⟩;have hm:=db hx;simp only[bU,pq,o8] at hm;rcases hm with rfl|rfl|rfl
  ·exact⟨_,rfl,rD i n1 (by lia) λs=>⟨_,rfl⟩⟩
  ·exact⟨_,rfl,rD o n2 (by lia) λs=>⟨_,rfl⟩⟩
  ·exact⟨_,rfl,rD J n3 (by lia) λs=>⟨_,rfl⟩⟩
 ·rintro σ s ⟨w,rfl⟩;have s1:=QE (ul j P);have s2:=QE (ul p Q);have lp:=C1 (ai d c);rw[wA] at lp;have lm:d.length*c.length<=3*3:=N4 l1 l2;have b0:(cK (ao (aZ c))).length*(cK (ao (aZ d))).length<=20*20:=N4 s2 s1;simp only[W,V,Dd.N];refine QO (λa y b v=>⟨by rw[cx];have:=(C a y).len;have:=(E b v).len;lia,by rw[gQ];have:=(C a y).sum;have:=(E b v).sum;lia⟩) (by lia) λg1=>?_
  refine kT pr (by lia) λg2=>?_
  rw[a2];refine kT o (by lia) λg3=>?_
  refine kT i (by lia) λg4=>?_
  have fr:=L6 a1;refine QO (λa y b v=>?_) (by lia) λg5=>?_
  ·have:=fr (a++b) (ll.mpr ⟨a,y,cP.mpr ⟨b,v,rfl⟩⟩);exact⟨this.len,this.sum⟩
  refine CY ⟨zr _,λr g=>fr r (jj g)⟩ λg6=>?_
  rw[mm,uq (ai _ _),uJ,uD,uD,EB (p6 j),←tX u j p];refine vT ?_;rw[if_neg (by decide)]
  try simp only[W,V,Dd.N]
  refine EW (by lia) λg7=>?_
  have oa:∀r∈aQ (d++f),af r 16 6:=λr g=>(eO.mp (jj g)).elim (i r) (J r)
  have la:=C1 (d++f);rw[cx] at la;refine kT oa (by lia) λg8=>?_
  refine kT i (by lia) λg9=>?_
  refine kT J (by lia) λb7=>?_
  have e3:aQ (cK (ao (aZ d))++cK (ao (aZ f)))=cK (ao (aZ (aQ (d++f)))):=by
   rw[yu λr g=>(eO.mp g).elim oF oF,nP,rh (p6 j),rh (p6 b3),mm,nP,gu]
  refine EW (by have:=qf (ao (aZ d));have:=qf (ao (aZ f));lia) λb9=>?_
  rw[e3];refine vT ?_;rw[if_neg (by decide)]
  try simp only[W,V,Dd.N]
  obtain⟨X,_,I,_⟩:=Es i;obtain⟨a0,_,H,_⟩:=Es o;have R:=EQ i λr g=>(C r g).sum
  have Y:=EQ o λr g=>(E r g).sum
  have U:=wD (ul j P);have t2:=wD (ul p Q);obtain⟨_,u1,x1⟩:=rE (p6 j);obtain⟨_,u2,x2⟩:=rE (p6 p);refine wy o (by lia) λb6=>?_
  refine FT a0.odd (zr _) λb4=>?_
  rw[oz,H];refine wy i (by lia) λb8=>?_
  refine FT X.odd (zr _) λa4=>?_
  rw[oz,I];refine Fd (BX t2 u2) (BX U u1) (xN t2 U) λa7=>?_
  refine wy i (by lia) λa5=>?_
  refine wy o (by lia) λb5=>?_
  refine Fd (BX R (zr _)) (BX Y (zr _)) (xN R Y) λa9=>?_
  have t:=AQ R Y;have G:=AQ t2 U;have eX:nC (aQ (lD (aQ (d.flatMap (bF [[]]))) (aQ (c.flatMap (bF [[]])))))=cE (aZ d) (aZ c):=by
   rw[oz,t.2,oz,oz,I,H]
  have bo:cE (aZ d) (aZ c)<2^84:=by rw[←eX];exact rP t.1.odd
  refine FT (l:=aQ (lD (aQ (d.flatMap (bF [[]]))) (aQ (c.flatMap (bF [[]]))))) t.1.odd (zr _) λa8=>?_
  rw[eX,tX u j p];have bb:cE (ao (aZ c)) (ao (aZ d))<2^84:=by rw[←tX u j p];exact p6 bo
  obtain⟨y1,y2,y3⟩:=rE bb;have e:cN (cE (ao (aZ c)) (ao (aZ d)))=aQ (lD (cN (ao (aZ c))) (cN (ao (aZ d)))):=by
   have q:=Kl y1 G.1 (by rw[y3,G.2,x1,x2]);have q2:aQ (cN (cE (ao (aZ c)) (ao (aZ d))))=cN (cE (ao (aZ c)) (ao (aZ d))):=Ks _;rw[←q2];exact q
  rw[e];refine vT ?_;rw[if_neg (by decide)];exact k _ _ _
theorem k49_holds(ns:List Int)(hl:ns.length<=63)(au:aa):∃st',rC [.scr (ns.map .int)] au=.ok (.bl true) st':=by
 have:WP (rC [.scr (ns.map .int)] au) (λv _=>v=.bl true):=by
  refine fQ rfl ?_;simp only[W,V];have hle:((ns.map D.int).length:Int)<=63:=by rw[az];lia
  have hge:(0:Int)<=((ns.map D.int).length:Int):=by lia
  generalize ((ns.map D.int).length:Int)=len at hle hge;refine⟨_,rfl,f6 (by split<;>lia) (by split<;>lia),?_⟩;have h20:((if len<1 then len else 1)+1).toNat<=20:=by split<;>lia
  generalize ((if len<1 then len else 1)+1).toNat=c at h20;refine fR (λi σ s=>∃v1 v2 v3 v4 v5 v6 v7:Option D,σ=[some (.scr (ns.map .int)),v1,v2,v3,v4,v5,v6,v7]) ⟨_,_,_,_,_,_,_,rfl⟩ ?_ ?_
  ·rintro i x σ s hx ⟨v1,v2,v3,v4,v5,v6,v7,rfl⟩;obtain⟨hi,rfl⟩:=rg hx;refine⟨_,rfl,?_⟩;unfold P6;have draw:∀{s2:aa}{A m L:Int}{lg:Nat}{Q:D->aa->Prop},L=lg->lg<=100->0<=A->A<=3->0<=m->m<=16->dJ s2 s.length->(∀l s3,(∀r∈l,af r m lg)->l.Nodup->l.length<=3->dJ s3 s.length->Q (aK l) s3)->WP (ry [.ref s.length,.int A,.int m,.int L] s2) Q:=λeL hlg hA hA2 h0 h1 hb k=>by
    obtain⟨l,s4,e,hr,nd,hl,_,d2⟩:=Us eL hlg hA (by lia) hb h0 (by lia);exact WP.of e (k l s4 hr nd (by lia) d2.bag)
   refine uE (R:=λfl s2=>fl=.nx [some (.scr (ns.map .int)),some (.int (0+i)),some (.ref s.length),v3,v4,v5,v6,v7]/\dJ s2 s.length) ?_ ?_
   ·simp only[W,V];rw[qr];exact GS hl (by lia) λg hb=>⟨rfl,hb⟩
   rintro fl s2 ⟨rfl,hb⟩;show WP _ _;refine uE (R:=λfl s3=>∃one,fl=.nx [some (.scr (ns.map .int)),some (.int (0+i)),some (.ref s.length),some (aK one),v4,v5,v6,v7]/\(∀r∈one,af r 7 3)/\one.Nodup/\one.length<=3/\dJ s3 s.length) ?_ ?_
   ·simp only[W,V];exact draw (lg:=3) rfl (by decide) (by decide) (by decide) (by decide) (by decide) hb λl s3 a b c d=>⟨l,rfl,a,b,c,d⟩
   rintro fl s3 ⟨one,rfl,a1,a2,a3,hb3⟩;show WP _ _;refine uE (R:=λfl s3=>∃other,fl=.nx [some (.scr (ns.map .int)),some (.int (0+i)),some (.ref s.length),some (aK one),some (aK other),v5,v6,v7]/\(∀r∈other,af r 7 3)/\other.Nodup/\other.length<=3/\dJ s3 s.length) ?_ ?_
   ·simp only[W,V];exact draw (lg:=3) rfl (by decide) (by decide) (by decide) (by decide) (by decide) hb3 λl s3 a b c d=>⟨l,rfl,a,b,c,d⟩
   rintro fl s4 ⟨other,rfl,c1,c2,c3,hb4⟩;show WP _ _;refine uE (R:=λfl s3=>∃some3,fl=.nx [some (.scr (ns.map .int)),some (.int (0+i)),some (.ref s.length),some (aK one),some (aK other),some (aK some3),v6,v7]/\(∀r∈some3,af r 12 6)/\some3.Nodup/\some3.length<=3/\dJ s3 s.length) ?_ ?_
   ·simp only[W,V];exact draw (lg:=6) rfl (by decide) (by decide) (by decide) (by decide) (by decide) hb4 λl s3 a b c d=>⟨l,rfl,a,b,c,d⟩
   rintro fl s5 ⟨some3,rfl,e1,e2,e3,hb5⟩;show WP _ _;refine Mh a1 a2 a3 c1 c2 c3 e1 e2 e3 λv6 v7 s6=>?_
   simp only[L];exact⟨_,_,_,_,_,_,_,rfl⟩
  ·rintro σ s ⟨v1,v2,v3,v4,v5,v6,v7,rfl⟩;simp only[W]
 obtain⟨a,st',e,rfl⟩:=this.get;exact⟨st',e⟩
end Tab
end Dd
namespace K49
theorem holds:∀a:List Int,a.length<=63->∃st',Dd.rC [.scr (a.map .int)] []=.ok (.bl true) st':=λa b=>Dd.Tab.k49_holds a b _
end K49
namespace K49
open L2 Dd
noncomputable def top(i:Nat):Stmt:=PySem.Challenge.pw_raisedsums_k49_whole_turned_twice.main.body.getD i (.Pass ⟨0,0,0,0⟩)
theorem Uw{Y:En}(T:ah Y.K "_law_bag" (top 55))(e:Y.mg "len"=none)(a:Y.mg "abs"=none)(h:Y.mg "min"=none)(g:Y.mg "range"=none):Cl Y "_law_bag" 1 ["_law_script","_law_at"] wg:=dG ["_law_script","_law_at","_law_cell","_law_mix","_law_k"] T λb f i A c s H E d=>(zb (bX b zf)
 (zb (ie (iP (ut d.units0) ur sv (zj zt kh rfl e ki (aw sv)) (bm _)) (zc (bX b (zj Ly GP rfl a GT (aw (fV sv sv (λ_ _=>rfl)))))) iO)
 (zb (bX b (dE (eI jQ (cF λ_ _ _ _=>.int _) zf sv) zf))
 (zb (eM (oP rfl g (aw (zj (uO rfl) k6 rfl h uk (bS (zj zt kh rfl e ki (aw sv)) zf)))) (dD b)
 (zc (bX b (eI uv (cF λ_ _ _ _=>.int _) (dE (dE (eI jQ (cF λ_ _ _ _=>.int _) sv zf) (eI uv (cF λ_ _ _ _=>.int _) (fV sv sv (λ_ _=>rfl)) zf)) sv) zf))))
 (zb (ie (iP (ut d.units0) ur sv (eI Ii (cF λ_ _ _ _=>.int _) zf zf) (bm _)) (zc (bX b zf)) iO)
 (zc (zl (kQ (bS sv sv)))))))))
theorem Ux{Y:En}(T:ah Y.K "_law_odd" (top 57))(d:Y.mg "sorted"=none)(g:Y.mg "tuple"=none):Cl Y "_law_odd" 1 ["_law_things"] oO:=dG ["_law_things","_law_odd_here","_law_thing"] T λc f e A b s H E a=>(zb (bX c qb)
 (zb (eM (fo sv) (dD c)
 (zc (Cq (iS a) sv sv (xb (LH (iS a) sv sv nH ⟨rfl,rfl,rfl,rfl⟩)) rfl)))
 (zc (zl (lU mC mo rfl g lS (aw (zj (oX rfl a.units) oJ rfl d oK (aw (uA rfl (LN sv) (λ_ _ _ _ _=>(lT (i:=0) (show(["_law_thing","_law_odd_here"]:List Str).Nodup from by decide +kernel) rfl (Or.inl rfl))) (λ_ _ _ _ _=>(E2 (nK (Js (iS a) sv sv (λ_ _=>rfl))))) (λ_ _ _ _ _=>sv) (N:=["_law_thing","_law_odd_here"]) (k:=1) (is:=[1]) (qa (by rfl)))))))))))
theorem UR{Y:En}(T:ah Y.K "_law_take" (top 56)): Cl Y "_law_take" 1 ["_law_bag_here","_law_many"] lV:=dG ["_law_bag_here","_law_many","_law_digit","_law_number","_law_room"] T λa f d A b s H E c=>(zb (ie (iP my (kg λ_ _ _ _=>.bl _) (fV sv zf (λ_ _=>rfl)) zf (bm _)) (zb (bX a (eI uv (cF λ_ _ _ _=>.int _) (fV sv zf (λ_ _=>rfl)) sv))
 (zb (Q1 (eI Cz (cF λ_ _ _ _=>.int _) (fV sv zf (λ_ _=>rfl)) sv) sv zf)
 (zc (zl sv)))) iO)
 (zb (bX a zf)
 (zb (bX a zf)
 (zb (wj u6 (iP (ut c.units0) ur sv sv (bm _)) (zb (Q1 (eI uv (cF λ_ _ _ _=>.int _) (dE (eI jQ (cF λ_ _ _ _=>.int _) (fV sv zf (λ_ _=>rfl)) zf) zf) zf) sv zf)
 (zb (bX a (dE (eI jQ (cF λ_ _ _ _=>.int _) sv zf) (eI uv (cF λ_ _ _ _=>.int _) (eI jQ (cF λ_ _ _ _=>.int _) (eI Cz (cF λ_ _ _ _=>.int _) (fV sv zf (λ_ _=>rfl)) zf) zf) zf)))
 (zc (bX a (eI jQ (cF λ_ _ _ _=>.int _) sv zf))))))
 (zc (zl (eI uv (cF λ_ _ _ _=>.int _) sv sv)))))))
theorem Uy{Y:En}(T:ah Y.K "_law_row" (top 58))(g:Y.mg "range"=none)(e:Y.mg "min"=none)(i:Y.mg "tuple"=none)(c:Cl Y "_law_take" 1 ["_law_bag_here","_law_many"] lV):Cl Y "_law_row" 2 ["_law_bag_here","_law_most","_law_long"] wh:=dG ["_law_bag_here","_law_most","_law_long","_law_row_here","_law_left","_law_k"] T λa f h A d s H E b=>(zb (bX a (kQ jg))
 (zb (bX a sv)
 (zb (eM (oP rfl g (aw (bx c b (bS sv (dE sv zf))))) (dD a)
 (zc (ie (iP my (kg λ_ _ _ _=>.bl _) sv zf (bm _)) (zb (gq (nO sv (aw (dE zf (bx c b (bS sv (fV (o0 (iy sv (bS (zj (uO rfl) k6 rfl e uk (bS sv zf)) (zj (uO rfl) k6 rfl e uk (bS sv zf))))) (bx c b (bS sv zf)) (λ_ _=>rfl))))))))
 (zc (bX a (ic sv (fV sv (o5 zf) (λ_ _=>rfl)))))) iO)))
 (zc (zl (lU mC mo rfl i lS (aw sv)))))))
theorem UQ{Y:En}(T:ah Y.K "_law_rows" (top 59))(c:Y.mg "range"=none)(h:Cl Y "_law_odd" 1 ["_law_things"] oO)(g:Cl Y "_law_take" 1 ["_law_bag_here","_law_many"] lV)(e:Cl Y "_law_row" 2 ["_law_bag_here","_law_most","_law_long"] wh):Cl Y "_law_rows" 3 ["_law_bag_here","_law_many","_law_most","_law_long"] ry:=dG ["_law_bag_here","_law_many","_law_most","_law_long"] T λi f d A b s H E a=>(zc (zl (bx h a (aw (tw ["_law_k","_law_bag_here","_law_most","_law_long"] (oP rfl c (aw (bx g a (bS sv (dE sv zf))))) (λ_ _ _ _ _=>(bx e a (iy sv (bS sv sv)))))))))
theorem TZ{Y:En}(T:ah Y.K "changed" (top 22)): Cl Y "changed" 1 ["numbers","place","by"] ro:=dG ["numbers","place","by"] T λd f b A a s H E c=>(zc (zl (dE (dE (jR sv rj (rk sv)) (gz (aw (dE (fV sv sv (λ_ _=>rfl)) sv)))) (jR sv (rk (dE sv zf)) rj))))
theorem Vk{Y:En}(T:ah Y.K "place_filled" (top 23))(g:Y.mg "min"=none)(e:Y.mg "range"=none)(d:Cl Y "changed" 1 ["numbers","place","by"] ro):Cl Y "place_filled" 2 ["partly","i","j"] Df:=dG ["partly","i","j","slope","told","slopes","columns","left","x"] T λa f h A c s H E b=>(zb (bX a (ic (dE sv sv) zf))
 (zb (bX a (kQ jg))
 (zb (eM (fo sv) (oE rfl (iz (dD a) (iz (dD a) (iz (dD a) oG))))
 (zc (eM (oP rfl e (aw (dE (zj (uO rfl) k6 rfl g uk (bS (fV sv (ic sv zf) (λ_ _=>rfl)) (eI Ik (cF λ_ _ _ _=>.int _) sv sv))) zf))) (dD a)
 (zc (ie (iP (rc b.units) lO (eI vG (kg λ_ _ _ _=>.int _) (fV sv sv (λ_ _=>rfl)) sv) zf (bm _)) (zc (gq (nO sv (aw (gz (iy (bx d b (iy sv (bS sv sv))) (bS (bx d b (iy sv (bS (ic sv zf) (o5 sv)))) (ic sv (eI Ij (cF λ_ _ _ _=>.int _) sv sv))))))))) iO)))))
 (zc (zl (jl sv))))))
theorem Vf{Y:En}(T:ah Y.K "line_filled" (top 24))(e:Y.mg "range"=none)(d:Cl Y "place_filled" 2 ["partly","i","j"] Df)(h:Cl Y "changed" 1 ["numbers","place","by"] ro):Cl Y "line_filled" 3 ["partly","i","number","width"] C9:=dG ["partly","i","number","width","filled","j","told","slopes","columns","left"] T λa f g A c s H E b=>(zb (Qj (i:=4) rfl a rfl (Or.inl rfl) (fo sv) (λ_ _ _ _ _=>(oE rfl (iz (lT (i:=0) (show(["slopes","columns","number"]:List Str).Nodup from by decide +kernel) rfl (Or.inl rfl)) (iz (lT (i:=1) (show(["slopes","columns","number"]:List Str).Nodup from by decide +kernel) rfl (Or.inl rfl)) oG)))) (λ_ _ _ _ _=>vY) (λ_ _ _ _ _=>(gz (iy sv (bS sv sv)))) (N:=["slopes","columns","number"]) (k:=2) (is:=[2]) (qa (by rfl)))
  (zb (eM (FE rfl e (bS zf (dE sv zf))) (dD a)
  (zc (bX a (bx d b (iy sv (bS sv sv))))))
  (zb (bX a (kQ jg))
  (zb (eM (fo sv) (oE rfl (iz (dD a) (iz (dD a) (iz (dD a) oG))))
  (zc (ie (iP (rc b.units) lO (eI vG (kg λ_ _ _ _=>.int _) (fV sv (ic sv zf) (λ_ _=>rfl)) sv) zf (bm _)) (zc (gq (nO sv (aw (gz (bS (bx h b (iy sv (bS (ic sv zf) sv))) sv)))))) iO)))
  (zc (zl (jl sv)))))))
theorem Vs{Y:En}(T:ah Y.K "without_noughts" (top 20))(a:Y.mg "list"=none)(e:Y.mg "tuple"=none):Cl Y "without_noughts" 1 ["numbers"] Dk:=dG ["numbers","told"] T λg f d A b s H E c=>(zb (bX g (lU UK Lp rfl a Jk (aw sv)))
 (zb (wj u6 (JW.pt (JY (nK sv) (Er (iP (rc c.units) lO (fV sv (o5 zf) (λ_ _=>rfl)) zf (bm _)) (by first|exact Or.inl rfl|exact Or.inr rfl)))) (zc (gq (Ha sv))))
 (zc (zl (lU mC mo rfl e lS (aw sv))))))
theorem U7{Y:En}(T:ah Y.K "top_filled" (top 25))(d:Y.mg "len"=none)(a:Y.mg "zip"=none)(g:Y.mg "all"=none)(j:Y.mg "tuple"=none):Cl Y "top_filled" 1 ["partly"] C6:=dG ["partly","told","slopes","columns","top"] T λb f h A c s H E e=>(zb (bX b (kQ jg))
 (zb (eM (fo sv) (oE rfl (iz (dD b) (iz (dD b) oG)))
 (zb (bX b (dE sv (eI EE EA (gz (aw zf)) (ic (zj zt kh rfl d ki (aw sv)) (zj zt kh rfl d ki (aw sv))))))
 (zc (ie (nK (zj (Qa rfl) wX rfl g wZ (aw (uA rfl (xZ rfl a (bS sv sv)) (λ_ _ _ _ _=>(oE rfl (iz (lT (i:=0) (show(["slope","x"]:List Str).Nodup from by decide +kernel) rfl (Or.inl rfl)) (iz (lT (i:=1) (show(["slope","x"]:List Str).Nodup from by decide +kernel) rfl (Or.inl rfl)) oG)))) (λ_ _ _ _ _=>vY) (λ_ _ _ _ _=>(vE (rc e.units) lO (eI vG (kg λ_ _ _ _=>.int _) sv sv) zf (bm _))) (N:=["slope","x"]) (k:=2) (is:=[]) (qa (by rfl)))))) (zc (gq (nO sv (aw (lU mC mo rfl j lS (aw (uA rfl (xZ rfl a (bS sv sv)) (λ_ _ _ _ _=>(oE rfl (iz (lT (i:=0) (show(["slope","x"]:List Str).Nodup from by decide +kernel) rfl (Or.inl rfl)) (iz (lT (i:=1) (show(["slope","x"]:List Str).Nodup from by decide +kernel) rfl (Or.inl rfl)) oG)))) (λ_ _ _ _ _=>vY) (λ_ _ _ _ _=>(dE sv sv)) (N:=["slope","x"]) (k:=2) (is:=[]) (qa (by rfl))))))))) iO))))
 (zc (zl (jl sv)))))
theorem Vr{Y:En}(T:ah Y.K "made_by_tables" (top 26))(c:Y.mg "len"=none)(e:Y.mg "enumerate"=none)(j:Cl Y "line_filled" 3 ["partly","i","number","width"] C9)(g:Cl Y "top_filled" 1 ["partly"] C6)(i:Cl Y "without_noughts" 1 ["numbers"] Dk):Cl Y "made_by_tables" 4 ["r","s"] Dj:=dG ["r","s","partly","i","number"] T λa f h A d s H E b=>(zb (bX a (o0 (aw (gz (bS (eI EE EA (gz (aw zf)) (dE (zj zt kh rfl c ki (aw sv)) (zj zt kh rfl c ki (aw sv)))) sv)))))
 (zb (eM (Q0 rfl e sv) (oE rfl (iz (dD a) (iz (dD a) oG)))
 (zc (bX a (bx j b (iy sv (iy sv (bS sv (zj zt kh rfl c ki (aw sv)))))))))
 (zc (zl (tw ["numbers"] (fo (bx g b (aw sv))) (λ_ _ _ _ _=>(bx i b (aw sv))))))))
theorem Kv{Y:En}(T:ah Y.K "flip" (top 7)): Cl Y "flip" 1 ["kept","thing"] gP:=dG ["kept","thing"] T λd f c A b s H E a=>(zc (ie (Hr (xF (iS a) sv sv)) (zc (gq (Jt (iS a) sv sv ⟨rfl,rfl,rfl,rfl⟩))) (zc (Cq (iS a) sv sv nH rfl))))
theorem UT{Y:En}(T:ah Y.K "raises_by" (top 19)): Cl Y "raises_by" 1 ["numbers"] wq:=dG ["numbers","told","weight","number"] T λa f c A b s H E d=>(zb (bX a zf)
 (zb (bX a zf)
 (zb (eM (fo sv) (dD a)
 (zb (JM (i:=1) a rfl (Or.inl rfl) (eI jQ (cF λ_ _ _ _=>.int _) sv sv) HB Pp)
 (zc (bX a (dE (eI jQ (cF λ_ _ _ _=>.int _) zf sv) zf)))))
 (zc (zl sv)))))
theorem MA{Y:En}(T:ah Y.K "times" (top 27))(h:Y.mg "sorted"=none)(j:Y.mg "tuple"=none) (a:Y.mg "MOST_RAISED"=some (.int 16 Bs))(e:Cl Y "raises_by" 1 ["numbers"] wq)(k:Cl Y "made_by_tables" 4 ["r","s"] Dj)(g:Cl Y "flip" 1 ["kept","thing"] gP):Cl Y "times" 5 ["one","other"] oB:=dG ["one","other","kept","r","s","made"] T λc f i A d s H E b=>(zb (bX c qb)
 (zb (eM (fo sv) (dD c)
 (zc (eM (fo sv) (dD c)
 (zb (ie (iP my (kg λ_ _ _ _=>.bl _) (dE (bx e b (aw sv)) (bx e b (aw sv))) (ra (B9 (v:=.int 16) rfl a ⟨_,rfl⟩) (λ_ _=>.int _)) (bm _)) (zc CK) iO)
 (zc (eM (fo (bx k b (bS sv sv))) (dD c)
 (zc (gq (bx g b (bS sv sv))))))))))
 (zc (zl (lU mC mo rfl j lS (aw (zj (oX rfl b.units) oJ rfl h oK (aw sv))))))))
theorem UU{Y:En}(T:ah Y.K "rows_kept" (top 41)): Cl Y "rows_kept" 1 ["rows"] CZ:=dG ["rows","kept","row"] T λb f d A a s H E c=>(zb (bX b qb)
 (zb (eM (fo sv) (dD b)
 (zc (Cq (iS c) sv sv nH rfl)))
 (zc (zl sv))))
theorem UC{Y:En}(T:ah Y.K "odd_ways" (top 10)): Cl Y "odd_ways" 1 ["e","k"] CT:=dG ["e","k"] T λd f c A a s H E b=>(zc (zl (vE (rc b.units) lO (eI vG (kg λ_ _ _ _=>.int _) sv sv) sv (bm _))))
theorem Vm{Y:En}(T:ah Y.K "rows_for_two" (top 36))(g:Y.mg "range"=none)(e:Y.mg "sorted"=none)(d:Cl Y "odd_ways" 1 ["e","k"] CT):Cl Y "rows_for_two" 2 ["a","b"] wB:=dG ["a","b","told","c"] T λc f h A a s H E b=>(zb (bX c (kQ jg))
 (zb (eM (oP rfl g (aw (dE (eI Cz (cF λ_ _ _ _=>.int _) sv zf) zf))) (dD c)
 (zc (ie (nK (bx d b (bS (ic (ic sv sv) zf) (ic sv (eI jQ (cF λ_ _ _ _=>.int _) zf sv))))) (zc (gq (nO sv (aw (F1 (iP my (kg λ_ _ _ _=>.bl _) sv zf (bm _)) (gz (bS (ic (dE sv sv) sv) sv)) (gz (aw (dE sv sv)))))))) iO)))
 (zc (zl (zj (oX rfl b.units) oJ rfl e oK (aw sv))))))
theorem Vl{Y:En}(T:ah Y.K "rows_for_row" (top 37))(e:Cl Y "rows_for_two" 2 ["a","b"] wB):Cl Y "rows_for_row" 3 ["row","place"] rR:=dG ["row","place","ahead","rest"] T λb f d A a s H E c=>(zb (bX b (jR sv rj (rk sv)))
 (zb (bX b (jR sv (rk (dE sv zf)) rj))
 (zc (zl (tw ["two","rest","ahead"] (fo (bx e c (bS (fV sv sv (λ_ _=>rfl)) (fV sv (dE sv zf) (λ_ _=>rfl))))) (λ_ _ _ _ _=>(dE (dE sv sv) sv)))))))
theorem UA{Y:En}(T:ah Y.K "is_whole" (top 6))(a:Y.mg "bool"=none)(d:Y.mg "isinstance"=none)(b:Y.mg "int"=none):Cl Y "is_whole" 1 ["thing"] oN:=dG ["thing"] T λh f e A c s H E g=>(zc (zl (oZ (zj FI Fh rfl d FQ (bS sv (ra (EH (v:=.ty "int") rfl b GV rfl) (λ_ _=>.ty _)))) (r8 (xb (zj FI Fh rfl d FQ (bS sv (ra (EH (v:=.ty "bool") rfl a Jj rfl) (λ_ _=>.ty _)))))))))
theorem UV{Y:En}(T:ah Y.K "stands_in" (top 38))(c:Y.mg "all"=none)(e:Y.mg "tuple"=none)(h:Y.mg "isinstance"=none)(g:Cl Y "is_whole" 1 ["thing"] oN):Cl Y "stands_in" 2 ["kept","row"] wu:=dG ["kept","row"] T λi f d A a s H E b=>(zc (zl (oZ (zj FI Fh rfl h FQ (bS sv (ra (EH (v:=.ty "tuple") rfl e lS rfl) (λ_ _=>.ty _)))) (oZ (zj (Qa rfl) wX rfl c wZ (aw (tw ["part"] (fo sv) (λ_ _ _ _ _=>(bx g b (aw sv)))))) (r8 (F2 (xF (iS b) sv sv)))))))
theorem Vi{Y:En}(T:ah Y.K "falls_slowly" (top 35)): Cl Y "falls_slowly" 1 ["a","b"] Dc:=dG ["a","b"] T λd f c A a s H E b=>(zc (zl (vE (ut b.units0) ur sv (eI jQ (cF λ_ _ _ _=>.int _) zf sv) (bm _))))
theorem Uz{Y:En}(T:ah Y.K "is_place" (top 39))(e:Y.mg "len"=none)(g:Cl Y "is_whole" 1 ["thing"] oN)(d:Cl Y "falls_slowly" 1 ["a","b"] Dc):Cl Y "is_place" 2 ["row","place"] oM:=dG ["row","place"] T λh f c A b s H E a=>(zb (ie (JW.pt (xg (vL (nK (bx g a (aw sv)))) (Er (vL (ND rQ (ut a.units0) (kg λ_ _ _ _=>.bl _) ur zf sv (ic (zj zt kh rfl e ki (aw sv)) zf))) (by first|exact Or.inl rfl|exact Or.inr rfl)))) (zc (zl nH)) iO)
 (zc (zl (bx d a (bS (fV sv sv (λ_ _=>rfl)) (fV sv (dE sv zf) (λ_ _=>rfl)))))))
theorem Vd{Y:En}(T:ah Y.K "exchange_in" (top 40))(g:Cl Y "stands_in" 2 ["kept","row"] wu)(d:Cl Y "is_place" 2 ["row","place"] oM)(c:Cl Y "flip" 1 ["kept","thing"] gP)(e:Cl Y "rows_for_row" 3 ["row","place"] rR):Cl Y "exchange_in" 4 ["kept","row","place"] C7:=dG ["kept","row","place","made"] T λi f h A b s H E a=>(zb (ie (vL (nK (bx g a (bS sv sv)))) (zc CK) iO)
 (zb (ie (vL (nK (bx d a (bS sv sv)))) (zc CK) iO)
 (zb (gq (bx c a (bS sv sv)))
 (zc (eM (fo (bx e a (bS sv sv))) (dD i)
 (zc (gq (bx c a (bS sv sv)))))))))
theorem SX{Y:En}(T:ah Y.K "walked" (top 47))(e:Y.mg "sorted"=none)(h:Y.mg "tuple"=none)(i:Cl Y "rows_kept" 1 ["rows"] CZ)(d:Cl Y "exchange_in" 4 ["kept","row","place"] C7):Cl Y "walked" 5 ["rows","steps"] CJ:=dG ["rows","steps","kept","row","place"] T λc f g A b s H E a=>(zb (bX c (bx i a (aw sv)))
 (zb (eM (fo sv) (oE rfl (iz (dD c) (iz (dD c) oG)))
 (zc (gq (bx d a (iy sv (bS sv sv))))))
 (zc (zl (lU mC mo rfl h lS (aw (zj (oX rfl a.units) oJ rfl e oK (aw sv))))))))
theorem SU{Y:En}(T:ah Y.K "moment" (top 44))(b:Y.mg "enumerate"=none)(d:Y.mg "sum"=none):Cl Y "moment" 1 ["row"] uF:=dG ["row"] T λg f c A a s H E e=>(zc (zl (zj (Fj rfl) rT rfl d rV (aw (uA rfl (Q0 rfl b sv) (λ_ _ _ _ _=>(oE rfl (iz (lT (i:=0) (show(["number","part"]:List Str).Nodup from by decide +kernel) rfl (Or.inl rfl)) (iz (lT (i:=1) (show(["number","part"]:List Str).Nodup from by decide +kernel) rfl (Or.inl rfl)) oG)))) (λ_ _ _ _ _=>vY) (λ_ _ _ _ _=>(eI jQ (cF λ_ _ _ _=>.int _) sv sv)) (N:=["number","part"]) (k:=2) (is:=[]) (qa (by rfl)))))))
theorem U3{Y:En}(T:ah Y.K "flip_level" (top 45))(c:Cl Y "flip" 1 ["kept","thing"] gP)(e:Cl Y "moment" 1 ["row"] uF):Cl Y "flip_level" 2 ["levels","row"] wx:=dG ["levels","row"] T λg f d A a s H E b=>(zc (gq (bx c b (bS (LK sv (bS (bx e b (aw sv)) qb)) sv))))
theorem SV{Y:En}(T:ah Y.K "places" (top 43))(g:Y.mg "len"=none)(d:Y.mg "range"=none)(c:Cl Y "is_place" 2 ["row","place"] oM):Cl Y "places" 3 ["row"] Ci:=dG ["row"] T λh f e A a s H E b=>(zc (zl (uA rfl (oP rfl d (aw (ic (zj zt kh rfl g ki (aw sv)) zf))) (λ_ _ _ _ _=>(lT (i:=0) (show(["place","row"]:List Str).Nodup from by decide +kernel) rfl (Or.inl rfl))) (λ_ _ _ _ _=>(E2 (nK (bx c b (bS sv sv))))) (λ_ _ _ _ _=>sv) (N:=["place","row"]) (k:=1) (is:=[0]) (qa (by rfl)))))
theorem Ia{Y:En}(T:ah Y.K "way" (top 46))(e:Y.mg "max"=none)(h:Y.mg "sorted"=none)(d:Cl Y "flip_level" 2 ["levels","row"] wx)(j:Cl Y "places" 3 ["row"] Ci)(g:Cl Y "rows_for_row" 3 ["row","place"] rR):Cl Y "way" 4 ["rows"] oR:=dG ["rows","levels","row","steps","level","slow","made"] T λa f i A c s H E b=>(zb (bX a LI)
 (zb (eM (fo sv) (dD a)
 (zc (gq (bx d b (bS sv sv)))))
 (zb (bX a (kQ jg))
 (zb (wj u6 (LY sv) (zb (bX a (Jw sv (aw (zj (TH rfl) Ji rfl e GW (aw sv)))))
 (zc (eM (fo (zj (oX rfl b.units) oJ rfl h oK (aw sv))) (dD a)
 (zb (bX a (bx j b (aw sv)))
 (zc (ie (nK sv) (zb (gq (nO sv (aw (gz (bS sv (fV sv zf (λ_ _=>rfl)))))))
 (zc (eM (fo (bx g b (bS sv (fV sv zf (λ_ _=>rfl))))) (dD a)
 (zc (gq (bx d b (bS sv sv))))))) iO)))))))
 (zc (zl (jl sv)))))))
theorem T5{Y:En}(T:ah Y.K "settled" (top 48))(e:Cl Y "walked" 5 ["rows","steps"] CJ)(a:Cl Y "way" 4 ["rows"] oR):Cl Y "settled" 6 ["rows"] nN:=dG ["rows"] T λg f d A b s H E c=>(zc (zl (bx e c (bS sv (bx a c (aw sv))))))
theorem Vj{Y:En}(T:ah Y.K "parts_turned" (top 50))(c:Y.mg "range"=none)(h:Y.mg "tuple"=none)(g:Cl Y "settled" 6 ["rows"] nN):Cl Y "parts_turned" 7 ["most"] De:=dG ["most","told","k","rows","i"] T λa f e A b s H E d=>(zb (bX a (kQ (aw (gz (aw (gz jg))))))
 (zb (eM (FE rfl c (bS zf (dE sv zf))) (dD a)
 (zb (bX a (kQ jg))
 (zb (eM (FE rfl c (bS zf (dE sv zf))) (dD a)
 (zc (gq (QX sv (aw (tw ["rest","i"] (fo (fV sv (ic sv sv) (λ_ _=>rfl))) (λ_ _ _ _ _=>(dE (gz (aw sv)) sv))))))))
 (zc (gq (nO sv (aw (bx g d (aw (lU mC mo rfl h lS (aw sv)))))))))))
 (zc (zl (jl sv)))))
theorem UB{Y:En}(T:ah Y.K "odd_ones" (top 8))(e:Y.mg "sorted"=none)(h:Y.mg "tuple"=none)(d:Cl Y "flip" 1 ["kept","thing"] gP):Cl Y "odd_ones" 2 ["things"] CS:=dG ["things","kept","thing"] T λc f g A a s H E b=>(zb (bX c qb)
 (zb (eM (fo sv) (dD c)
 (zc (gq (bx d b (bS sv sv)))))
 (zc (zl (lU mC mo rfl h lS (aw (zj (oX rfl b.units) oJ rfl e oK (aw sv))))))))
theorem U6{Y:En}(T:ah Y.K "rows_added" (top 15))(c:Cl Y "odd_ones" 2 ["things"] CS):Cl Y "rows_added" 3 ["one","other"] oA:=dG ["one","other"] T λe f d A a s H E b=>(zc (zl (bx c b (aw (dE sv sv)))))
theorem Ku{Y:En}(T:ah Y.K "fits" (top 14))(d:Y.mg "sum"=none)(g:Y.mg "len"=none) (a:Y.mg "MOST_RAISED"=some (.int 16 Bs)) (b:Y.mg "MOST_PARTS"=some (.int 6 k_MOST_PARTS)):Cl Y "fits" 1 ["row"] oy:=dG ["row"] T λi f e A c s H E h=>(zc (zl (oZ (vE rQ (kg λ_ _ _ _=>.bl _) (zj zt kh rfl g ki (aw sv)) (ra (B9 (v:=.int 6) rfl b ⟨_,rfl⟩) (λ_ _=>.int _)) (bm _)) (r8 (vE rQ (kg λ_ _ _ _=>.bl _) (zj (Fj rfl) rT rfl d rV (aw sv)) (ra (B9 (v:=.int 16) rfl a ⟨_,rfl⟩) (λ_ _=>.int _)) (bm _))))))
theorem SR{Y:En}(T:ah Y.K "behind" (top 16))(g:Y.mg "sorted"=none)(i:Y.mg "tuple"=none)(a:Cl Y "fits" 1 ["row"] oy)(e:Cl Y "flip" 1 ["kept","thing"] gP):Cl Y "behind" 2 ["one","other"] nL:=dG ["one","other","kept","first","second","row"] T λb f h A d s H E c=>(zb (bX b qb)
 (zb (eM (fo sv) (dD b)
 (zc (eM (fo sv) (dD b)
 (zb (bX b (dE sv sv))
 (zb (ie (vL (nK (bx a c (aw sv)))) (zc CK) iO)
 (zc (gq (bx e c (bS sv sv)))))))))
 (zc (zl (lU mC mo rfl i lS (aw (zj (oX rfl c.units) oJ rfl g oK (aw sv))))))))
theorem U5{Y:En}(T:ah Y.K "row_turned" (top 51))(h:Y.mg "reversed"=none)(g:Cl Y "settled" 6 ["rows"] nN)(e:Cl Y "behind" 2 ["one","other"] nL):Cl Y "row_turned" 7 ["row","parts"] C5:=dG ["row","parts","made","part"] T λb f d A a s H E c=>(zb (bX b (gz (aw (gz jg))))
 (zb (eM (xY rfl h sv) (dD b)
 (zc (bX b (bx g c (aw (bx e c (bS sv (fV sv sv (λ_ _=>rfl)))))))))
 (zc (zl sv))))
theorem SW{Y:En}(T:ah Y.K "turned" (top 52))(h:Y.mg "sum"=none)(e:Y.mg "max"=none)(j:Cl Y "parts_turned" 7 ["most"] De)(g:Cl Y "rows_added" 3 ["one","other"] oA)(d:Cl Y "row_turned" 7 ["row","parts"] C5):Cl Y "turned" 8 ["rows"] hZ:=dG ["rows","parts","told","row"] T λa f i A c s H E b=>(zb (bX a (bx j b (aw (Ju rfl rfl e (aw (tw ["row"] (fo sv) (λ_ _ _ _ _=>(zj (Fj rfl) rT rfl h rV (aw sv)))))))))
 (zb (bX a (gz jg))
 (zb (eM (fo sv) (dD a)
 (zc (bX a (bx g b (bS sv (bx d b (bS sv sv)))))))
 (zc (zl sv)))))
theorem Vo{Y:En}(T:ah Y.K "counts_of_row" (top 29))(d:Cl Y "times" 5 ["one","other"] oB):Cl Y "counts_of_row" 6 ["row"] uT:=dG ["row","made","part"] T λb f e A a s H E c=>(zb (bX b (gz (aw (gz jg))))
 (zb (eM (fo sv) (dD b)
 (zc (bX b (bx d c (bS sv (gz (aw (gz (aw sv)))))))))
 (zc (zl sv))))
theorem US{Y:En}(T:ah Y.K "counts_of" (top 30))(e:Y.mg "sorted"=none)(i:Y.mg "tuple"=none)(h:Cl Y "counts_of_row" 6 ["row"] uT)(d:Cl Y "flip" 1 ["kept","thing"] gP):Cl Y "counts_of" 7 ["rows"] lc:=dG ["rows","kept","row","numbers"] T λc f g A b s H E a=>(zb (bX c qb)
 (zb (eM (fo sv) (dD c)
 (zc (eM (fo (bx h a (aw sv))) (dD c)
 (zc (gq (bx d a (bS sv sv)))))))
 (zc (zl (lU mC mo rfl i lS (aw (zj (oX rfl a.units) oJ rfl e oK (aw sv))))))))
theorem U4{Y:En}(T:ah Y.K "row_led_by" (top 32))(d:Y.mg "reversed"=none):Cl Y "row_led_by" 1 ["numbers"] C4:=dG ["numbers","row","part","number"] T λa f c A b s H E e=>(zb (bX a (gz jg))
 (zb (bX a zf)
 (zb (eM (xY rfl d sv) (dD a)
 (zb (bX a (dE sv (eI jQ (cF λ_ _ _ _=>.int _) zf sv)))
 (zc (bX a (dE (gz (aw sv)) sv)))))
 (zc (zl sv)))))
theorem Ve{Y:En}(T:ah Y.K "from_behind" (top 31))(d:Y.mg "len"=none)(e:Y.mg "tuple"=none)(g:Y.mg "reversed"=none) (a:Y.mg "MOST_NUMBERS"=some (.int 4 k_MOST_NUMBERS)):Cl Y "from_behind" 1 ["numbers"] qk:=dG ["numbers"] T λi f c A b s H E h=>(zc (zl (Nz rfl rfl e rfl g (dE sv (eI EE EA (gz (aw zf)) (ic (ra (B9 (v:=.int 4) rfl a ⟨_,rfl⟩) (λ_ _=>.int _)) (zj zt kh rfl d ki (aw sv))))))))
theorem T4{Y:En}(T:ah Y.K "rows_by" (top 33))(d:Y.mg "max"=none)(g:Y.mg "sorted"=none)(k:Y.mg "tuple"=none)(m:Cl Y "row_led_by" 1 ["numbers"] C4)(l:Cl Y "from_behind" 1 ["numbers"] qk)(j:Cl Y "counts_of_row" 6 ["row"] uT)(e:Cl Y "flip" 1 ["kept","thing"] gP):Cl Y "rows_by" 7 ["counts"] CH:=dG ["counts","left","numbers","told","row"] T λb f h A c s H E a=>(zb (bX b qb)
 (zb (eM (fo sv) (dD b)
 (zc (Cq (iS a) sv sv nH rfl)))
 (zb (bX b (kQ jg))
 (zb (wj u6 (LZ sv) (zb (LU (i:=1) (bX b (bx m a (aw (Jv l rfl (a.mono (by decide)) rfl d rfl sv)))))
 (zb (gq (nO sv (aw sv)))
 (zc (eM (fo (bx j a (aw sv))) (dD b)
 (zc (gq (bx e a (bS sv sv)))))))))
 (zc (zl (lU mC mo rfl k lS (aw (zj (oX rfl a.units) oJ rfl g oK (aw sv))))))))))
theorem Vp{Y:En}(T:ah Y.K "counts_turned" (top 53))(c:Cl Y "counts_of" 7 ["rows"] lc)(g:Cl Y "turned" 8 ["rows"] hZ)(e:Cl Y "rows_by" 7 ["counts"] CH):Cl Y "counts_turned" 9 ["counts"] zy:=dG ["counts"] T λh f d A b s H E a=>(zc (zl (bx c a (aw (bx g a (aw (bx e a (aw sv))))))))
theorem UP{Y:En}(T:ah Y.K "_law_pair" (top 60))(d:Y.mg "range"=none)(e:Y.mg "min"=none):Cl Y "_law_pair" 1 ["_law_a","_law_b"] wp:=dG ["_law_a","_law_b","_law_found","_law_c"] T λb f g A a s H E c=>(zb (bX b (kQ jg))
 (zb (eM (oP rfl d (aw (dE (eI Cz (cF λ_ _ _ _=>.int _) sv zf) zf))) (dD b)
 (zc (ie (iP (rc c.units) lO (eI vG (kg λ_ _ _ _=>.int _) (ic (ic sv sv) zf) (ic sv (eI jQ (cF λ_ _ _ _=>.int _) zf sv))) (ic sv (eI jQ (cF λ_ _ _ _=>.int _) zf sv)) (bm _)) (zc (gq (nO sv (aw (jR (gz (bS (ic (dE sv sv) sv) sv)) rj (rk (dE zf (zj (uO rfl) k6 rfl e uk (bS sv zf))))))))) iO)))
 (zc (zl (jl sv)))))
theorem Vh{Y:En}(T:ah Y.K "_law_settled" (top 61))(e:Y.mg "len"=none)(h:Y.mg "range"=none)(d:Cl Y "_law_odd" 1 ["_law_things"] oO)(g:Cl Y "_law_pair" 1 ["_law_a","_law_b"] wp):Cl Y "_law_settled" 2 ["_law_rows_here"] C8:=dG ["_law_rows_here","_law_waiting","_law_steep","_law_further","_law_row_here","_law_opened","_law_at"] T λa f j A c s H E b=>(zb (bX a (bx d b (aw sv)))
  (zb (bX a (kQ jg))
  (zb (wj u6 (iP my (kg λ_ _ _ _=>.bl _) (zj zt kh rfl e ki (aw sv)) zf (bm _)) (zb (bX a (kQ jg))
  (zb (eM (fo sv) (dD a)
  (zb (Qj (i:=5) rfl a rfl (Or.inl rfl) (oP rfl h (aw (ic (zj zt kh rfl e ki (aw sv)) zf))) (λ_ _ _ _ _=>(lT (i:=0) (show(["_law_k","_law_row_here"]:List Str).Nodup from by decide +kernel) rfl (Or.inl rfl))) (λ_ _ _ _ _=>(E2 (iP (ut b.units0) ur (fV sv sv (λ_ _=>rfl)) (eI jQ (cF λ_ _ _ _=>.int _) zf (fV sv (dE sv zf) (λ_ _=>rfl))) (bm _)))) (λ_ _ _ _ _=>sv) (N:=["_law_k","_law_row_here"]) (k:=1) (is:=[4]) (qa (by rfl)))
  (zc (ie (iP (rc b.units) lO sv (o0 jg) (bm _)) (zc (gq (nO sv (aw sv)))) (zb (bX a (fV sv (o5 zf) (λ_ _=>rfl)))
  (zc (gq (QX sv (aw (tw ["_law_two","_law_row_here","_law_at"] (fo (bx g b (bS (fV sv sv (λ_ _=>rfl)) (fV sv (dE sv zf) (λ_ _=>rfl))))) (λ_ _ _ _ _=>(dE (dE (jR sv rj (rk sv)) sv) (jR sv (rk (dE sv zf)) rj)))))))))))))
  (zc (bX a (bx d b (aw (jl sv))))))))
  (zc (zl (bx d b (aw (jl sv))))))))
theorem HZ{Y:En}(F:pZ Y.K "law" "law" (top 62) f fd)(u:Y.mg "len"=none)(t:Y.mg "min"=none)(p:Y.mg "range"=none)(q:Cl Y "_law_bag" 1 ["_law_script","_law_at"] wg)(e:Cl Y "_law_rows" 3 ["_law_bag_here","_law_many","_law_most","_law_long"] ry)(b:Cl Y "turned" 8 ["rows"] hZ)(n:Cl Y "settled" 6 ["rows"] nN)(o:Cl Y "_law_settled" 2 ["_law_rows_here"] C8)(l:Cl Y "behind" 2 ["one","other"] nL)(i:Cl Y "rows_added" 3 ["one","other"] oA)(j:Cl Y "times" 5 ["one","other"] oB)(g:Cl Y "counts_turned" 9 ["counts"] zy)(d:Cl Y "counts_of" 7 ["rows"] lc):gf Y.P Y.w Y.K Y.mg Y.base jE 10 f fd ["_law_script"] (jq Y.K):=
 have m:cV ["_law_script","_law_k","_law_bag_here","_law_one","_law_other","_law_some","_law_rows_here","_law_due"] ["_law_script"] (ag (top 62)):=⟨rfl,rfl,rfl,by decide +kernel,rfl,by decide +kernel,by decide +kernel⟩
 have c:=m.nd
 Kb (k:=9) F m rfl (λr A h s H E a=>(zb (eM (oP rfl p (aw (dE (zj (uO rfl) k6 rfl t uk (bS zf (zj zt kh rfl u ki (aw sv)))) zf))) (dD c)
 (zb (bX c (bx q a (bS sv sv)))
 (zb (bX c (bx e a (iy sv (iy zf (bS zf zf)))))
 (zb (bX c (bx e a (iy sv (iy zf (bS zf zf)))))
 (zb (bX c (bx e a (iy sv (iy zf (bS zf zf)))))
 (zb (eM (fo (o0 (iy sv (bS sv sv)))) (dD c)
 (zc (ie (JW.pt (xg (iP (vH a.units) lO (bx b a (aw (bx b a (aw sv)))) (bx o a (aw sv)) (bm _)) (Er (iP (vH a.units) lO (bx b a (aw (bx n a (aw sv)))) (bx b a (aw sv)) (bm _)) (by first|exact Or.inl rfl|exact Or.inr rfl)))) (zc (zl nH)) iO)))
 (zb (ie (iP (vH a.units) lO (bx b a (aw (bx l a (bS sv sv)))) (bx n a (aw (bx l a (bS (bx b a (aw sv)) (bx b a (aw sv)))))) (bm _)) (zc (zl nH)) iO)
 (zb (ie (iP (vH a.units) lO (bx b a (aw (bx i a (bS sv sv)))) (bx i a (bS (bx b a (aw sv)) (bx b a (aw sv)))) (bm _)) (zc (zl nH)) iO)
 (zb (bX c (bx j a (bS (bx g a (aw (bx d a (aw sv)))) (bx g a (aw (bx d a (aw sv)))))))
 (zc (ie (iP (vH a.units) lO (bx g a (aw (bx j a (bS (bx d a (aw sv)) (bx d a (aw sv)))))) sv (bm _)) (zc (zl nH)) iO)))))))))))
 (zc (zl nH)))) K49.holds
theorem all_mk{l:W.OpenLaw}{K:Fg}(X:K.In h)(G:h.Ns mainGlobals mg)(hfa:mg "law"=some (.ref fa))
  (t1:ah K "_law_bag" (top 55))(t2:ah K "_law_odd" (top 57))(t3:ah K "_law_take" (top 56))(t4:ah K "_law_row" (top 58))(t5:ah K "_law_rows" (top 59))(t6:ah K "changed" (top 22))(t7:ah K "place_filled" (top 23))(t8:ah K "line_filled" (top 24))(t9:ah K "without_noughts" (top 20))(t10:ah K "top_filled" (top 25))(t11:ah K "made_by_tables" (top 26))(t12:ah K "flip" (top 7))(t13:ah K "raises_by" (top 19))(t14:ah K "times" (top 27))(t15:ah K "rows_kept" (top 41))(t16:ah K "odd_ways" (top 10))(t17:ah K "rows_for_two" (top 36))(t18:ah K "rows_for_row" (top 37))(t19:ah K "is_whole" (top 6))(t20:ah K "stands_in" (top 38))(t21:ah K "falls_slowly" (top 35))(t22:ah K "is_place" (top 39))(t23:ah K "exchange_in" (top 40))(t24:ah K "walked" (top 47))(t25:ah K "moment" (top 44))(t26:ah K "flip_level" (top 45))(t27:ah K "places" (top 43))(t28:ah K "way" (top 46))(t29:ah K "settled" (top 48))(t30:ah K "parts_turned" (top 50))(t31:ah K "odd_ones" (top 8))(t32:ah K "rows_added" (top 15))(t33:ah K "fits" (top 14))(t34:ah K "behind" (top 16))(t35:ah K "row_turned" (top 51))(t36:ah K "turned" (top 52))(t37:ah K "counts_of_row" (top 29))(t38:ah K "counts_of" (top 30))(t39:ah K "row_led_by" (top 32))(t40:ah K "from_behind" (top 31))(t41:ah K "rows_by" (top 33))(t42:ah K "counts_turned" (top 53))(t43:ah K "_law_pair" (top 60))(t44:ah K "_law_settled" (top 61))(t45:ah K "law" (top 62)) (z0:W.nsIn K mainGlobals "len"=some none)(z1:W.nsIn K mainGlobals "abs"=some none)(z2:W.nsIn K mainGlobals "min"=some none)(z3:W.nsIn K mainGlobals "range"=some none)(z4:W.nsIn K mainGlobals "sorted"=some none)(z5:W.nsIn K mainGlobals "tuple"=some none)(z6:W.nsIn K mainGlobals "list"=some none)(z7:W.nsIn K mainGlobals "zip"=some none)(z8:W.nsIn K mainGlobals "all"=some none)(z9:W.nsIn K mainGlobals "enumerate"=some none)(z10:W.nsIn K mainGlobals "bool"=some none)(z11:W.nsIn K mainGlobals "isinstance"=some none)(z12:W.nsIn K mainGlobals "int"=some none)(z13:W.nsIn K mainGlobals "sum"=some none)(z14:W.nsIn K mainGlobals "max"=some none)(z15:W.nsIn K mainGlobals "reversed"=some none)(y0:W.nsIn K mainGlobals "MOST_RAISED"=some (some (.int 16 u0)))(y1:W.nsIn K mainGlobals "MOST_PARTS"=some (some (.int 6 u1)))(y2:W.nsIn K mainGlobals "MOST_NUMBERS"=some (some (.int 4 u2))):
  ∃ fd:FuncData,(∀(s:Shared) (v:Value),BindsTo s fd ⟨[v],[]⟩ [("_law_script",v)])/\∀ base:Heap,K.In base->base.Ns mainGlobals mg->gf l.prog w K mg base jE 10 fa fd ["_law_script"] (jq K):=by
 have Ac:=jK X G z0;have z_abs:=jK X G z1;have Af:=jK X G z2;have Ab:=jK X G z3;have Ad:=jK X G z4;have Aa:=jK X G z5;have z_list:=jK X G z6;have z_zip:=jK X G z7;have Au:=jK X G z8;have Av:=jK X G z9;have z_bool:=jK X G z10;have Ap:=jK X G z11;have z_int:=jK X G z12;have Ai:=jK X G z13;have Aj:=jK X G z14;have Ak:=jK X G z15;have m_MOST_RAISED:=yQ X G y0;have m_MOST_PARTS:=yQ X G y1;have m_MOST_NUMBERS:=yQ X G y2;obtain⟨f,fd,a,F⟩:=t45;have e:=hfa.symm.trans (yQ X G a);cases e;obtain⟨oc,od,kV,doc,pm,an,cdv,ct,osl,rfl,lk,hcd⟩:=id F.ex;refine⟨W.fnOf "law" "law" (cT (top 62)) (bD (top 62)) (ag (top 62)) .none kV doc pm an cdv ct,λs v=>.of_eq rfl,λbase _ _=>?_⟩
 let Y:En:=⟨l.prog,w,K,mg,base,h,X,G⟩
 have Bq:=Uw (Y:=Y) t1 Ac z_abs Af Ab;have An:=Ux (Y:=Y) t2 Ad Aa;have Am:=UR (Y:=Y) t3;have A4:=Uy (Y:=Y) t4 Ab Af Aa Am;have A0:=UQ (Y:=Y) t5 Ab An Am A4;have Ao:=TZ (Y:=Y) t6;have A5:=Vk (Y:=Y) t7 Af Ab Ao;have A6:=Vf (Y:=Y) t8 Ab A5 Ao;have A8:=Vs (Y:=Y) t9 z_list Aa;have A7:=U7 (Y:=Y) t10 Ac z_zip Au Aa;have A9:=Vr (Y:=Y) t11 Ac Av A6 A7 A8;have Ae:=Kv (Y:=Y) t12;have A2:=UT (Y:=Y) t13;have As:=MA (Y:=Y) t14 Ad Aa m_MOST_RAISED A2 A9 Ae;have Be:=UU (Y:=Y) t15;have Ba:=UC (Y:=Y) t16;have Bb:=Vm (Y:=Y) t17 Ab Ad Ba;have Ay:=Vl (Y:=Y) t18 Bb;have Aw:=UA (Y:=Y) t19 z_bool Ap z_int;have Bd:=UV (Y:=Y) t20 Au Aa Ap Aw;have Bc:=Vi (Y:=Y) t21;have Ax:=Uz (Y:=Y) t22 Ac Aw Bc;have Bf:=Vd (Y:=Y) t23 Bd Ax Ae Ay;have Bi:=SX (Y:=Y) t24 Ad Aa Be Bf;have Bg:=SU (Y:=Y) t25 Av Ai;have A3:=U3 (Y:=Y) t26 Ae Bg
 have Bh:=SV (Y:=Y) t27 Ac Ab Ax;have c_way:=Ia (Y:=Y) t28 Aj Ad A3 Bh Ay;have Ah:=T5 (Y:=Y) t29 Bi c_way;have Bk:=Vj (Y:=Y) t30 Ab Aa Ah;have Bj:=UB (Y:=Y) t31 Ad Aa Ae;have Ar:=U6 (Y:=Y) t32 Bj;have c_fits:=Ku (Y:=Y) t33 Ai Ac m_MOST_RAISED m_MOST_PARTS;have Aq:=SR (Y:=Y) t34 Ad Aa c_fits Ae;have Bl:=U5 (Y:=Y) t35 Ak Ah Aq;have Ag:=SW (Y:=Y) t36 Ai Aj Bk Ar Bl;have Az:=Vo (Y:=Y) t37 As;have Al:=US (Y:=Y) t38 Ad Aa Az Ae;have Bm:=U4 (Y:=Y) t39 Ak;have Bn:=Ve (Y:=Y) t40 Ac Aa Ak m_MOST_NUMBERS;have Bo:=T4 (Y:=Y) t41 Aj Ad Aa Bm Bn Az Ae;have A1:=Vp (Y:=Y) t42 Al Ag Bo;have Bp:=UP (Y:=Y) t43 Ab Af;have Br:=Vh (Y:=Y) t44 Ac Ab An Bp;exact HZ (Y:=Y) F Ac Af Ab Bq A0 Ag Ah Br Aq Ar As A1 Al
end K49
end
open PySem PySem.W PyProof.Rows
set_option maxRecDepth 100000 in
set_option maxHeartbeats 0 in
theorem PySem.Challenge.cw_raisedsums_k49_whole_turned_twice_holds : PySem.Challenge.rw_raisedsums_k49_whole_turned_twice.Holds := by
  w_on; o_law; k_head; (case hw => w_witness2)
  k_fill
  refine L2.Li (l := PySem.Challenge.rw_raisedsums_k49_whole_turned_twice) (n := 63) (k := 10) (x := "_law_script") (CX := fun _ => L2.jE) (sp := fun w => Dd.jq _) rfl (by decide) rfl ⟨rfl, by decide, by decide⟩ (fun w h Y => PySem.W.kIn_of Y) ?F (fun _ _ a ns hl _ hS => ⟨a, ns, rfl, hS, hl, fun _ => rfl⟩) (fun _ _ _ _ _ z => z)
  case F =>
    intro w mg fa h KX G hmg
    refine' K49.all_mk KX G hmg ?t1 ?t2 ?t3 ?t4 ?t5 ?t6 ?t7 ?t8 ?t9 ?t10 ?t11 ?t12 ?t13 ?t14 ?t15 ?t16 ?t17 ?t18 ?t19 ?t20 ?t21 ?t22 ?t23 ?t24 ?t25 ?t26 ?t27 ?t28 ?t29 ?t30 ?t31 ?t32 ?t33 ?t34 ?t35 ?t36 ?t37 ?t38 ?t39 ?t40 ?t41 ?t42 ?t43 ?t44 ?t45 ?z0 ?z1 ?z2 ?z3 ?z4 ?z5 ?z6 ?z7 ?z8 ?z9 ?z10 ?z11 ?z12 ?z13 ?z14 ?z15 ?y0 ?y1 ?y2
    all_goals first|k_is|kernel_rfl|(refine' L2.VW ?a ?l ?c ?k;(case a=>k_is);(case l=>k_is);(case c=>k_is);(case k=>k_is))|skip
#print axioms PySem.Challenge.cw_raisedsums_k49_whole_turned_twice_holds
