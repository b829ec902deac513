import PyProof.Rows.All
import Wide.All
import OpenK.AllK
import Wide.FinOn
import PyProof.EqAt
import PyProof.EqKinds
import PyProof.TupleCall
import PySem.Challenge.RW_raisedsums_k69_texts_refused
set_option Elab.async false
set_option linter.all false
set_option maxRecDepth 100000
set_option hygiene false
local macro_rules
|`('!')=>`((by lia))
|`('"')=>`((by decide))
|`('#')=>`((zb (pv 0)))
|`('$')=>`((λ_ _ _ _ h=>zj h))
|`('%')=>`((Or.inl rfl))
|`('&')=>`((by simp))
set_option hygiene true
noncomputable section
namespace PySem.W.Fast
theorem tw3655027997191980416:True:=⟨⟩
theorem tw5147493427113701726:True:=⟨⟩
theorem tw17004269196809533875:True:=⟨⟩
theorem tw5347585635220214590:True:=⟨⟩
theorem tw65926291130119809:True:=⟨⟩
theorem tw1010680995760131877:True:=⟨⟩
theorem tw16937852510378676807:True:=⟨⟩
theorem tw15056831379081757138:True:=⟨⟩
theorem tw6504745027395226096:True:=⟨⟩
theorem tw268672438366759914:True:=⟨⟩
theorem tw2581402316589753406:True:=⟨⟩
theorem tw3432706015060878945:True:=⟨⟩
theorem tw8120323502382591336:True:=⟨⟩
theorem tw4378323579343928797:True:=⟨⟩
theorem tw5816909043973670302:True:=⟨⟩
theorem tw8881647432977180318:True:=⟨⟩
theorem tw15007858529887487508:True:=⟨⟩
theorem tw14864535431960358653:True:=⟨⟩
theorem tw6396176869281234121:True:=⟨⟩
theorem tw6544544126936513235:True:=⟨⟩
theorem tw13729042585498317370:True:=⟨⟩
theorem tw8716319971185083615:True:=⟨⟩
theorem tw15283657035636805635:True:=⟨⟩
theorem tw17149088276631051415:True:=⟨⟩
theorem tw10441676440107794973:True:=⟨⟩
theorem tw2994970197899139663:True:=⟨⟩
theorem tw4439444815722246655:True:=⟨⟩
theorem tw12364373404229637077:True:=⟨⟩
theorem tw6735312458841438022:True:=⟨⟩
theorem tw8343933630080178575:True:=⟨⟩
theorem tw8431259355847940830:True:=⟨⟩
theorem tw497336625701148264:True:=⟨⟩
theorem tw13086677194563552751:True:=⟨⟩
theorem tw13384403443135752486:True:=⟨⟩
theorem tw3832673164607590446:True:=⟨⟩
theorem tw5451853023481420531:True:=⟨⟩
theorem tw4071545572910367153:True:=⟨⟩
theorem tw2100137053058416912:True:=⟨⟩
theorem tw14324013936544284227:True:=⟨⟩
theorem tw7429604025717833253:True:=⟨⟩
theorem tw14789999396567472403:True:=⟨⟩
theorem tw9819783653267392765:True:=⟨⟩
theorem tw8478721112305136257:True:=⟨⟩
theorem tw2871627796309363370:True:=⟨⟩
theorem tw12365163839536796823:True:=⟨⟩
theorem tw12489028628447289327:True:=⟨⟩
theorem tw14313390637769226852:True:=⟨⟩
theorem tw2695094424217522888:True:=⟨⟩
theorem tw4920074386085669800:True:=⟨⟩
theorem tw7381516961488704369:True:=⟨⟩
theorem tw16165972298453574883:True:=⟨⟩
theorem tw12928708483974602391:True:=⟨⟩
theorem tw1051765484114743611:True:=⟨⟩
theorem tw6740324357795733662:True:=⟨⟩
theorem tw11018806110645543837:True:=⟨⟩
theorem tw18299803170477795679:True:=⟨⟩
theorem tw15118845160614430672:True:=⟨⟩
theorem tw11066687655680996890:True:=⟨⟩
theorem tw15968801023012388251:True:=⟨⟩
theorem tw17789175873914756064:True:=⟨⟩
theorem tw13478887781029971770:True:=⟨⟩
theorem tw15971180993460084857:True:=⟨⟩
theorem tw6894625751379726432:True:=⟨⟩
theorem tw12269812672176530232:True:=⟨⟩
theorem tw15160011294990099423:True:=⟨⟩
theorem tw898285835147811256:True:=⟨⟩
theorem tw9030326694450327204:True:=⟨⟩
theorem tw140567625150222916:True:=⟨⟩
theorem tw13295462395957567135:True:=⟨⟩
theorem tw8973359679295971834:True:=⟨⟩
theorem tw6708110866435172482:True:=⟨⟩
theorem tw8080841195370560732:True:=⟨⟩
theorem tw17032782612843738090:True:=⟨⟩
theorem tw7510860360796602261:True:=⟨⟩
theorem tw13483638059696583838:True:=⟨⟩
theorem tw15089908283554992330:True:=⟨⟩
theorem tw5277503553942467170:True:=⟨⟩
theorem tw13553406800895875617:True:=⟨⟩
theorem tw11347131215383245983:True:=⟨⟩
theorem tw1190701488467115201:True:=⟨⟩
theorem tw15285356119094237283:True:=⟨⟩
theorem tw15852078410934132678:True:=⟨⟩
theorem tw16514370366324203391:True:=⟨⟩
theorem tw2976837341200431062:True:=⟨⟩
theorem tw16127326028109649975:True:=⟨⟩
theorem tw13707263658816417859:True:=⟨⟩
theorem tw1223886502347940835:True:=⟨⟩
theorem tw1036302563849811207:True:=⟨⟩
theorem tw2636342067939908687:True:=⟨⟩
theorem tw13531484059387022941:True:=⟨⟩
theorem tw3983992690238434032:True:=⟨⟩
end PySem.W.Fast
open PySem
set_option genSizeOfSpec false
set_option genInjectivity false
abbrev Fg:=PySem.W.Frag
abbrev am:=@PySem.wpAny_bind
abbrev ax:=@List.length_map
abbrev bL:=@PySem.Heap.get?_push_of_some
abbrev bQ:=@List.getElem?_eq_getElem
abbrev aT:=@Nat.le_trans
abbrev bi:=@Nat.le_refl
abbrev bX:=@List.mem_singleton
abbrev bM:=@decide_eq_false
abbrev bH:=@decide_eq_true
abbrev ba:=@PySem.wpAny_pure
abbrev du:=@List.getElem?_eq_some_iff
abbrev cq:=@List.length_append
abbrev cD:=@Nat.lt_of_lt_of_le
abbrev cC:=@List.size_toArray
abbrev aZ:=@PyProof.Rows.wpS_bind
abbrev bR:=@PySem.Heap.lt_size
abbrev bn:=@PyProof.Rows.wpS_pure
abbrev dD:=@PySem.Heap.get?_push_size
abbrev ce:=@List.mem_cons
abbrev cM:=@List.mem_append
abbrev dm:=@List.getElem?_map
abbrev f7:=@List.getElem?_append_left
abbrev fH:=@Option.map_eq_some_iff
abbrev fj:=@List.mem_of_getElem?
abbrev eu:=@List.append_assoc
abbrev dL:=@List.all_eq_true
abbrev d5:=@List.length_cons
abbrev eh:=@Bool.and_eq_true
abbrev ie:=@List.getD_eq_getElem?_getD
abbrev cX:=@Nat.le_of_lt
abbrev eK:=@Nat.le_add_right
abbrev dr:=@List.map_cons
abbrev gj:=@Array.getElem?_toList
abbrev de:=@List.mem_map
abbrev eg:=@Option.some.inj
abbrev iE:=@List.getElem?_append_right
abbrev f6:=@List.mem_cons_self
abbrev fF:=@Nat.le_of_not_lt
abbrev gZ:=@List.mem_cons_of_mem
abbrev fE:=@List.append_nil
abbrev gL:=@Array.length_toList
abbrev gY:=@Nat.add_le_add_left
abbrev ef:=@Nat.ne_of_lt
abbrev ic:=@Nat.add_sub_cancel'
abbrev cb:=@Ne.symm
abbrev gr:=@List.length_drop
abbrev iC:=@Array.toList_append
abbrev gX:=@of_decide_eq_true
abbrev eJ:=@Nat.zero_le
abbrev gq:=@List.mem_range
abbrev h8:=@List.getElem_mem
abbrev gW:=@List.map_append
abbrev iB:=@List.not_mem_nil
abbrev jF:=@List.getElem?_set_ne
abbrev j3:=@List.mem_append_right
abbrev jw:=@Nat.lt_of_le_of_lt
abbrev jv:=@PySem.W.mg_none_of
abbrev kW:=@Nat.add_sub_cancel_left
abbrev iY:=@List.length_take
abbrev ju:=@Nat.le_of_lt_succ
abbrev jt:=@decide_eq_true_eq
abbrev jE:=@Nat.lt_of_le_of_ne
abbrev ky:=@Nat.le_sub_one_of_lt
abbrev jD:=@Nat.le_of_succ_le
abbrev iX:=@PySem.PassesOwn.never
abbrev gV:=@Nat.le_of_eq
abbrev gU:=@Nat.lt_or_ge
abbrev kU:=@Nat.le_of_add_left_le
abbrev kx:=@List.getElem_of_mem
abbrev kw:=@List.replicate_succ
abbrev lM:=@List.getElem?_set_self
abbrev lL:=@List.take_of_length_le
abbrev hZ:=@List.map_map
abbrev ku:=@Bool.false_eq_true
abbrev iA:=@PyProof.Rows.wpS_forRange
abbrev ow:=@Nat.sub_lt_left_of_lt_add
abbrev mX:=@PySem.Heap.get?_update_other
abbrev lK:=@List.mem_of_mem_drop
abbrev hY:=@PySem.sizeLine_eq
abbrev mW:=@List.length_replicate
abbrev j0:=@Nat.le_antisymm
abbrev jZ:=@Nat.min_eq_left
abbrev mV:=@Nat.add_lt_of_lt_sub'
abbrev mU:=@List.take_append_drop
abbrev iz:=@PySem.wpAny_field
abbrev kT:=@Int.toNat_natCast
abbrev iW:=@Nat.zero_add
abbrev hX:=@PySem.wpAny_mono
abbrev lJ:=@List.getElem?_drop
abbrev mT:=@Nat.add_lt_add_left
abbrev ot:=@List.getElem?_eq_none
abbrev lI:=@PySem.wpAny_newObj_type
abbrev jY:=@PySem.W.mg_of
abbrev kS:=@List.range_succ
abbrev kR:=@Bool.eq_iff_iff
abbrev oq:=@Nat.sub_lt_sub_right
abbrev mS:=@PySem.wpAny_setField_rec
abbrev lH:=@Nat.not_lt_of_le
abbrev lG:=@PySem.wpAny_call_entry
abbrev f5:=@if_true
abbrev pC:=@Nat.le_sub_of_add_le'
abbrev pB:=@List.getElem?_toArray
abbrev gS:=@if_false
abbrev lF:=@PySem.W.kia_one
abbrev om:=@PySem.Obj.data_mapFields
abbrev rc:=@Option.bind_eq_some_iff
abbrev pA:=@List.mem_of_mem_take
abbrev mR:=@List.take_length
abbrev hV:=@and_self
abbrev lE:=@List.drop_drop
abbrev lD:=@PySem.Heap.size_push
abbrev ol:=@Nat.lt_of_succ_lt
abbrev iy:=@or_false
abbrev mQ:=@List.length_set
abbrev sV:=@List.drop_eq_getElem_cons
abbrev oj:=@List.lookup_cons
abbrev oh:=@Nat.succ_le_succ
abbrev kQ:=@Nat.sub_self
abbrev pz:=@List.pairwise_cons
abbrev py:=@List.mem_replicate
abbrev iP:=@PyProof.Rows.wpS_mono
abbrev ra:=@List.mem_append_left
abbrev wO:=@PySem.F.slot_dict_keyiterator_next
abbrev q7:=@Nat.sub_le_sub_right
abbrev jX:=@beq_iff_eq
abbrev px:=@Nat.sub_pos_of_lt
abbrev pu:=@Array.toList_push
abbrev pr:=@PySem.Str.length_append
abbrev pq:=@PySem.wpAny_truthy_bool
abbrev wN:=@PyProof.Rows.callWith_type1
abbrev og:=@List.find?_cons
abbrev n0:=@PySem.wpAny_ite_false
abbrev qZ:=@List.length_pos_iff
abbrev wM:=@Array.getElem?_eq_some_iff
abbrev wL:=@Array.perm_iff_toList_perm
abbrev kt:=@PySem.wpAny_rule
abbrev pk:=@Nat.lt_of_not_le
abbrev qY:=@Bool.false_ne_true
abbrev qX:=@Nat.lt_of_lt_of_eq
abbrev sU:=@PySem.StrLaws.glued_eq_join
abbrev nZ:=@PySem.wpAny_setField
abbrev nY:=@PySem.wpAny_seqItems
abbrev mP:=@Nat.ne_of_gt
abbrev pj:=@Nat.min_le_left
abbrev sT:=@List.pairwise_append
abbrev sS:=@Bool.or_eq_false_iff
abbrev qW:=@Nat.le_succ_of_le
abbrev qV:=@List.flatten_cons
abbrev nX:=@Nat.lt_irrefl
abbrev nW:=@Bool.true_and
abbrev nV:=@PySem.wpAny_holding
abbrev Ap:=@PySem.wpAny_typeNameOfWhole_keyiter
abbrev wK:=@Int.eq_ofNat_of_zero_le
abbrev sR:=@PySem.mem_of_lookup
abbrev sQ:=@beq_eq_false_iff_ne
abbrev qU:=@Nat.min_eq_right
abbrev qT:=@beq_self_eq_true
abbrev lC:=@Nat.sub_le
abbrev wJ:=@List.drop_of_length_le
abbrev lB:=@PyProof.Rows.wpS_modify
abbrev sP:=@Nat.sub_add_cancel
abbrev sO:=@List.length_range'
abbrev sN:=@PySem.wpAny_pyIter_tuple
abbrev wI:=@PySem.Heap.get?_update_self
abbrev wH:=@List.Perm.append_left
abbrev wG:=@List.perm_append_comm
abbrev qS:=@PySem.wpAny_passesOwn
abbrev pi:=@List.sum_cons
abbrev sM:=@Bool.not_eq_true'
abbrev Ao:=@List.pairwise_iff_getElem
abbrev mO:=@PySem.call_meets
abbrev qR:=@PySem.Str.cps_append
abbrev LN:=@List.take_succ_eq_append_getElem
abbrev wF:=@PySem.Heap.SameBut.update
abbrev wE:=@Nat.sub_le_sub_left
abbrev LM:=@PyProof.Rows.slot_tuple_getitem
abbrev Am:=@List.countP_cons_of_pos
abbrev Al:=@Nat.lt_add_of_pos_right
abbrev kr:=@PyProof.Rows.wpS_get
abbrev nU:=@Nat.sub_lt
abbrev sL:=@Int.emod_nonneg
abbrev wD:=@List.count_eq_zero
abbrev Ak:=@List.Perm.append_right
abbrev Ai:=@List.drop_eq_nil_of_le
abbrev Af:=@PySem.F.plainAttrs_str
abbrev Ae:=@List.filter_eq_nil_iff
abbrev ph:=@decide_true
abbrev wC:=@List.ext_getElem?
abbrev qQ:=@Nat.lt_trans
abbrev Ad:=@PySem.Obj.isFreed_of_fields
abbrev LL:=@Array.extract_eq_empty_of_le
abbrev Ac:=@PySem.F.slot_zip_next
abbrev qP:=@List.all_map
abbrev qO:=@decide_false
abbrev Ab:=@Array.toList_reverse
abbrev Aa:=@List.reverse_reverse
abbrev wB:=@PySem.F.slot_tuple_mul
abbrev wA:=@Array.all_toList
abbrev wz:=@PySem.StrLaws.joinFits
abbrev zZ:=@PySem.wpAny_updateSeq_pair
abbrev LK:=@PySem.Calls.Name_function_global
abbrev zY:=@List.filterMap_cons
abbrev zX:=@List.map_congr_left
abbrev wy:=@List.mem_filter
abbrev wx:=@List.length_nil
abbrev LJ:=@Array.getElem?_eq_getElem
abbrev ww:=@PySem.wpAny_execs_nil
abbrev LI:=@PySem.F.args_tuple_add_2
abbrev zW:=@Array.append_empty
abbrev sK:=@Int.zero_add
abbrev zV:=@List.filter_append
abbrev zU:=@PySem.wpAny_Call_Name_kw
abbrev zT:=@PyProof.Rows.slot_tuple_getitem
abbrev wv:=@List.nodup_nil
abbrev wu:=@List.drop_left
abbrev qN:=@PySem.typeIs_str
abbrev LH:=@List.getElem?_replicate
abbrev LG:=@PySem.F.entry_tuple_add
abbrev LF:=@List.countP_cons_of_neg
abbrev LD:=@List.pairwise_singleton
abbrev LC:=@List.getElem?_cons_succ
abbrev LB:=@List.length_eq_zero_iff
abbrev zS:=@Nat.zero_lt_of_lt
abbrev zR:=@List.length_range
abbrev zQ:=@Nat.lt_succ_of_lt
abbrev zP:=@List.count_append
abbrev zO:=@List.getElem?_nil
abbrev zN:=@PySem.wpAny_pyIter_list
abbrev LA:=@PySem.F.slot_tuple_add
abbrev Lz:=@PySem.Calls.callWith_builtin
abbrev wq:=@PySem.Paired.length
abbrev wp:=@List.any_cons
abbrev wo:=@List.all_cons
abbrev wn:=@PySem.wpAny_attempt
abbrev zM:=@Nat.min_le_right
abbrev zL:=@List.mem_reverse
abbrev zK:=@Nat.lt_succ_self
abbrev pd:=@PyProof.Rows.wpS_lift
abbrev zJ:=@PySem.wpAny_pyIter_zip
abbrev Ly:=@PySem.F.slot_tuple_lt
abbrev Lx:=@List.length_singleton
abbrev Lw:=@PySem.F.slot_dict_get
abbrev Lv:=@List.length_filter_le
abbrev Lu:=@PySem.builtinLookup_eq_fast
abbrev PL:=@Array.getElem?_setIfInBounds_ne
abbrev zI:=@List.nodup_cons
abbrev Lr:=@PySem.Calls.evalArgs_plain
abbrev zH:=@List.forIn_cons
abbrev wm:=@Nat.add_zero
abbrev zG:=@List.foldl_cons
abbrev zF:=@List.sum_append
abbrev zE:=@Bool.or_eq_true
abbrev wk:=@PySem.codeAny_mono
abbrev Lq:=@ne_true_of_eq_false
abbrev wj:=@PySem.wpAny_letGo
abbrev Lp:=@PySem.Calls.spliced_cons
abbrev Lo:=@PySem.W.callWith_K
abbrev Ln:=@List.zip_cons_cons
abbrev Lm:=@Nat.pos_of_ne_zero
abbrev Ll:=@List.getElem?_take
abbrev Lk:=@List.set_cons_zero
abbrev Lj:=@PySem.F.args_tuple_mul_2
abbrev Li:=@PySem.F.args_str_split_2
abbrev Lh:=@Int.emod_lt_of_pos
abbrev Lg:=@Nat.eq_zero_or_pos
abbrev Lf:=@PySem.tupleKind_room_in1
abbrev PK:=@PySem.F.args_object_init_3
abbrev zD:=@PySem.wpAny_onRaise
abbrev Le:=@PySem.Obj.cls_mapFields
abbrev Ld:=@List.mapM_toArray
abbrev Lc:=@List.getElem_drop
abbrev Lb:=@PySem.F.entry_tuple_mul
abbrev La:=@PySem.F.entry_str_split
abbrev K9:=@PySem.StrLaws.found_one
abbrev K8:=@PySem.wpAny_dictEntries
abbrev zC:=@List.map_nil
abbrev K7:=@Nat.max_eq_right
abbrev K6:=@List.zipIdx_cons
abbrev K5:=@List.any_eq_true
abbrev K4:=@List.drop_length
abbrev K3:=@map_eq_pure_bind
abbrev K2:=@List.of_mem_zip
abbrev K1:=@Nat.le_add_left
abbrev K0:=@List.nil_append
abbrev zB:=@Nat.two_pos
abbrev KZ:=@List.drop_zero
abbrev KY:=@List.take_left
set_option maxHeartbeats 0
namespace L2
open Spec PyProof.Rows
noncomputable abbrev cN:=Sum Int Str
def ij:cN->Value->Bool
 |.inl k,v=>Value.isInt k v
 |.inr x,v=>Value.isStrOf x v
def Mk(w:World):cN->Int
 |.inl k=>hashInt k
 |.inr x=>hashStr w x
theorem ny:∀{k:cN}{v:Value},ij k v=true->(∃i t,k=Sum.inl i/\v=Value.int i t)\/(∃x t,k=Sum.inr x/\v=Value.str x t)
 |.inl i,v,h=>by
  obtain⟨t,e⟩:=Value.isInt_shape (k:=i) (v:=v) h;exact .inl ⟨i,t,rfl,e⟩
 |.inr x,v,h=>by
  obtain⟨t,e⟩:=Value.isStrOf_shape (x:=x) (v:=v) h;exact .inr ⟨x,t,rfl,e⟩
theorem Kc(i:Int)(t:Tok):ij (.inl i) (.int i t)=true:=by simp[ij,Value.isInt]
theorem Kd(x:Str)(t:Tok):ij (.inr x) (.str x t)=true:=by simp[ij,Value.isStrOf]
theorem E5(a b:Int):decide ((Sum.inl a:cN)=Sum.inl b)=(a==b):=by
 by_cases e:a=b
 ·subst e;simp
 ·have h:¬ (Sum.inl a:cN)=Sum.inl b:=λq=>e (Sum.inl.inj q)
  rw[bM h];exact(sQ.mpr e).symm
theorem E8(a b:Str):decide ((Sum.inr a:cN)=Sum.inr b)=decide (a=b):=by
 by_cases e:a=b
 ·subst e;simp
 ·have h:¬ (Sum.inr a:cN)=Sum.inr b:=λq=>e (Sum.inr.inj q)
  rw[bM h,bM e]
theorem E6(a:Int)(b:Str):decide ((Sum.inl a:cN)=Sum.inr b)=false:=bM (λq=>nomatch q)
theorem E7(a:Str)(b:Int):decide ((Sum.inr a:cN)=Sum.inl b)=false:=bM (λq=>nomatch q)
def br(d:Program) (w:World):PySem.KeyKind d w cN where
 is:=ij
 hash:=Mk w
 inj:=λv a b l g=>by
  rcases ny l with⟨i,t,rfl,rfl⟩|⟨x,t,rfl,rfl⟩
  ·rcases ny g with⟨j,u,rfl,e⟩|⟨y,u,rfl,e⟩
   ·injection e with c _;rw[c]
   ·exact nomatch e
  ·rcases ny g with⟨j,u,rfl,e⟩|⟨y,u,rfl,e⟩
   ·exact nomatch e
   ·injection e with c _;rw[c]
 byValue:=λk v h=>by
  rcases ny h with⟨i,t,rfl,rfl⟩|⟨x,t,rfl,rfl⟩<;>rfl
 pyHash:=λf h=>by
  rcases ny f with⟨i,t,rfl,rfl⟩|⟨x,t,rfl,rfl⟩
  ·exact wpAny_pyHash_int h
  ·exact wpAny_pyHash_str h
 eqBool:=λm f h=>by
  rcases ny m with⟨i,t,rfl,rfl⟩|⟨x,t,rfl,rfl⟩
  ·rcases ny f with⟨j,u,rfl,rfl⟩|⟨y,u,rfl,rfl⟩
   ·rw[E5] at h;exact wpAny_eqBool_int h
   ·rw[E6] at h;exact SeqAt.EqAt.int_str i t y u _ _ _ _ h
  ·rcases ny f with⟨j,u,rfl,rfl⟩|⟨y,u,rfl,rfl⟩
   ·rw[E7] at h;exact SeqAt.EqAt.str_int x t j u _ _ _ _ h
   ·rw[E8] at h;exact wpAny_eqBool_str h
 «strs»:=λk x t v h=>by
  rcases ny h with⟨i,u,rfl,e⟩|⟨y,u,rfl,e⟩
  ·exact nomatch e
  ·injection e with c _
   subst c;cases v<;>rfl
theorem Qy(a:Program)(w:World)(i:Int)(t:Tok):(br a w).is (.inl i) (.int i t)=true:=Kc i t
theorem Qz(a:Program)(w:World)(x:Str)(t:Tok):(br a w).is (.inr x) (.str x t)=true:=Kd x t
set_option genInjectivity true in
inductive V where
 |non|bl (b:Bool)|int (i:Int)|str (x:Str)|byt (b:Array UInt8)|flt (b:UInt64)|ref (a:Addr)|ty (n:String)
 deriving DecidableEq
noncomputable def RelV:V->Value->Prop
 |.non,u=>u=Value.none
 |.bl b,u=>u=Value.bool b
 |.int i,u=>∃t,u=Value.int i t
 |.str x,u=>∃t,u=Value.str x t
 |.byt b,u=>∃t,u=Value.bytes b t
 |.flt b,u=>∃t,u=Value.float b t
 |.ref a,u=>u=Value.ref a
 |.ty n,u=>u=Value.type n
abbrev aq:List V->List Value->Prop:=Paired RelV
theorem aq.length(r:aq xs us):xs.length=us.length:=wq r
theorem aq.get:∀{b:List V}{a:List Value}{i:Nat}{x:V},aq b a->b[i]?=some x->∃u,a[i]?=some u/\RelV x u
 |_,_,_,_,.nil,e=>by simp at e
 |_,_,0,_,.cons r _,e=>by simp at e;subst e;exact⟨_,rfl,r⟩
 |_,_,i+1,x,.cons _ t,e=>by
  obtain⟨u,d,c⟩:=aq.get (i:=i) (x:=x) t (by simpa using e);exact⟨u,by simpa using d,c⟩
theorem aq.set(r:RelV x u):∀{a:List V}{b:List Value}(i:Nat),aq a b->aq (a.set i x) (b.set i u)
 |_,_,_,.nil=>.nil
 |_,_,0,.cons _ t=>.cons r t
 |_,_,i+1,.cons q t=>.cons q (aq.set r i t)
theorem aq.append:∀{d c:List V}{b a:List Value},aq d b->aq c a->aq (d++c) (b++a)
 |_,_,_,_,.nil,s=>s
 |_,_,_,_,.cons r t,s=>.cons r (aq.append t s)
theorem aq.take:∀{a:List V}{b:List Value}(n:Nat),aq a b->aq (a.take n) (b.take n)
 |_,_,0,_=>.nil
 |_,_,_+1,.nil=>.nil
 |_,_,n+1,.cons r t=>.cons r (aq.take n t)
theorem aq.drop:∀{a:List V}{b:List Value}(n:Nat),aq a b->aq (a.drop n) (b.drop n)
 |_,_,0,r=>r
 |_,_,_+1,.nil=>.nil
 |_,_,n+1,.cons _ t=>aq.drop n t
def fR:Option V->Option Value->Prop
 |some v,some u=>RelV v u
 |none,none=>True
 |_,_=>False
def KV{a:Type}:List (a×V)->List (a×Value)->Prop:=Paired λ(p:a×V) (q:a×Value)=>p.1=q.1/\RelV p.2 q.2
def kV:cN->V
 |.inl i=>.int i
 |.inr x=>.str x
set_option genInjectivity true in
inductive HO where
 |lst (xs:List V)
 |tup (xs:List V)
 |dK (kvs:List (cN×V))|dT (kvs:List (List cN×V))
 |set (S:Int->Bool) (n:Nat)
 |ins (C dx:Addr) (fs:List (Str×V))
 |own (x:Addr)
 |xd (fs:List (Str×V))
 |met (f x:Addr)
 |rng (lo hi:Int)
 |frz (o:Obj) (u:HO)
 |tbl (ps:Array Value)
 |ext (φ:Heap->Prop)
noncomputable abbrev Hp:=Addr->Option HO
def aD(H:Hp) (a:Addr) (o:HO):Hp:=λb=>if b=a then some o else H b
theorem fh:aD H a o a=some o:=by unfold aD;rw[if_pos rfl]
theorem ca(h:b≠a):aD H a o b=H b:=by unfold aD;rw[if_neg h]
theorem HC:aD (aD H a o) a u=aD H a u:=by
 funext b;unfold aD;split<;>rfl
theorem DN{H:Hp}{a b:Addr}{o u:HO}(h:H a=some o)(c:H b=some u)(d:o≠u):a≠b:=by
 intro e;subst e;rw[h] at c;exact d (eg c)
theorem zx{H:Hp}{a b:Addr}{o:HO}(h:H a=some o)(c:H b=none):a≠b:=by
 intro e;subst e;rw[h] at c;cases c
section
variable (P:Program)(w:World)
def aE(H:Hp) (h:Heap) (a:Addr):HO->Prop
 |.lst c=>c.length<=sizeLine/\∃(b:List Value) (n:Nat),aq c b/\h.get? a=some { cls:=.type "list",data:=.seq b.toArray n }
 |.tup c=>c.length<=sizeLine/\∃b:List Value,aq c b/\IsTup h a b.toArray
 |.dK kvs=>kvs.length<=sizeLine/\(a==sysModules)=false/\∃g,KV kvs g/\h.DictOf (br P w) a g
 |.dT kvs=>kvs.length<=sizeLine/\(a==sysModules)=false/\∃c:List (List cN×Addr×Value),
  Paired (λ(p:List cN×V) (q:List cN×Addr×Value)=>p.1=q.1/\H q.2.1=some (.tup (p.1.map kV))/\RelV p.2 q.2.2) kvs c /\
  ∃o e k,h.get? a=some o/\o.ExactDict/\o.data=.dict e k/\e.toList=c.map (entryOfKey (tupleKind (br P w)))/\(c.map (·.1)).Nodup
 |.set S n=>h.SetOf (intKind P w) a S n
 |.ins C dx fs=>H dx=some (.own a)/\fs.length<=1000/\dx≠a/\h.get? a=some (W.instObj C dx) /\
  ∃d,h.Ns1 dx d/\(∀f,fR (fs.lookup f) (d f))/\PySem.Within d (fs.map (·.1))
 |.own _=>∃o,h.get? a=some o
 |.xd fs=>∃d,h.Ns1 a d/\∀f,fR (fs.lookup f) (d f)
 |.rng lo hi=>∃ t u v,h.get? a=some { cls:=.type "range",data:=.fields #[.int lo t,.int hi u,.int 1 v] }
 |.frz o u=>h.get? a=some o/\aE H h a u
 |.tbl ps=>h.get? a=some {cls:=.none,data:=.fields ps}
 |.met f x=>h.get? a=some (W.methodObj (.ref f) (.ref x))
 |.ext φ=>φ h/\(∃o,h.get? a=some o)/\∀j i:Heap,φ j->(∀o,j.get? a=some o->i.get? a=some o)->φ i
def ff(H:Hp) (h:Heap):Prop:=∀a o,H a=some o->aE P w H h a o
end
theorem aE.lt(x:aE P w H h a o):a<h.objs.size:=by
 cases o with
 |lst xs=>obtain⟨_,_,_,_,e⟩:=x;exact bR e
 |tup xs=>obtain⟨_,_,_,p⟩:=x;exact p.lt
 |dK kvs=>obtain⟨_,_,_,_,o,_,_,e,_⟩:=x;exact bR e
 |dT kvs=>obtain⟨_,_,_,_,o,_,_,e,_⟩:=x;exact bR e
 |set S n=>obtain⟨o,_,_,_,e,_⟩:=x;exact bR e
 |ins C dx fs=>obtain⟨_,_,_,e,_⟩:=x;exact bR e
 |own y=>obtain⟨_,e⟩:=x;exact bR e
 |xd fs=>obtain⟨_,⟨_,_,_,e,_⟩,_⟩:=x;exact bR e
 |rng lo hi=>obtain⟨_,_,_,e⟩:=x;exact bR e
 |frz ob u=>obtain⟨e,_⟩:=x;exact bR e
 |tbl ps=>exact bR (show h.get? a=some _ from x)
 |met f y=>exact bR (show h.get? a=some _ from x)
 |ext φ=>obtain⟨_,⟨_,e⟩,_⟩:=x;exact bR e
section
variable {a:Addr}
theorem Paired.mapP{e g:Type}{F G:e->g->Prop}:∀{c:List e}{d:List g},Paired F c d->(∀a b,F a b->G a b)->Paired G c d
 |_,_,.nil,_=>.nil
 |_,_,.cons r t,f=>.cons (f _ _ r) (Paired.mapP t f)
end
theorem aE.stay{h:Heap}{s:Heap}(x:aE P w H h a o)(k:∀b u,(b=a\/H b=some (.own a))->h.get? b=some u->s.get? b=some u)
  (R:∀b,H b=some (.own a)->H' b=some (.own a))(J:∀b m,H b=some (.tup m)->H' b=some (.tup m)):aE P w H' s a o:=by
 induction o with
 |lst m=>obtain⟨z,l,n,r,e⟩:=x;exact⟨z,l,n,r,k _ _ (.inl rfl) e⟩
 |tup m=>obtain⟨z,l,r,g,e,c⟩:=x;exact⟨z,l,r,g,k _ _ (.inl rfl) e,c⟩
 |dK kvs=>obtain⟨z,y,Q,r,g,i,j,e,c⟩:=x;exact⟨z,y,Q,r,g,i,j,k _ _ (.inl rfl) e,c⟩
 |dT kvs=>
  obtain⟨z,y,m,r,g,i,j,e,c⟩:=x;exact⟨z,y,m,Paired.mapP r λp q z=>⟨z.1,J _ _ z.2.1,z.2.2⟩,g,i,j,k _ _ (.inl rfl) e,c⟩
 |set S n=>obtain⟨g,i,j,t,e,c⟩:=x;exact⟨g,i,j,t,k _ _ (.inl rfl) e,c⟩
 |ins C dx fs=>
  obtain⟨d,z,I,e,E,⟨A,i,j,T,c⟩,r⟩:=x;exact⟨R _ d,z,I,k _ _ (.inl rfl) e,E,⟨A,i,j,k _ _ (.inr d) T,c⟩,r⟩
 |own y=>obtain⟨g,e⟩:=x;exact⟨g,k _ _ (.inl rfl) e⟩
 |xd fs=>obtain⟨E,⟨A,i,j,e,c⟩,r⟩:=x;exact⟨E,⟨A,i,j,k _ _ (.inl rfl) e,c⟩,r⟩
 |rng lo hi=>obtain⟨t,u,v,e⟩:=x;exact⟨t,u,v,k _ _ (.inl rfl) e⟩
 |frz g u ih=>obtain⟨e,q⟩:=x;exact⟨k _ _ (.inl rfl) e,ih q⟩
 |tbl ps=>
  have e:h.get? a=some {cls:=.none,data:=.fields ps}:=x;show s.get? a=some {cls:=.none,data:=.fields ps};exact k a _ (.inl rfl) e
 |met f y=>
  have e:h.get? a=some (W.methodObj (.ref f) (.ref y)):=x;show s.get? a=some (W.methodObj (.ref f) (.ref y));exact k a _ (.inl rfl) e
 |ext φ=>obtain⟨p,⟨o,e⟩,G⟩:=x;exact⟨G _ _ p λo q=>k _ _ (.inl rfl) q,⟨o,k _ _ (.inl rfl) e⟩,G⟩
theorem ff.lt(x:ff P w H h)(e:H a=some o):a<h.objs.size:=(x a o e).lt
theorem ff.fresh(x:ff P w H h)(e:h.objs.size<=a):H a=none:=by
 cases q:H a with
 |none=>rfl
 |some u=>exact absurd (cD (x.lt q) e) (nX _)
theorem ff.kept{h':Heap}(x:ff P w H h)(k:∀b u,h.get? b=some u->h'.get? b=some u):ff P w H h':=λa o e=>
 (x a o e).stay (λb u _ q=>k b u q) (λ_ q=>q) λ_ _ q=>q
section
variable {P:Program}{w:World}{H:Hp}{h:Heap}{h':Heap}{a:Addr}{o:HO}
theorem ff.laid(x:ff P w H h)(k:∀b u,h.get? b=some u->h'.get? b=some u)(g:h.objs.size<=a)(d:aE P w (aD H a o) h' a o):ff P w (aD H a o) h':=λb u e=>by
 have f:=x.fresh g;by_cases hb:b=a
 ·subst hb;rw[fh] at e;cases e;exact d
 ·rw[ca hb] at e;exact(x b u e).stay (λc v _ q=>k c v q) (λc q=>by rw[ca (zx q f)];exact q) λc i q=>by rw[ca (zx q f)];exact q
end
def Rd(H:Hp) (a:Addr) (u:HO):Prop:=H a=some u\/∃o,H a=some (.frz o u)
theorem Rd.ok(r:Rd H a u)(x:ff P w H h):aE P w H h a u:=by
 rcases r with r|⟨o,r⟩
 ·exact x a u r
 ·obtain⟨_,q⟩:=x a _ r;exact q
noncomputable def xK:Option HO->Prop
 |some (.lst _)=>True
 |some (.dK _)=>True
 |some (.dT _)=>True
 |some (.set _ _)=>True
 |some (.ins _ _ _)=>True
 |some (.ext _)=>True
 |_=>False
theorem ff.write{h':Heap}(n:ff P w H h)(g:xK (H x))(m:e=x\/H e=some (.own x))(k:∀b u,b≠e->h.get? b=some u->h'.get? b=some u)(j:∃u,h'.get? e=some u)
  (i:aE P w (aD H x o') h' x o'):ff P w (aD H x o') h':=λb u q=>by
 have a:∀c y,H c=some (.own y)->c≠x:=λc y r z=>by subst z;rw[r] at g;exact g
 have d:∀c f,H c=some (.tup f)->c≠x:=λc f r z=>by subst z;rw[r] at g;exact g
 by_cases hb:b=x
 ·subst hb;rw[fh] at q;cases q;exact i
 ·rw[ca hb] at q;by_cases hbe:b=e
  ·have l:H b=some (.own x):=by
    rcases m with z|z
    ·exact absurd (hbe.trans z) hb
    ·rw[hbe];exact z
   rw[q] at l;cases l
   obtain⟨v,o⟩:=j;exact⟨v,by rw[hbe];exact o⟩
  ·refine(n b u q).stay (λc v hc r=>k c v ?_ r) (λc r=>by rw[ca (a c b r)];exact r) λc f r=>by rw[ca (d c f r)];exact r
   rcases hc with rfl|hc
   ·exact hbe
   ·rintro rfl;rcases m with z|z
    ·exact a c b hc z
    ·rw[hc] at z;cases z;exact hb rfl
structure Un (fs ex:List Addr) (H H':Hp) (h h':Heap):Prop where
 keep:∀b o,h.get? b=some o->H b=none->b∉fs->b∉ex->h'.get? b=some o
 slot:∀b o,h.get? b=some o->H b=none->b∈fs->b∉ex->∃sl,h'.get? b=some {o with slots:=sl}
 free:∀b o,h.get? b=some o->H b=none->b∉ex->H' b=none
 there:∀b o,h.get? b=some o->b∉ex->∃o',h'.get? b=some o'
 tups:∀b xs,H b=some (.tup xs)->H' b=some (.tup xs)
 frzs:∀b o u,H b=some (.frz o u)->H' b=some (.frz o u)
 tbls:∀b ps,H b=some (.tbl ps)->∃more,H' b=some (.tbl (ps++more))
theorem Un.any(u:Un fs ex H H1 h h1) (q:h.get? b=some ob)(n:H b=none)(a:b∉ex):∃c,h1.get? b=some {ob with slots:=c}:=by
 by_cases hb:b∈fs
 ·exact u.slot b ob q n hb a
 ·exact⟨ob.slots,u.keep b ob q n hb a⟩
theorem Un.kept{h:Heap}{h':Heap}(k:∀b u,h.get? b=some u->h'.get? b=some u):Un fs ex H H h h':=
 ⟨λb a q _ _ _=>k b a q,λb a q _ _ _=>⟨a.slots,k b a q⟩,λ_ _ _ n _=>n,λb a q _=>⟨a,k b a q⟩,λ_ _ q=>q,λ_ _ _ q=>q,λ_ c q=>⟨#[],by rw[q];simp⟩⟩
theorem Un.refl:Un fs ex H H h h:=Un.kept λ_ _ q=>q
section
variable {fs:List Addr}{ex:List Addr}{H:Hp}{h:Heap}{h':Heap}{a:Addr}{o:HO}
theorem Un.laid(k:∀b u,h.get? b=some u->h'.get? b=some u)(e:h.objs.size<=a)(c:H a=none):Un fs ex H (aD H a o) h h' where
 keep:=λb u q _ _ _=>k b u q
 slot:=λb u q _ _ _=>⟨u.slots,k b u q⟩
 free:=λb u q n _=>by rw[ca (ef (cD (bR q) e))];exact n
 there:=λb u q _=>⟨u,k b u q⟩
 tups:=λb d q=>by rw[ca (zx q c)];exact q
 frzs:=λb u d q=>by rw[ca (zx q c)];exact q
 tbls:=λb f q=>⟨#[],by rw[ca (zx q c),q];simp⟩
end
theorem Un.write{h:Heap}{h':Heap}(a:xK (H x))(j:e=x\/H e=some (.own x))(k:∀b u,b≠e->h.get? b=some u->h'.get? b=some u)(c:∃u,h'.get? e=some u):Un fs ex H (aD H x o) h h':=by
 have g:∀b,H b=none->b≠x:=λb n z=>by subst z;rw[n] at a;exact a
 have f:∀b,H b=none->b≠e:=λb n z=>by
  subst z;rcases j with r|r
  ·exact g b n r
  ·rw[n] at r;cases r
 have d:∀b u,H b=some u->¬ xK (some u)->b≠x:=λb u q l z=>by subst z;rw[q] at a;exact l a
 refine⟨λb u q n _ _=>k b u (f b n) q,λb u q n _ _=>⟨u.slots,k b u (f b n) q⟩,λb u q n _=>by rw[ca (g b n)];exact n,λb u q _=>?_,
  λb i q=>by rw[ca (d b _ q λz=>z)];exact q,λb u i q=>by rw[ca (d b _ q λz=>z)];exact q,λb m q=>⟨#[],by rw[ca (d b _ q λz=>z),q];simp⟩⟩
 by_cases hbe:b=e
 ·subst hbe;exact c
 ·exact⟨u,k b u hbe q⟩
def Aq(h:Heap) (H:Hp):List Addr:=(List.range h.objs.size).filter λa=>(H a).isSome
def iH(h:Heap) (H:Hp):Heap:=W.hideAll h (Aq h H)
theorem J7(h:Heap)(H:Hp):(iH h H).objs.size=h.objs.size:=W.hideAll_size _ _
theorem Ix{h:Heap}(e:h.get? b=some o)(n:H b=none):(iH h H).get? b=some o:=
 W.hideAll_get _ e λa=>by
  have q:(H b).isSome=true:=(wy.mp a).2;rw[n] at q;simp at q
theorem G0(e:(iH h H).get? b=some o):h.get? b=some o/\H b=none:=by
 have a:h.get? b=some o:=W.of_hideAll (Aq h H) e;refine⟨a,?_⟩;cases q:H b with
 |none=>rfl
 |some x=>
  have c:b∈Aq h H:=wy.mpr ⟨gq.mpr (bR a),by simp[q]⟩;have z:(iH h H).get? b=none:=W.hideAll_none (Aq h H) c;rw[z] at e;cases e
structure Mod (K:Fg) (mg:Str->Option Value) (base:Heap):Prop where
 kin:K.In base
 glob:base.Ns mainGlobals mg
 blt:∃ mb,base.Ns builtinsNs mb/\∀ x:Str,x≠"__name__"->mb x=bootBuiltins x
 nolimit:base.NoLimit
structure Cx where
 prog:Program
 w:World
 K:Fg
 mg:Str->Option Value
 base:Heap
 A:Around
 N:List Str
 s₀:Shared
 H₀:Hp
 env:Env
 outer:List Env
 stack:List Env
 ex:List Addr
 fn:Str->Bool
 calm:Bool
 pn:List (Addr×Obj)
 xe:Value->Shared->Prop
noncomputable def eW(l:List Env):List Addr:=l.filterMap (·.frame)
abbrev Cx.fs(X:Cx):List Addr:=eW X.outer
noncomputable def xE(a:Scope) (x:Str):Prop:=a.names.lookup x=some .local\/a.names.lookup x=some .cell\/a.names.lookup x=some .free
noncomputable def Loc(a:Scope) (x:Str):Prop:=a.names.lookup x=some .local\/a.names.lookup x=some .cell
noncomputable def Look(a:Env) (h:Heap) (m:Str->Option Value) (x:Str) (u:Value):Prop:=
 (a.kindOf x=some .local/\m x=some u)\/((a.kindOf x=some .cell\/a.kindOf x=some .free)/\∃c,a.cells.lookup x=some c/\h.IsCell c (some u))
structure Cx.Ok (X:Cx):Prop where
 mod:Mod X.K X.mg X.base
 kind:X.env.scope.kind=.function
 glob:X.env.globals=mainGlobals
 blt:X.env.builtins=builtinsNs
 above:X.s₀.heap.objs.size<=X.env.locals
 inj:∀x y c,X.env.cells.lookup x=some c->X.env.cells.lookup y=some c->x=y
 has:∀x,(X.env.kindOf x=some .cell\/X.env.kindOf x=some .free)->∃c,X.env.cells.lookup x=some c
 cab:∀x c,X.fn x=true->X.env.cells.lookup x=some c->X.s₀.heap.objs.size<=c
 hd:X.calm=true->X.A.handled=none
 frames:X.A.frames=some X.stack
 stk:X.stack=X.outer\/(X.stack=X.env::X.outer/\X.env.frame=some X.env.locals)
 exf:∀b∈X.ex,b≠X.env.locals/\∀x c,X.env.cells.lookup x=some c->c≠b
 bs:∀b o,X.base.get? b=some o->X.s₀.heap.get? b=some o/\X.H₀ b=none
 bsz:X.base.objs.size<=X.s₀.heap.objs.size
 noex:∀b o,X.base.get? b=some o->b∉X.ex
 exfs:∀b∈X.ex,b∉X.fs
 funs:X.s₀.heap.FunFrames X.base X.outer
 frf:∀b∈X.fs,X.H₀ b=none
def oV(A:Around) (H:Hp):Prop:=∀v,A.handled=some v->∃a o,v=.ref a/\H a=some (.frz o (.ext λ_=>True))/\∃b,o.data=.fields b/\b[2]?=some .none
theorem oV.map(h:oV A H)(f:∀b o u,H b=some (.frz o u)->H' b=some (.frz o u)):oV A H':=λv e=>let ⟨a,o,h1,h2,h3⟩:=h v e;⟨a,o,h1,f _ _ _ h2,h3⟩
theorem oV.none{A:Around}(h:A.handled=.none):oV A H:=λv e=>by rw[h] at e;cases e
structure Inv (X:Cx) (aW:List (Addr×Obj)) (σ:List (Option V)) (H:Hp) (s:Shared):Prop where
 ok:X.Ok
 os:s.os=X.s₀.os
 bare:AllBare s.gens
 base:Un X.fs X.ex X.H₀ H X.s₀.heap s.heap
 loc:∃m,s.heap.Ns X.env.locals m/\∀(i:Nat) (x:Str) (v:V),X.N[i]?=some x->σ[i]?=some (some v)->xE X.env.scope x->∃u,RelV v u/\Look X.env s.heap m x u
 cell:∀x c,X.env.cells.lookup x=some c->∃v,s.heap.IsCell c v
 free:H X.env.locals=none
 freeC:∀x c,X.env.cells.lookup x=some c->H c=none
 pin:∀p∈X.pn++aW,s.heap.get? p.1=some p.2/\H p.1=none/\p.1≠X.env.locals/\p.1∉X.fs/\∀v,p.2.data≠.cell v
 hok:ff X.prog X.w H s.heap
 len:σ.length=X.N.length
 hnd:oV X.A H
theorem Cx.Ok.nofr{X:Cx}(c:X.Ok) (e:X.base.get? b=some o):b∉X.fs:=λa=>by
 have:=(c.funs.mem a).1;rw[e] at this;cases this
theorem Inv.bs(I:Inv X aW σ H s):∀b o,X.base.get? b=some o->s.heap.get? b=some o/\H b=none:=λb o e=>
 ⟨I.base.keep b o (I.ok.bs b o e).1 (I.ok.bs b o e).2 (I.ok.nofr e) (I.ok.noex b o e),I.base.free b o (I.ok.bs b o e).1 (I.ok.bs b o e).2 (I.ok.noex b o e)⟩
theorem Inv.bk(I:Inv X aW σ H s):∀b o,X.base.get? b=some o->s.heap.get? b=some o:=λb o e=>(I.bs b o e).1
theorem Inv.mod(I:Inv X aW σ H s):Mod X.K X.mg X.base:=I.ok.mod
theorem Inv.kIn(I:Inv X aW σ H s):X.K.In s.heap:=I.ok.mod.kin.keeps I.bk
theorem Inv.lt(I:Inv X aW σ H s):X.env.locals<s.heap.objs.size:=let ⟨_,hn,_⟩:=I.loc;hn.lt
theorem Inv.sz(I:Inv X aW σ H s):X.s₀.heap.objs.size<=s.heap.objs.size:=aT I.ok.above (cX I.lt)
theorem Inv.nofs(I:Inv X aW σ H s) (h:s.heap.objs.size<=a):a∉X.fs:=λc=>by
 obtain⟨_,o,b,_⟩:=I.ok.funs.mem c;exact absurd (cD (bR b) (aT I.sz h)) (nX _)
theorem Inv.cne(I:Inv X aW σ H s):∀x c,X.env.cells.lookup x=some c->c≠X.env.locals:=λx c e z=>by
 obtain⟨v,o,f,d⟩:=I.cell x c e;obtain⟨m,⟨i,g,h,a,b,_⟩,_⟩:=I.loc;rw[z,a] at f;cases f;rw[b] at d;cases d
theorem Inv.funs(I:Inv X aW σ H s):s.heap.FunFrames X.base X.outer:=by
 have all:∀(l:List Env),(∀b∈eW l,b∈X.fs)->X.s₀.heap.FunFrames X.base l->s.heap.FunFrames X.base l:=by
  intro l
  induction l with
  |nil=>intro _ _;trivial
  |cons env r ih=>
   intro f h;obtain⟨i,⟨L,o,c,k,j,g⟩,m⟩:=h;have a:L∈X.fs:=f L (by unfold eW;rw[zY,c];exact f6);obtain⟨n,e⟩:=I.base.slot L o j (I.ok.frf L a) a λz=>I.ok.exfs L z a
   exact⟨i,⟨L,_,c,k,e,g⟩,ih (λb d=>f b (by unfold eW;rw[zY,c];exact gZ _ d)) m⟩
 exact all X.outer (λ_ d=>d) I.ok.funs
theorem Inv.stack(I:Inv X aW σ H s):s.heap.FunFrames X.base X.stack:=by
 rcases I.ok.stk with e|⟨e,b⟩
 ·rw[e];exact I.funs
 ·rw[e];obtain⟨m,a,_⟩:=I.loc;refine .cons (by rw[I.ok.kind];decide) b a ?_ I.funs;exact Heap.get?_none_of_le (aT I.ok.bsz I.ok.above)
theorem Inv.stkSub(I:Inv X aW σ H s):∀b∈eW X.stack,b∈X.env.locals::X.fs:=λb a=>by
 rcases I.ok.stk with e|⟨e,c⟩
 ·rw[e] at a;exact gZ _ a
 ·rw[e] at a;unfold eW at a;rw[zY,c] at a;exact a
theorem Inv.stkFree(I:Inv X aW σ H s):∀b∈eW X.stack,H b=none:=λb hb=>by
 rcases ce.mp (I.stkSub b hb) with e|hb
 ·rw[e];exact I.free
 ·obtain⟨_,o,a,_⟩:=I.ok.funs.mem hb;exact I.base.free b o a (I.ok.frf b hb) λz=>I.ok.exfs b z hb
section
variable {X:Cx}{aW:List (Addr×Obj)}{σ:List (Option V)}{H:Hp}{H':Hp}{s:Shared}{h':Heap}
theorem Inv.step{g':Array GenState}{t':Nat}{d':Drawn}{ch:List Addr}(I:Inv X aW σ H s)
  (h:∀b∈ch,(b∈X.ex\/X.s₀.heap.objs.size<=b)/\b≠X.env.locals/\(∀x c,X.env.cells.lookup x=some c->c≠b)/\∀p∈X.pn++aW,p.1≠b)
  (t:∀b o,b≠X.env.locals->b∉X.fs->b∉ch->s.heap.get? b=some o->H b=none->h'.get? b=some o)
  (C:∀b o,b≠X.env.locals->b∈X.fs->b∉ch->s.heap.get? b=some o->H b=none->∃sl,h'.get? b=some {o with slots:=sl})(f:∀b o,b∉ch->s.heap.get? b=some o->H b=none->H' b=none)
  (G:∀b o,b∉ch->s.heap.get? b=some o->∃U,h'.get? b=some U)
  (Q:∀b A,H b=some (.tup A)->H' b=some (.tup A))(E:∀b o u,H b=some (.frz o u)->H' b=some (.frz o u))(R:∀b ps,H b=some (.tbl ps)->∃Y,H' b=some (.tbl (ps++Y)))
  (ns:∀m,s.heap.Ns X.env.locals m->h'.Ns X.env.locals m)(a1:ff X.prog X.w H' h')(hg:AllBare g'):
  Inv X aW σ H' {s with heap:=h',gens:=g',drawn:=d',toks:=t'}:=by
 have S:∀b o,X.s₀.heap.get? b=some o->b≠X.env.locals:=λb o e=>ef (cD (bR e) I.ok.above)
 have w:∀b o,X.s₀.heap.get? b=some o->b∉X.ex->b∉ch:=λb o e a J=>by
  rcases(h b J).1 with z|z
  ·exact a z
  ·exact absurd (cD (bR e) z) (nX _)
 have g:∀x c,X.env.cells.lookup x=some c->∀v,s.heap.IsCell c v->h'.IsCell c v:=λx c e v a0=>by
  obtain⟨o,P,hd⟩:=a0;have j:c∉ch:=λz=>(h c z).2.2.1 x c e rfl
  by_cases hc:c∈X.fs
  ·obtain⟨sl,q⟩:=C c o (I.cne x c e) hc j P (I.freeC x c e);exact⟨_,q,hd⟩
  ·exact⟨o,t c o (I.cne x c e) hc j P (I.freeC x c e),hd⟩
 refine⟨I.ok,I.os,hg,⟨λb o e n J a=>?_,λb o e n J a=>?_,λb o e n a=>?_,λb o e a=>?_,λb A e=>Q b A (I.base.tups b A e),λb o A e=>E b o A (I.base.frzs b o A e),λb ps e=>?_⟩,?_,λx c e=>?_,?_,λx c e=>?_,λp hp=>?_,a1,I.len,I.hnd.map E⟩
 ·exact t b o (S b o e) J (w b o e a) (I.base.keep b o e n J a) (I.base.free b o e n a)
 ·obtain⟨sl,y⟩:=I.base.slot b o e n J a;obtain⟨a2,T⟩:=C b _ (S b o e) J (w b o e a) y (I.base.free b o e n a);exact⟨a2,T⟩
 ·obtain⟨U,y⟩:=I.base.there b o e a;exact f b U (w b o e a) y (I.base.free b o e n a)
 ·obtain⟨U,y⟩:=I.base.there b o e a;exact G b U (w b o e a) y
 ·obtain⟨m1,y⟩:=I.base.tbls b ps e;obtain⟨m2,T⟩:=R b _ y;exact⟨m1++m2,by rw[T,Array.append_assoc]⟩
 ·obtain⟨m,hn,hl⟩:=I.loc;refine⟨m,ns m hn,λi x v y T e3=>?_⟩;obtain⟨u,r,l⟩:=hl i x v y T e3;refine⟨u,r,?_⟩;rcases l with l|⟨k,c,e,z⟩
  ·exact .inl l
  ·exact .inr ⟨k,c,e,g x c e _ z⟩
 ·obtain⟨v,z⟩:=I.cell x c e;exact⟨v,g x c e v z⟩
 ·obtain⟨m,⟨o,_,_,P,_⟩,_⟩:=I.loc;exact f _ o (λz=>(h _ z).2.1 rfl) P I.free
 ·obtain⟨v,o,P,hd⟩:=I.cell x c e;exact f c o (λz=>(h c z).2.2.1 x c e rfl) P (I.freeC x c e)
 ·obtain⟨e,n,ne,nf,d⟩:=I.pin p hp;have j:p.1∉ch:=λz=>(h p.1 z).2.2.2 p hp rfl
  exact⟨t p.1 p.2 ne nf j e n,f p.1 p.2 j e n,ne,nf,d⟩
theorem Inv.un{t':Nat}(I:Inv X aW σ H s)(u:Un X.fs [] H H' s.heap h')(d:ff X.prog X.w H' h'):Inv X aW σ H' {s with heap:=h',toks:=t'}:=by
 obtain⟨m,⟨o,l,p,h,r⟩,_⟩:=id I.loc;obtain⟨v,k⟩:=u.any h I.free '&'
 exact I.step (g':=s.gens) (d':=s.drawn) (ch:=[]) (λ_ z=>nomatch z) (λb o _ f _ e n=>u.keep b o e n f '&') (λb o _ f _ e n=>u.slot b o e n f '&') (λb o _ e n=>u.free b o e n '&') (λb o _ e=>u.there b o e '&') u.tups u.frzs u.tbls (λt j=>by
  obtain⟨q,g,c,a,i⟩:=j;rw[h] at a;cases a
  exact⟨_,g,c,k,i⟩) d I.bare
theorem Inv.call{g':Array GenState}{t':Nat}{d':Drawn}{ch:List Addr}(I:Inv X aW σ H s)(u:Un (eW X.stack) ch H H' s.heap h')(i:ff X.prog X.w H' h')(v:AllBare g')
  (f:∀b∈ch,(b∈X.ex\/X.s₀.heap.objs.size<=b)/\b≠X.env.locals/\(∀x c,X.env.cells.lookup x=some c->c≠b)/\∀p∈X.pn++aW,p.1≠b):
  Inv X aW σ H' {s with heap:=h',gens:=g',drawn:=d',toks:=t'}:=by
 obtain⟨m,⟨o,w,y,k,r⟩,_⟩:=id I.loc;obtain⟨E,h⟩:=u.any k I.free λz=>(f _ z).2.1 rfl
 exact I.step (ch:=ch) f (λb o h t a e n=>u.keep b o e n (λz=>(ce.mp (I.stkSub b z)).elim h t) a) (λb o _ _ a e n=>u.any e n a) (λb o a e n=>u.free b o e n a) (λb o a e=>u.there b o e a) u.tups u.frzs u.tbls (λC q=>by
  obtain⟨A,j,g,d,l⟩:=q;rw[k] at d;cases d
  exact⟨_,j,g,h,l⟩) i v
end
section
variable {X:Cx}{aW:List (Addr×Obj)}{σ:List (Option V)}{H:Hp}{s:Shared}{h':Heap}
theorem Inv.turned{t':Nat}{it:Addr}(I:Inv X aW σ H s)(k:∀b o,b≠it->s.heap.get? b=some o->h'.get? b=some o)(A:H it=none)(f:it≠X.env.locals)
  (w:it∈X.ex\/X.s₀.heap.objs.size<=it)(j:∀x c,X.env.cells.lookup x=some c->c≠it)(i:∀p∈X.pn++aW,p.1≠it):Inv X aW σ H {s with heap:=h',toks:=t'}:=by
 have d:∀b u,H b=some u->b≠it:=λb u e z=>by rw[z,A] at e;cases e
 refine I.step (g':=s.gens) (d':=s.drawn) (ch:=[it]) (λb t=>?_) (λb o _ _ a e _=>k b o (λz=>a (by simp[z])) e) (λb o _ _ a e _=>⟨o.slots,k b o (λz=>a (by simp[z])) e⟩) (λ_ _ _ _ n=>n)
  (λb o a e=>⟨o,k b o (λz=>a (by simp[z])) e⟩) (λ_ _ e=>e) (λ_ _ _ e=>e) (λb C e=>⟨#[],by rw[e];simp⟩) (λm l=>?_) (λb u e=>?_) I.bare
 ·have e:b=it:=by simpa using t
  subst e;exact⟨w,f,j,i⟩
 ·obtain⟨o,g,h,y,r⟩:=l;exact⟨o,g,h,k _ o (cb f) y,r⟩
 ·refine(I.hok b u e).stay (λc v a q=>k c v ?_ q) (λ_ q=>q) λ_ _ q=>q
  rcases a with z|z
  ·rw[z];exact d b u e
  ·exact d c _ z
end
theorem Inv.tok(I:Inv X aW σ H s)(t:Nat):Inv X aW σ H {s with toks:=t}:=I.un (h':=s.heap) (t':=t) Un.refl I.hok
theorem Inv.kept{a:Heap}(I:Inv X aW σ H s)(k:∀b u,s.heap.get? b=some u->a.get? b=some u):Inv X aW σ H {s with heap:=a,toks:=t'}:=I.un (Un.kept k) (I.hok.kept k)
theorem Inv.laid{d:Heap}(I:Inv X aW σ H s)(k:∀b u,s.heap.get? b=some u->d.get? b=some u)(c:s.heap.objs.size<=a)(e:aE X.prog X.w (aD H a o) d a o):
 Inv X aW σ (aD H a o) {s with heap:=d,toks:=t'}:=I.un (Un.laid k c (I.hok.fresh c)) (I.hok.laid k c e)
theorem Inv.write{h':Heap}(I:Inv X aW σ H s)(d:xK (H x))(f:e=x\/H e=some (.own x))(k:∀b u,b≠e->s.heap.get? b=some u->h'.get? b=some u)(a:∃u,h'.get? e=some u)
 (c:aE X.prog X.w (aD H x o) h' x o):Inv X aW σ (aD H x o) {s with heap:=h',toks:=t'}:=I.un (Un.write d f k a) (I.hok.write d f k a c)
theorem Inv.pins_of(I:Inv X aW σ H s)(h:∀p∈a,s.heap.get? p.1=some p.2/\H p.1=none/\p.1≠X.env.locals/\p.1∉X.fs/\∀v,p.2.data≠.cell v):Inv X a σ H s:=
 ⟨I.ok,I.os,I.bare,I.base,I.loc,I.cell,I.free,I.freeC,λp b=>(cM.mp b).elim (λz=>I.pin p (ra _ z)) (h p),I.hok,I.len,I.hnd⟩
theorem Na{N:List Str}(d:N.Nodup){i j:Nat}{x:Str}(a:N[i]?=some x)(b:N[j]?=some x):i=j:=by
 obtain⟨g,c⟩:=du.mp a;obtain⟨f,e⟩:=du.mp b;exact(List.getElem_inj d).mp (c.trans e.symm)
theorem NR{s:Shared}{M:Model}{i:Nat}{x:Str}(I:Inv X aW σ H s)(hN:X.N.Nodup)(Y:X.N[i]?=some x)(t:Loc X.env.scope x)(r:RelV v u)
  (h:∀s',Inv X aW (σ.set i (some v)) H s'->(∃a,Heap.SameBut a s.heap s'.heap/\(a=X.env.locals\/X.env.cells.lookup x=some a))->Q () s')(hf:X.fn x=true\/X.env.scope.names.lookup x=some .local:=by first|exact .inl rfl|exact .inr rfl|assumption):wpAny M A (storeName X.env x u) Q E s:=by
 obtain⟨m,hn,hl⟩:=id I.loc;have T:(X.env.scope.kind==.class||(X.env.scope.kind==.module&&X.env.locals != X.env.globals))=false:=by rw[I.ok.kind];rfl
 have G:i < σ.length:=by rw[I.len];exact(du.mp Y).1
 have J:=I.cne;have g:∀{a:Addr}{h':Heap},(∃o,s.heap.get? a=some o/\H a=none)->Heap.SameBut a s.heap h'->ff X.prog X.w H h':=λ{a h'} ha f b ob e=>by
  obtain⟨_,_,w⟩:=ha;refine(I.hok b ob e).stay (λc w' hc q=>(f.2 c ?_).trans q) (λ_ q=>q) λ_ _ q=>q
  rintro rfl;rcases hc with rfl|hc
  ·rw[w] at e;cases e
  ·rw[w] at hc;cases hc
 rcases t with hk|hk
 ·refine wpAny_storeName_local hk hn (λh' a2 f=>?_) T;obtain⟨oL,_,_,a1,_⟩:=id hn;refine h _ ⟨I.ok,I.os,I.bare,⟨λb o e n R t=>?_,λb o e n R t=>?_,I.base.free,λb o e t=>?_,I.base.tups,I.base.frzs,I.base.tbls⟩,⟨_,a2,λj y v' l C e3=>?_⟩,λy c e=>?_,I.free,I.freeC,λp hp=>?_,g ⟨oL,a1,I.free⟩ f,by simpa using I.len,I.hnd⟩ ⟨_,f,.inl rfl⟩
  ·exact(f.2 b (ef (cD (bR e) I.ok.above))).trans (I.base.keep b o e n R t)
  ·obtain⟨sl,l⟩:=I.base.slot b o e n R t;exact⟨sl,(f.2 b (ef (cD (bR e) I.ok.above))).trans l⟩
  ·obtain⟨o',l⟩:=I.base.there b o e t;exact⟨o',(f.2 b (ef (cD (bR e) I.ok.above))).trans l⟩
  ·by_cases hj:j=i
   ·subst hj;rw[Y] at l;cases l
    rw[lM G] at C;cases C;exact⟨u,r,.inl ⟨hk,by simp⟩⟩
   ·rw[jF (cb hj)] at C;obtain⟨u',r',q⟩:=hl j y v' l C e3;refine⟨u',r',?_⟩;rcases q with⟨k,e⟩|⟨k,c,e,z⟩
    ·refine .inl ⟨k,?_⟩;have:y≠x:=λe=>hj (Na hN l (e ▸ Y))
     simp[this,e]
    ·exact .inr ⟨k,c,e,z.sameBut f (J y c e)⟩
  ·obtain⟨w',z⟩:=I.cell y c e;exact⟨w',z.sameBut f (J y c e)⟩
  ·obtain⟨e,n,ne,nf,d⟩:=I.pin p hp;exact⟨(f.2 p.1 ne).trans e,n,ne,nf,d⟩
 ·have P:X.fn x=true:=by
   rcases hf with z|z
   ·exact z
   ·rw[z] at hk;cases hk
  obtain⟨c,hc⟩:=I.ok.has x (.inl hk);obtain⟨w',z⟩:=I.cell x c hc;refine wpAny_storeName_cell I.ok.kind hk hc z (λh' S f=>?_);obtain⟨oc,a0,U⟩:=id z;refine h {s with heap:=h'} ⟨I.ok,I.os,I.bare,⟨λb o e n R t=>?_,λb o e n R t=>?_,I.base.free,λb o e t=>?_,I.base.tups,I.base.frzs,I.base.tbls⟩,⟨m,hn.sameBut f (cb (J x c hc)),λj y v' l C e3=>?_⟩,λy c' e=>?_,I.free,I.freeC,λp hp=>?_,g ⟨oc,a0,I.freeC x c hc⟩ f,by simpa using I.len,I.hnd⟩ ⟨c,f,.inr hc⟩
  ·exact(f.2 b (ef (cD (bR e) (I.ok.cab x c P hc)))).trans (I.base.keep b o e n R t)
  ·obtain⟨sl,l⟩:=I.base.slot b o e n R t;exact⟨sl,(f.2 b (ef (cD (bR e) (I.ok.cab x c P hc)))).trans l⟩
  ·obtain⟨o',l⟩:=I.base.there b o e t;exact⟨o',(f.2 b (ef (cD (bR e) (I.ok.cab x c P hc)))).trans l⟩
  ·by_cases hj:j=i
   ·subst hj;rw[Y] at l;cases l
    rw[lM G] at C;cases C;exact⟨u,r,.inr ⟨.inl hk,c,hc,S⟩⟩
   ·rw[jF (cb hj)] at C;obtain⟨u',r',q⟩:=hl j y v' l C e3;refine⟨u',r',?_⟩;rcases q with q|⟨k,c',e,z'⟩
    ·exact .inl q
    ·refine .inr ⟨k,c',e,z'.sameBut f ?_⟩;rintro rfl;exact hj (Na hN l (I.ok.inj _ _ _ e hc ▸ Y))
  ·by_cases hcc:c'=c
   ·subst hcc;exact⟨_,S⟩
   ·obtain⟨w2,z2⟩:=I.cell y c' e;exact⟨w2,z2.sameBut f hcc⟩
  ·obtain⟨e,n,ne,nf,d⟩:=I.pin p hp;refine⟨(f.2 p.1 ?_).trans e,n,ne,nf,d⟩;intro q;rw[q,a0] at e;have q':oc=p.2:=eg e;exact d w' (by rw[←q'];exact U)
theorem yu{M:Model}(I:Inv X aW σ H s)(e:X.N.Nodup)(d:X.N[i]?=some x)(f:Loc X.env.scope x)(r:RelV v u)
  (h:∀a,Inv X aW (σ.set i (some v)) H a->Q () a)(c:X.fn x=true\/X.env.scope.names.lookup x=some .local:=by first|exact .inl rfl|exact .inr rfl|assumption):wpAny M A (storeName X.env x u) Q E s:=
 NR I e d f r (λa b _=>h a b) c
theorem Inv.call'{s':Shared}{ch:List Addr}(I:Inv X h σ H s)(k:s'.os=s.os)(u:Un (eW X.stack) ch H H' s.heap s'.heap)(a:ff X.prog X.w H' s'.heap)(l:AllBare s'.gens)
  (d:∀b∈ch,(b∈X.ex\/X.s₀.heap.objs.size<=b)/\b≠X.env.locals/\(∀x c,X.env.cells.lookup x=some c->c≠b)/\∀p∈X.pn++h,p.1≠b):Inv X h σ H' s':=by
 obtain⟨m,f,i,g,j⟩:=s';have e:j=s.os:=k;subst e;exact I.call (g':=f) (t':=g) (d':=i) u a l d
abbrev XK:=Value->Option Addr->Hp->Prop
noncomputable abbrev St:=List (Option V)
abbrev VK:=V->Hp->Prop
abbrev TE:=St->Hp->VK->Prop
abbrev TT:=St->Hp->(Bool->Hp->Prop)->Prop
abbrev TA:=St->Hp->(List V->Hp->Prop)->Prop
structure fD where
 nx:St->Hp->Prop
 rt:VK
 bk:St->Hp->Prop:=λ_ _=>False
 ct:St->Hp->Prop:=λ_ _=>False
abbrev TS:=fD->St->Hp->Prop
def EP(X:Cx) (c:List (Addr×Obj)) (b:St) (Q:VK) (u:Value) (d:Shared):Prop:=∃v a,Inv X c b a d/\RelV v u/\Q v a
def TP(X:Cx) (d:List (Addr×Obj)) (c:St) (Q:Bool->Hp->Prop) (b:Bool) (e:Shared):Prop:=∃a,Inv X d c a e/\Q b a
def AP(X:Cx) (f:List (Addr×Obj)) (c:St) (Q:List V->Hp->Prop) (d:List Value) (e:Shared):Prop:=∃b a,Inv X f c a e/\aq b d/\Q b a
def SP(X:Cx) (c:List (Addr×Obj)) (D:fD) (f:Flow) (d:Shared):Prop:=
 match f with
 |.next=>∃a b,Inv X c a b d/\D.nx a b
 |.brk=>∃a b,Inv X c a b d/\D.bk a b
 |.cont=>∃a b,Inv X c a b d/\D.ct a b
 |.ret u=>∃v a b,Inv X c a b d/\RelV v u/\D.rt v b
def PE(X:Cx) (e:Expr) (t:TE):Prop:=
 ∀(b:List (Addr×Obj)) (s:Shared) (a:St) (H:Hp) (Q:VK),Inv X b a H s->t a H Q->wpAny (model X.prog X.w) X.A (eval e X.env) (EP X b a Q) X.xe s
def PT(X:Cx) (e:Expr) (t:TT):Prop:=
 ∀(b:List (Addr×Obj)) (s:Shared) (a:St) (H:Hp) (Q:Bool->Hp->Prop),Inv X b a H s->t a H Q->wpAny (model X.prog X.w) X.A (isTrue e X.env (eval e X.env)) (TP X b a Q) X.xe s
def PW(X:Cx) (e:Expr) (t:TT):Prop:=
 ∀(a:Sem Value) (c:List (Addr×Obj)) (s:Shared) (b:St) (H:Hp) (Q:Bool->Hp->Prop),Inv X c b H s->t b H Q->wpAny (model X.prog X.w) X.A (isTrue e X.env a) (TP X c b Q) X.xe s
theorem PW.pt(h:PW X e t):PT X e t:=h _
def PA(X:Cx) (d:List Expr) (t:TA):Prop:=
 ∀(b:Pos) (c:List (Addr×Obj)) (s:Shared) (a:St) (H:Hp) (Q:List V->Hp->Prop),Inv X c a H s->t a H Q->wpAny (model X.prog X.w) X.A (spliced (backTo b (starEach d X.env))) (AP X c a Q) X.xe s
def PS(X:Cx) (c:Stmt) (t:TS):Prop:=
 ∀(b:List (Addr×Obj)) (s:Shared) (a:St) (H:Hp) (D:fD),Inv X b a H s->t D a H->wpAny (model X.prog X.w) X.A (exec c X.env) (SP X b D) X.xe s
def io(X:Cx) (c:List Stmt) (t:TS):Prop:=
 ∀(b:List (Addr×Obj)) (s:Shared) (a:St) (H:Hp) (D:fD),Inv X b a H s->t D a H->wpAny (model X.prog X.w) X.A (execs c X.env) (SP X b D) X.xe s
theorem bp{b:Type}{t:Sem b}{Q c:b->Shared->Prop}{M:Model}(h:wpAny M A t Q E s)(d:∀a s,Q a s->c a s):wpAny M A t c E s:=hX h d λ_ _ x=>x
def lO(i:Nat):TE:=λa H Q=>∃v,a[i]?=some (some v)/\Q v H
def tC(v:V):TE:=λ_ H Q=>Q v H
theorem Fy{X:Cx}(q:X.N[i]?=some x)(o:xE X.env.scope x)(d:(x==("__debug__" : Str))=false:=by decide)(f:(x==("__classdict__" : Str))=false:=by decide):PE X (.Name x pos) (lO i):=by
 intro p s j H Q I h;obtain⟨v,e,h⟩:=h;obtain⟨m,t,k⟩:=I.loc;obtain⟨u,r,l⟩:=k i x v q e o;have b:EP X p j Q u s:=⟨v,H,I,r,h⟩
 rcases l with⟨hk,n⟩|⟨hk,c,g,a⟩
 ·exact wpAny_Name (wpAny_loadName_local I.ok.kind hk t n b) d
 ·rcases hk with hk|hk
  ·exact wpAny_Name (wpAny_loadName_cell I.ok.kind hk g a b) d
  ·exact wpAny_Name (wpAny_loadName_free I.ok.kind hk g a b f) d
theorem Fs{i j pos}:PE X (.Constant (.int i) j pos) (tC (.int i)):=λ_ _ _ H _ I h=>wpAny_Constant_int ⟨.int i,H,I.tok _,⟨_,rfl⟩,h⟩
theorem DU{b j pos}:PE X (.Constant (.bool b) j pos) (tC (.bl b)):=λ_ _ _ H _ I h=>Constant_bool ⟨.bl b,H,I,rfl,h⟩
theorem Ft{j pos}:PE X (.Constant .none j pos) (tC .non):=λ_ _ _ H _ I h=>Constant_none ⟨.non,H,I,rfl,h⟩
theorem Fw{x j pos}:PE X (.Constant (.str x) j pos) (tC (.str x)):=λ_ _ _ H _ I h=>Calls.Constant_str ⟨.str x,H,I.tok _,⟨_,rfl⟩,h⟩
noncomputable def Gl(X:Cx) (x:Str):Prop:=X.env.kindOf x=some .globalImplicit
theorem xV(I:Inv X aW σ H s)(c:Gl X x)(b:X.mg x=some u)(h:Q u s)
  (a:(x==("__debug__" : Str))=false:=by decide):wpAny (model X.prog X.w) X.A (eval (.Name x pos) X.env) Q E s:=
 LK I.ok.kind c (Calls.loadGlobal_global (by rw[I.ok.glob];exact I.mod.glob.keeps I.bk) b h) a
theorem pW(I:Inv X aW σ H s)(f:Gl X x)(b:X.mg x=none)(d:bootBuiltins x=some u)(h:Q u s)
  (g:x≠"__name__":=by decide)(a:(x==("__debug__" : Str))=false:=by decide):wpAny (model X.prog X.w) X.A (eval (.Name x pos) X.env) Q E s:=by
 obtain⟨i,e,c⟩:=I.mod.blt;exact LK I.ok.kind f (Calls.loadGlobal_builtin (by rw[I.ok.glob];exact I.mod.glob.keeps I.bk) b (by rw[I.ok.blt];exact e.keeps I.bk) ((c x g).trans d) h) a
theorem jy(c:Gl X x)(b:X.mg x=some u)(r:RelV v u)(a:(x==("__debug__" : Str))=false:=by decide):PE X (.Name x pos) (tC v):=
 λ_ _ _ H _ I h=>xV I c b ⟨v,H,I,r,h⟩ a
theorem kO(d:Gl X x)(b:X.mg x=none)(c:bootBuiltins x=some u)(r:RelV v u)(e:x≠"__name__":=by decide)(a:(x==("__debug__" : Str))=false:=by decide):PE X (.Name x pos) (tC v):=
 λ_ _ _ H _ I h=>pW I d b c ⟨v,H,I,r,h⟩ e a
def L9(t u:TT):TT:=λa H Q=>t a H λc H1=>if c=true then u a H1 Q else Q false H1
def SN(t u:TT):TT:=λa H Q=>t a H λc H1=>if c=true then Q true H1 else u a H1 Q
def LW(t:TT):TT:=λa H Q=>t a H λc H1=>Q (!c) H1
section
variable {X:Cx}{a:Expr}{pos:Pos}{tA:TT}
theorem oC(d:PT X a tA):PW X (.BoolOp .And [a] pos) tA:=by
 intro i f s b H Q I h;refine isTrue_and (bp (d f s b H Q I h) λc g e=>?_);cases c with
 |true=>exact isTrue_and_nil e
 |false=>exact e
theorem ry(d:PT X a tA):PW X (.BoolOp .Or [a] pos) tA:=by
 intro i f s b H Q I h;refine isTrue_or (bp (d f s b H Q I h) λc g e=>?_);cases c with
 |false=>exact isTrue_or_nil e
 |true=>exact e
end
section
variable {X:Cx}{a:Expr}{b:Expr}{pos:Pos}{tA:TT}{tB':TT}{rest:List Expr}
theorem rz(j:PT X a tA)(m:PW X (.BoolOp .And (b::rest) pos) tB'):PW X (.BoolOp .And (a::b::rest) pos) (L9 tA tB'):=by
 intro l g s e H Q I h;refine isTrue_and (bp (j g s e H _ I h) λc k d=>?_);obtain⟨H1,i,f⟩:=d;cases c with
 |true=>exact m l g k e H1 Q i f
 |false=>exact⟨H1,i,f⟩
theorem xh(j:PT X a tA)(m:PW X (.BoolOp .Or (b::rest) pos) tB'):PW X (.BoolOp .Or (a::b::rest) pos) (SN tA tB'):=by
 intro l g s e H Q I h;refine isTrue_or (bp (j g s e H _ I h) λc k d=>?_);obtain⟨H1,i,f⟩:=d;cases c with
 |true=>exact⟨H1,i,f⟩
 |false=>exact m l g k e H1 Q i f
end
theorem FH(e:PT X a tA):PT X (.UnaryOp .Not a pos) (LW tA):=by
 intro d s b H Q I h;exact isTrue_not (e d s b H (λc H1=>Q (!c) H1) I h)
def wV(b d:TE):TE:=λa H Q=>b a H λx H1=>∃c,x=.bl c/\if c=true then d a H1 Q else Q (.bl false) H1
def wQ(b:TE):TE:=λa H Q=>b a H λx H1=>∃c,x=.bl c/\Q (.bl (!c)) H1
theorem Fv{op} (h:PE X a t):PE X (.BoolOp op [a] pos) t:=λc s b H Q I d=>BoolOp_one (h c s b H Q I d)
section
variable {X:Cx}{a:Expr}{b:Expr}{ta:TE}{tb:TE}{pos:Pos}{rest:List Expr}
theorem Fp(j:PE X a ta)(m:PE X (.BoolOp .And (b::rest) pos) tb):PE X (.BoolOp .And (a::b::rest) pos) (wV ta tb):=by
 intro g s f H Q I h;refine BoolOp_and (bp (j g s f H _ I h) λv k e=>?_);obtain⟨x,H1,i,l,d⟩:=e;obtain⟨c,rfl,d⟩:=d;cases l;refine pq ?_;cases c with
 |true=>exact m g k f H1 Q i d
 |false=>exact⟨.bl false,H1,i,rfl,d⟩
end
section
variable {X:Cx}{a:Expr}{ta:TE}{pos:Pos}
theorem Fu(f:PE X a ta):PE X (.UnaryOp .Not a pos) (wQ ta):=by
 intro i s e H Q I h;refine UnaryOp_ (bp (f i s e H _ I h) λv k d=>?_);obtain⟨x,H1,j,g,b⟩:=d;obtain⟨c,rfl,b⟩:=b;cases g;exact not_of (pq ⟨.bl (!c),H1,j,rfl,b⟩)
end
def SO(t:TT) (b d:TE):TE:=λa H Q=>t a H λc H1=>if c=true then b a H1 Q else d a H1 Q
section
variable {X:Cx}{a:Expr}{b:Expr}{ta:TE}{tb:TE}{pos:Pos}{tA:TT}
theorem IV{c:Expr}(m:PT X c tA)(l:PE X a ta)(n:PE X b tb):PE X (.IfExp c a b pos) (SO tA ta tb):=by
 intro f s e H Q I h;refine wpAny_IfExp (bp (m f s e H _ I h) λd i g=>?_);obtain⟨H1,k,j⟩:=g;cases d with
 |true=>exact l f i e H1 Q k j
 |false=>exact n f i e H1 Q k j
end
def cp(K:Fg) (H:Hp) (a:Addr) (c:List V):Prop:=
 Rd H a (.lst c) \/
  ∃(o:Obj) (b:Array Value) (n:Nat),K.lookup a=some o/\o.cls=.type "list"/\o.dict=none/\o.data=.seq b n/\b.size<=sizeLine/\aq c b.toList
def bD(K:Fg) (H:Hp) (a:Addr) (c:List V):Prop:=
 Rd H a (.tup c) \/
  ∃(o:Obj) (b:Array Value) (n:Nat),K.lookup a=some o/\o.cls=.type "tuple"/\o.data=.seq b n/\b.size<=sizeLine/\aq c b.toList
noncomputable def MI:Value->Option V
 |.none=>some .non
 |.bool b=>some (.bl b)
 |.int i _=>some (.int i)
 |.str x _=>some (.str x)
 |.bytes b _=>some (.byt b)
 |.float b _=>some (.flt b)
 |.ref a=>some (.ref a)
 |.type n=>some (.ty n)
 |_=>none
theorem RelV.abs(r:RelV x u):MI u=some x:=by
 cases x with
 |non=>cases r;rfl
 |bl _=>cases r;rfl
 |int _=>obtain⟨t,rfl⟩:=r;rfl
 |str _=>obtain⟨t,rfl⟩:=r;rfl
 |byt _=>obtain⟨t,rfl⟩:=r;rfl
 |flt _=>obtain⟨t,rfl⟩:=r;rfl
 |ref _=>cases r;rfl
 |ty _=>cases r;rfl
theorem RelV.inj(r:RelV x u)(q:RelV y u):x=y:=eg (r.abs.symm.trans q.abs)
theorem aq.inj:∀{c b:List V}{a:List Value},aq c a->aq b a->c=b
 |_,_,_,.nil,.nil=>rfl
 |_,_,_,.cons r t,.cons r' t'=>by rw[r.inj r',aq.inj t t']
section
variable {H:Hp}{a:Addr}{xs:List V}
theorem cp.of{K:Fg}(h:H a=some (.lst xs)):cp K H a xs:=.inl (.inl h)
theorem bD.of{K:Fg}(h:H a=some (.tup xs)):bD K H a xs:=.inl (.inl h)
end
theorem Inv.list(I:Inv X aW σ H s)(h:cp X.K H a xs):∃b:List Value,aq xs b/\PlainL s.heap a b.toArray/\xs.length<=sizeLine:=by
 rcases h with h|⟨o,b,n,g,f,c,d,i,r⟩
 ·obtain⟨z,b,n,r,e⟩:=h.ok I.hok;exact⟨b,r,⟨_,n,e,rfl,rfl,rfl⟩,z⟩
 ·refine⟨b.toList,r,⟨o,n,I.kIn a o g,f,c,by simpa using d⟩,?_⟩;have e:=r.length;simp only[gL] at e;lia
theorem Inv.tuple(I:Inv X aW σ H s)(h:bD X.K H a xs):∃b:List Value,aq xs b/\IsTup s.heap a b.toArray/\xs.length<=sizeLine:=by
 rcases h with h|⟨o,b,n,f,d,c,g,r⟩
 ·obtain⟨z,b,r,p⟩:=h.ok I.hok;exact⟨b,r,p,z⟩
 ·refine⟨b.toList,r,⟨o,I.kIn a o f,d,n,by simpa using c⟩,?_⟩;have e:=r.length;simp only[gL] at e;lia
theorem Inv.list_inj(I:Inv X aW σ H s)(h:cp X.K H a xs)(i:cp X.K H a ys):xs=ys:=by
 obtain⟨b,r,⟨o,n,e,_,_,d⟩,_⟩:=I.list h;obtain⟨its',j,⟨k,l,c,_,_,f⟩,_⟩:=I.list i;rw[e] at c;cases c
 rw[d] at f;injection f with g _
 have:b=its':=by simpa using congrArg Array.toList g
 subst this;exact r.inj j
theorem Inv.tuple_inj(I:Inv X aW σ H s)(h:bD X.K H a xs)(i:bD X.K H a ys):xs=ys:=by
 obtain⟨b,r,⟨o,e,_,n,d⟩,_⟩:=I.tuple h;obtain⟨its',j,⟨k,c,_,l,f⟩,_⟩:=I.tuple i;rw[e] at c;cases c
 rw[d] at f;injection f with g _
 have:b=its':=by simpa using congrArg Array.toList g
 subst this;exact r.inj j
noncomputable abbrev Cx.wish(X:Cx) (E:Value->Shared->Prop):Cx:={X with xe:=E}
abbrev Cx.nox(X:Cx):Cx:=X.wish λ_ _=>False
theorem Cx.Ok.wish{X:Cx}(a:X.Ok)(E:Value->Shared->Prop):(X.wish E).Ok:=
 ⟨a.mod,a.kind,a.glob,a.blt,a.above,a.inj,a.has,a.cab,a.hd,a.frames,a.stk,a.exf,a.bs,a.bsz,a.noex,a.exfs,a.funs,a.frf⟩
theorem Cx.Ok.unwish{X:Cx}(a:(X.wish E).Ok):X.Ok:=
 ⟨a.mod,a.kind,a.glob,a.blt,a.above,a.inj,a.has,a.cab,a.hd,a.frames,a.stk,a.exf,a.bs,a.bsz,a.noex,a.exfs,a.funs,a.frf⟩
theorem Inv.wish(I:Inv X aW σ H s)(E:Value->Shared->Prop):Inv (X.wish E) aW σ H s:=⟨I.ok.wish E,I.os,I.bare,I.base,I.loc,I.cell,I.free,I.freeC,I.pin,I.hok,I.len,I.hnd⟩
theorem Inv.unwish{X:Cx}(I:Inv (X.wish E) aW σ H s):Inv X aW σ H s:=⟨I.ok.unwish,I.os,I.bare,I.base,I.loc,I.cell,I.free,I.freeC,I.pin,I.hok,I.len,I.hnd⟩
theorem SP.unwish{X:Cx}{D:fD}(h:SP (X.wish E) aW D f s'):SP X aW D f s':=by
 cases f with
 |next=>obtain⟨a,b,I,q⟩:=h;exact⟨a,b,I.unwish,q⟩
 |brk=>obtain⟨a,b,I,q⟩:=h;exact⟨a,b,I.unwish,q⟩
 |cont=>obtain⟨a,b,I,q⟩:=h;exact⟨a,b,I.unwish,q⟩
 |ret u=>obtain⟨v,a,b,I,r,q⟩:=h;exact⟨v,a,b,I.unwish,r,q⟩
section
variable {X:Cx}{aW:List (Addr×Obj)}{σ:St}{H:Hp}{s:Shared}
theorem io.nox{a:List Stmt}{t:TS}(h:io X.nox a t):io X a t:=λaW s σ H D I b=>
 hX (h aW s σ H D (I.wish _) b) (λ_ _ q=>q.unwish) λ_ _ z=>False.elim z
end
def wR:TS:=λD a H=>D.nx a H
def LU(t u:TS):TS:=λD a H=>t {D with nx:=u D} a H
theorem vZ:io X [] wR:=λ_ _ a H _ I h=>ww ⟨a,H,I,h⟩
section
variable {X:Cx}{au:Stmt}{rest:List Stmt}{t:TS}{u:TS}
theorem Br(j:PS X au t)(g:io X rest u):io X (au::rest) (LU t u):=by
 intro b s c H D I h;refine wpAny_execs_cons (bp (j b s c H {D with nx:=u D} I h) λf e q=>?_);cases f with
 |next=>
  obtain⟨a,d,i,q⟩:=q;exact g b e a d D i q
 |ret v=>exact q
 |brk=>exact q
 |cont=>exact q
end
section
variable {X:Cx}{au:Stmt}{t:TS}
theorem AT(c:PS X au t):io X [au] t:=by
 intro b s a H D I h;refine wpAny_execs_cons (bp (c b s a H D I h) λf d q=>?_);cases f with
 |next=>exact ww q
 |ret v=>exact q
 |brk=>exact q
 |cont=>exact q
end
def ri:TS:=λD a H=>D.bk a H
theorem IY:PS X (.Break pos) ri:=λ_ _ a H _ I h=>wpAny_Break ⟨a,H,I,h⟩
theorem Inv.quiet(I:Inv X aW σ H s):interactive X.env=false:=by simp[interactive,I.ok.kind]
def wS(b:TE):TS:=λD a H=>b a H λ_ H1=>D.nx a H1
section
variable {X:Cx}{e:Expr}{te:TE}{pos:Pos}
theorem Hl(f:PE X e te)(b:swapsWith e none pos.line X.env=pure false:=by rfl):PS X (.Expr e pos) (wS te):=by
 intro d s a H D I h;exact wpAny_Expr_any (bp (f d s a H _ I h) λv i ⟨x,H1,g,j,c⟩=>⟨a,H1,g,c⟩) I.quiet b
end
def LV(b:TE):TS:=λD a H=>b a H D.rt
section
variable {X:Cx}{e:Expr}{te:TE}{pos:Pos}
theorem qH(f:PE X e te):PS X (.Return (some e) pos) (LV te):=by
 intro d s a H D I h;exact wpAny_Return_some (bp (f d s a H _ I h) λv i ⟨x,H1,g,b,c⟩=>⟨x,a,H1,g,b,c⟩)
end
def LZ(c:TT) (t u:TS):TS:=λD a H=>c a H λb H1=>if b=true then t D a H1 else u D a H1
section
variable {X:Cx}{t:TS}{u:TS}{pos:Pos}
theorem qu{c:Expr}{a b:List Stmt}{k:TT}(n:PT X c k)(m:io X a t)(o:io X b u):PS X (.If c a b pos) (LZ k t u):=by
 intro f s e H D I h;refine wpAny_If (bp (n f s e H _ I h) λd i g=>?_);obtain⟨H1,l,j⟩:=g;cases d with
 |true=>exact m f i e H1 D l j
 |false=>exact o f i e H1 D l j
end
abbrev TG:=V->St->Hp->(St->Hp->Prop)->Prop
abbrev rM:=List V->St->Hp->(St->Hp->Prop)->Prop
def PG(X:Cx) (a:Expr) (t:TG):Prop:=
 ∀(e:List (Addr×Obj)) (s:Shared) (c:St) (H:Hp) (v:V) (u:Value) (Q:St->Hp->Prop),Inv X e c H s->RelV v u->t v c H Q ->
  wpAny (model X.prog X.w) X.A (assign a X.env u) (λ_ f=>∃b d,Inv X e b d f/\Q b d) X.xe s
def rN(X:Cx) (g:List Expr) (t:rM):Prop:=
 ∀(f:List (Addr×Obj)) (s:Shared) (b:St) (H:Hp) (e:List V) (c:List Value) (Q:St->Hp->Prop),Inv X f b H s->aq e c->t e b H Q ->
  wpAny (model X.prog X.w) X.A (assignInOrder ((assignEach g X.env).map (·.2)) c) (λ_ h=>∃a d,Inv X f a d h/\Q a d) X.xe s
abbrev rL:=V->V->V->Hp->(Hp->Prop)->Prop
def xH(X:Cx) (t:rL):Prop:=
 ∀(d:List (Addr×Obj)) (s:Shared) (a:St) (H:Hp) (o i v:V) (c e u:Value) (Q:Hp->Prop),Inv X d a H s->RelV o c->RelV i e->RelV v u->t o i v H Q ->
  wpAny (model X.prog X.w) X.A (setItem c e u) (λ_ f=>∃b,Inv X d a b f/\Q b) X.xe s
abbrev xF:=V->V->Hp->VK->Prop
def xI(X:Cx) (c:Operator) (t:xF):Prop:=
 ∀(b:List (Addr×Obj)) (s:Shared) (a:St) (H:Hp) (x y:V) (v u:Value) (Q:VK),Inv X b a H s->RelV x v->RelV y u->t x y H Q ->
  wpAny (model X.prog X.w) X.A (inplaceOp c v u) (EP X b a Q) X.xe s
def je(i:Nat):TG:=λv a H Q=>Q (a.set i (some v)) H
theorem Hb{X:Cx}(d:X.N.Nodup)(c:X.N[i]?=some x)(e:Loc X.env.scope x)(b:X.fn x=true\/X.env.scope.names.lookup x=some .local:=by first|exact .inl rfl|exact .inr rfl|assumption):PG X (.Name x pos) (je i):=by
 intro j s f H v u Q I r h;exact wpAny_assign_Name (yu I d c e r (λg a=>⟨_,H,a,h⟩) b)
def Mw:rM:=λb a H Q=>b=[]/\Q a H
def xz(t:TG) (u:rM):rM:=λd b H Q=>∃v r,d=v::r/\t v b H λa c=>u r a c Q
theorem Hc:rN X [] Mw:=by
 intro c s a H d b Q I r h;obtain⟨e,h⟩:=h;subst e;cases r;exact assignInOrder_nil ⟨a,H,I,h⟩
section
variable {X:Cx}
theorem IW{e:Expr}{a:List Expr}{t:TG}{u:rM}(l:PG X e t)(i:rN X a u)
  (j:(assignEach (e::a) X.env).map (·.2)=assign e X.env::(assignEach a X.env).map (·.2):=by rfl):rN X (e::a) (xz t u):=by
 intro d s f H q p Q I r h;obtain⟨v,o,m,h⟩:=h;subst m;cases r with
 |cons r rr=>
  rw[j];refine assignInOrder_cons (bp (l d s f H _ _ _ I r h) λ_ g c=>?_);obtain⟨b,H1,n,k⟩:=c;exact i d g b H1 _ _ Q n rr k
end
def Mt(K:Fg) (n:Nat) (t:rM):TG:=λv c H Q=>∃a b,v=.ref a/\bD K H a b/\b.length=n/\t b c H Q
theorem FA{X:Cx}(w:X.calm=true)(h:rN X es t)
  (C:(assignEach es X.env).length=n:=by rfl)(c:(assignEach es X.env).findIdx? (·.1)=none:=by rfl):PG X (.Tuple es k pos) (Mt X.K n t):=by
 intro i s f H v u Q I r d;obtain⟨a,q,y,m,j,d⟩:=d;subst y;cases r;obtain⟨x,g,p,E⟩:=I.tuple m;refine assign_Tuple_tuple (I.ok.hd w) p (by simp[C,←j,g.length]) c λl z=>?_
 have A:Inv X i f H {s with heap:=l}:=I.kept (t':=s.toks) λb o e=>z b o (ef (bR e)) e
 exact h i _ f H q _ Q A (by simpa using g) d
def Mu(to b:TE) (t:rL):TG:=λv a H Q=>to a H λo H1=>b a H1 λi H2=>t o i v H2 λH3=>Q a H3
section
variable {X:Cx}{pos:Pos}
theorem Fz{o i:Expr}{to f:TE}{t:rL}(m:PE X o to)(l:PE X i f)(n:xH X t)
  (C:∀v,assign (.Subscript o i pos) X.env v=(do
   let b ←holding [v] (eval o X.env)
   let c ←holding [v,b] (eval i X.env)
   standAt pos
   holding [v,b,c] (setItem b c v)
   release [v,b,c] []):=by intro _;rfl):PG X (.Subscript o i pos) (Mu to f t):=by
 intro e s d H v u Q I r h;rw[C];refine am (nV (bp (m e s d H _ I h) λb j a=>?_));obtain⟨x,H1,z,q,w⟩:=a;refine am (nV (bp (l e j d H1 _ z w) λc A a=>?_));obtain⟨y,H2,E,G,p⟩:=a;refine am (wpAny_standAt (am (nV (bp (n e A d H2 x y v b c u _ E q G r p) λ_ J a=>?_))));obtain⟨H3,g,k⟩:=a;exact wpAny_release ⟨d,H3,g,k⟩
end
def oz(b:TE) (g:TG):TS:=λD a H=>b a H λx H1=>g x a H1 D.nx
section
variable {X:Cx}{pos:Pos}
theorem FD{a e:Expr}{d:TE}{g:TG}(n:PE X e d)(p:PG X a g)(j:swapsWithSole [a] e pos.line X.env=pure false:=by rfl)(k:swappedStores [a] e X.env=pure none:=by rfl)
  (o:(assignEach [a] X.env).map (·.2)=[assign a X.env]:=by rfl):PS X (.Assign [a] e pos) (oz d g):=by
 intro f s c H D I h;refine wpAny_Assign_stores (bp (n f s c H _ I h) λv i b=>?_) j k;obtain⟨x,H1,r,l,m⟩:=b;rw[o];exact bp (p f i c H1 x v _ r l m) λ_ t q=>q
theorem ve{i:Nat}{x:Str}{e:Expr}{c:TE}{a:Pos}(q:X.N.Nodup)(n:X.N[i]?=some x)(g:Loc X.env.scope x)(p:PE X e c)(f:swapsWith e (some (.Name x a)) pos.line X.env=pure false:=by rfl)(j:X.fn x=true\/X.env.scope.names.lookup x=some .local:=by first|exact .inl rfl|exact .inr rfl|assumption):
  PS X (.Assign [.Name x a] e pos) (oz c (je i)):=by
 intro o s d H D I h;refine wpAny_Assign_Name (bp (p o s d H _ I h) λv t b=>?_) f;obtain⟨y,H1,r,k,l⟩:=b;exact yu r q n g k (λu m=>⟨_,H1,m,l⟩) j
end
def L8(i:Nat) (b:TE) (c:xF):TS:=λD a H=>∃x,a[i]?=some (some x)/\b a H λy H1=>c x y H1 λz H2=>D.nx (a.set i (some z)) H2
section
variable {X:Cx}{pos:Pos}
theorem FE{i:Nat}{x:Str}{e:Expr}{q:TE}{o:Operator}{E:xF}{d:Pos}(S:X.N.Nodup)(A:X.N[i]?=some x)(p:Loc X.env.scope x)(R:PE X e q)(T:xI X o E)(hf:X.fn x=true\/X.env.scope.names.lookup x=some .local:=by first|exact .inl rfl|exact .inr rfl|assumption):
  PS X (.AugAssign (.Name x d) o e pos) (L8 i q E):=by
 intro n s C H D I h;obtain⟨v,e1,h⟩:=h;obtain⟨m,P,hl⟩:=I.loc;have j:xE X.env.scope x:=by rcases p with k|k;exact .inl k;exact .inr (.inl k)
 obtain⟨u,r,l⟩:=hl i x v A e1 j;refine wpAny_AugAssign_Name ?_;have t:wpAny (model X.prog X.w) X.A (eval e X.env) (λw f=>wpAny (model X.prog X.w) X.A (inplaceOp o u w) (λr g=>wpAny (model X.prog X.w) X.A (storeName X.env x r) (λ_=>SP X n D .next) X.xe g) X.xe f) X.xe s:=by
  refine bp (R n s C H _ I h) λw Q a=>?_
  obtain⟨y,H1,I1,r1,q1⟩:=a;refine bp (T n Q C H1 v y u w _ I1 r r1 q1) λz s2 a=>?_
  obtain⟨zv,H2,I2,r2,Y⟩:=a;exact yu I2 S A p r2 (λs3 J=>⟨_,H2,J,Y⟩) hf
 rcases l with⟨hk,U⟩|⟨hk,c,G,b⟩
 ·exact wpAny_loadName_local I.ok.kind hk P U t
 ·rcases hk with hk|hk
  ·exact wpAny_loadName_cell I.ok.kind hk G b t
  ·rcases p with k|k
   ·have:X.env.scope.names.lookup x=some .free:=hk;rw[k] at this;cases this
   ·have:X.env.scope.names.lookup x=some .free:=hk;rw[k] at this;cases this
end
def PQ(f:Int->Int->Int):xF:=λx y H Q=>∃i j,x=.int i/\y=.int j/\Q (.int (f i j)) H
theorem EW:xI X .Add (PQ λi j=>i+j):=by
 intro f s e H x y v u Q I a d h;obtain⟨i,j,b,c,q⟩:=h;subst b;subst c
 obtain⟨t,rfl⟩:=a;obtain⟨g,rfl⟩:=d;exact iadd_int ⟨.int _,H,I.tok _,⟨_,rfl⟩,q⟩
def re(c:TT) (g:TS):TS:=λD a H=>∃W:Nat->St->Hp->Prop,(∃m,W m a H)/\∀m a H,W m a H ->
 c a H λb H1=>if b=true then ∃N:St->Hp->Prop,(∀d e,N d e->∃f,f<m/\W f d e)/\g {D with nx:=N,ct:=N,bk:=D.nx} a H1 else D.nx a H1
section
variable {X:Cx}{pos:Pos}
theorem I0{c:Expr}{e:List Stmt}{z:TT}{u:TS}(x:PassesOwn (model X.prog X.w) X.A X.env X.xe)(C:PT X c z)(G:io X e u):PS X (.While c e [] pos) (re z u):=by
 intro l s J H D I h;obtain⟨W,⟨R,P⟩,i⟩:=h;refine wpAny_While (codeAny_whileLoop (λn Q=>∃g y,Inv X l g y Q/\W n g y) ?_ R ⟨J,H,I,P⟩);rintro n E ⟨d,H1,S,U⟩;refine qS x (bp (C l E d H1 _ S (i n d H1 U)) λb T o=>?_);obtain⟨H2,A,k⟩:=o;cases b with
 |true=>
  obtain⟨N,w,k⟩:=k;rw[if_pos rfl];refine qS x (bp (G l T d H2 _ A k) λf Y j=>?_);cases f with
  |next=>
   obtain⟨a,H3,m,p⟩:=j;obtain⟨t,r,q⟩:=w a H3 p;exact⟨t,r,a,H3,m,q⟩
  |cont=>
   obtain⟨a,H3,m,p⟩:=j;obtain⟨t,r,q⟩:=w a H3 p;exact⟨t,r,a,H3,m,q⟩
  |brk=>exact j
  |ret v=>exact j
 |false=>
  rw[if_neg qY];exact ww ⟨d,H2,A,k⟩
end
structure It where
 go:Nat->Hp->Prop
 yld:Nat->Hp->V->Hp->Prop
 stop:Nat->Hp->Prop
def fC(X:Cx) (a:List (Addr×Obj)) (H:Hp) (b:Addr):Prop:=
 H b=none/\b≠X.env.locals/\b∉X.fs/\(b∈X.ex\/X.s₀.heap.objs.size<=b)/\(∀x c,X.env.cells.lookup x=some c->c≠b)/\∀p∈X.pn++a,p.1≠b
theorem Inv.fpOk(I:Inv X aW σ H s)(a:s.heap.objs.size<=b)(f:H' b=none):fC X aW H' b:=by
 refine⟨f,mP (cD I.lt a),I.nofs a,.inr (aT I.sz a),λx c e z=>?_,λp d z=>?_⟩
 ·obtain⟨v,q⟩:=I.cell x c e;exact absurd (cD q.lt (by rw[z];exact a)) (nX _)
 ·exact absurd (cD (bR (I.pin p d).1) (by rw[z];exact a)) (nX _)
structure iK (P:Program) (w:World) (K:Fg) (tg:Expr) (J:It) (fp:List Addr) (it:Addr) (tn:Nat->Heap->Prop):Prop where
 mem:it∈fp
 obj:∀i h,tn i h->∀b∈fp,∃o,h.get? b=some o/\∀v,o.data≠.cell v
 keep:∀i h h',tn i h->(∀b∈fp,∀o,h.get? b=some o->h'.get? b=some o)->tn i h'
 item:∀(X:Cx),X.prog=P->X.w=w->X.K=K->X.calm=true->∀(i:Nat) (aW:List (Addr×Obj)) (s:Shared) (σ:St) (H:Hp) (E:Value->Shared->Prop),Inv X aW σ H s->(∀b∈fp,fC X aW H b)->tn i s.heap->J.go i H ->
  wpAny (model P w) X.A (pyNext (.ref it)) (λr s1=>∃u,r=some u /\
   wpAny (model P w) X.A (letOwnedTupleGo tg (.ref it) u) (λ_ s2=>∃x H',Inv X aW σ H' s2/\RelV x u/\J.yld i H x H'/\tn (i+1) s2.heap/\∀b∈fp,H' b=none) E s1) E s
 done:∀(X:Cx),X.prog=P->X.w=w->X.K=K->X.calm=true->∀(i:Nat) (aW:List (Addr×Obj)) (s:Shared) (σ:St) (H:Hp) (E:Value->Shared->Prop),Inv X aW σ H s->(∀b∈fp,fC X aW H b)->tn i s.heap->J.stop i H ->
  wpAny (model P w) X.A (pyNext (.ref it)) (λr s1=>r=none/\Inv X aW σ H s1) E s
 self:∀(A:Around) (i:Nat) (s:Shared) (Q:Value->Shared->Prop) (E:Value->Shared->Prop),tn i s.heap->Q (.ref it) s->wpAny (model P w) A (pyIter (.ref it)) Q E s
abbrev TI:=St->Hp->(It->Hp->Prop)->Prop
def PU(X:Cx) (g:List (Addr×Obj)) (i:St) (j:Expr) (R:It->Hp->Prop) (c:Value) (h:Shared):Prop:=
 ∃(e:Addr) (f:List Addr) (d:Nat->Heap->Prop) (J:It) (a:Hp),c=.ref e/\Inv X g i a h/\iK X.prog X.w X.K j J f e d/\d 0 h.heap/\(∀b∈f,fC X g a b)/\R J a
def PI(X:Cx) (e iter:Expr) (d:TI):Prop:=
 ∀(b:List (Addr×Obj)) (s:Shared) (a:St) (H:Hp) (R:It->Hp->Prop),Inv X b a H s->d a H R ->
  wpAny (model X.prog X.w) X.A (eval iter X.env) (λv c=>wpAny (model X.prog X.w) X.A (pyIter v) (PU X b a e R) X.xe c) X.xe s
theorem lm{M:Model}{s:Shared}(d:s.heap.get? it=some o)(c:o.cls=.type n)(b:o.data=.fields vs)
    (e:["enumerate","zip","dict_itemiterator","dict_reverseitemiterator","odict_iterator","itertools.zip_longest","itertools.pairwise"].contains n=false)(a:Q () s):wpAny M A (letOwnedTupleGo tg (.ref it) u) Q E s:=by
  unfold letOwnedTupleGo;cases tg <;> first
    |exact ba a
    | (cases u <;> first
        |exact ba a
        | (refine am (wpAny_load d ?_)
           rw[c,b];show wpAny M A (if(["enumerate","zip","dict_itemiterator","dict_reverseitemiterator","odict_iterator","itertools.zip_longest","itertools.pairwise"].contains n&&vs[0]?==some (rawInt _))=true then _ else _) Q E s
           rw[if_neg (by intro h; rw[e,Bool.false_and] at h; cases h)]
           exact ba a))
def MP(K:Fg) (a:Addr):It:=
 ⟨λi H=>∃b x,cp K H a b/\b[i]?=some x,λi H x c=>c=H/\∀b,cp K H a b->b[i]?=some x,λi H=>∃b,cp K H a b/\b.length<=i⟩
def MN(K:Fg) (a:Addr):It:=
 ⟨λi H=>∃b x,bD K H a b/\b[i]?=some x,λi H x c=>c=H/\∀b,bD K H a b->b[i]?=some x,λi H=>∃b,bD K H a b/\b.length<=i⟩
noncomputable def xM(lo:Int) (n:Nat):It:=⟨λi _=>i<n,λi H x a=>a=H/\x=.int (lo+i),λi _=>n<=i⟩
theorem KI{P:Program}{w:World}{K:Fg}{tg:Expr}(a it:Addr):iK P w K tg (MP K a) [it] it (λi h=>h.IsListIter it a i) where
 mem:=by simp
 obj:=λi h f b g=>by
  have e:b=it:=by simpa using g
  subst e;obtain⟨o,e,c,d⟩:=f;exact⟨o,e,λv z=>by rw[d] at z;cases z⟩
 keep:=λi h l f k=>f.at λo e=>k it '&' o e
 item:=by
  intro X r J A U i Y s σ H E I m f G;subst r J A;obtain⟨xs,x,n,C⟩:=G;obtain⟨S,T,p,hz⟩:=I.list n;obtain⟨u,hu,ru⟩:=T.get C;obtain⟨y,Q,f2,R,q,t⟩:=m it '&';refine wpAny_pyNext_list_item f p.isList (x:=u) (by simpa using hu) λl j sb=>?_
  have I1:Inv X Y σ H {s with heap:=l}:=I.turned (t':=s.toks) (λb o g e=>(sb.2 b g).trans e) y Q R q t;obtain⟨o,e,c,d⟩:=id j;exact⟨u,rfl,lm (s:={s with heap:=l}) e c d '"' ⟨x,H,I1,ru,⟨rfl,λys hy=>by rw[I.list_inj hy n];exact C⟩,j,λb g=>(m b g).1⟩⟩
 done:=by
  intro X r J A U i Y s σ H E I m f G;subst r J A;obtain⟨xs,n,C⟩:=G;obtain⟨S,T,p,hz⟩:=I.list n;obtain⟨y,Q,f2,R,q,t⟩:=m it '&';have hl:=T.length;exact wpAny_pyNext_list_end (I.ok.hd U) f p.isList (by simp;lia) λl eb=>⟨rfl,I.turned (t':=s.toks) (λb o g e=>eb b o g e) y Q R q t⟩
 self:=λ_ _ _ _ _ f h=>wpAny_pyIter_listiter f h
theorem Qq{P:Program}{w:World}{K:Fg}{tg:Expr}(a it:Addr):iK P w K tg (MN K a) [it] it (λi h=>h.IsTupleIter it a i) where
 mem:=by simp
 obj:=λi h f b g=>by
  have e:b=it:=by simpa using g
  subst e;obtain⟨o,e,c,d⟩:=f;exact⟨o,e,λv z=>by rw[d] at z;cases z⟩
 keep:=λi h m f k=>f.at λo e=>k it '&' o e
 item:=by
  intro X t Q C U i Y s σ H E I n f J;subst t Q C;obtain⟨xs,x,q,G⟩:=J;obtain⟨j,T,p,hz⟩:=I.tuple q;obtain⟨u,hu,ru⟩:=T.get G;obtain⟨A,R,f2,S,r,y⟩:=n it '&';refine wpAny_pyNext_tuple_item f (show s.heap.IsTuple a j.toArray from p) (x:=u) (by simpa using hu) λm l sb=>?_
  have I1:Inv X Y σ H {s with heap:=m}:=I.turned (t':=s.toks) (λb o g e=>(sb.2 b g).trans e) A R S r y;obtain⟨o,e,c,d⟩:=id l;exact⟨u,rfl,lm (s:={s with heap:=m}) e c d '"' ⟨x,H,I1,ru,⟨rfl,λys hy=>by rw[I.tuple_inj hy q];exact G⟩,l,λb g=>(n b g).1⟩⟩
 done:=by
  intro X t Q C U i Y s σ H E I n f J;subst t Q C;obtain⟨xs,q,G⟩:=J;obtain⟨j,T,p,hz⟩:=I.tuple q;obtain⟨A,R,f2,S,r,y⟩:=n it '&';have hl:=T.length;exact wpAny_pyNext_tuple_end (I.ok.hd U) f (show s.heap.IsTuple a j.toArray from p) (by simp;lia) λm eb=>⟨rfl,I.turned (t':=s.toks) (λb o g e=>eb b o g e) A R S r y⟩
 self:=λ_ _ _ _ _ f h=>wpAny_pyIter_tupleiter f h
theorem Qp{P:Program}{w:World}{K:Fg}{S:Expr}(it:Addr)(lo:Int)(n:Nat):iK P w K S (xM lo n) [it] it (λi h=>IsRangeIter h it (lo+(i:Nat)*1) ((n:Int)-(i:Nat)) 1) where
 mem:=by simp
 obj:=λi h a b c=>by
  have e:b=it:=by simpa using c
  subst e
  exact⟨_,a,λv z=>by
   have Y:Data.fields _=Data.cell v:=z
   cases Y⟩
 keep:=λi h f a k=>k it '&' _ a
 item:=by
  intro X l x r m i C s G H E I g a u;subst l x r;obtain⟨q,y,f2,A,j,p⟩:=g it '&';have W:=Walks.range (prog:=X.prog) (w:=X.w) (I.ok.hd m) it lo 1 n;refine W.item i s _ _ u a λv f J R d Q=>?_
  obtain⟨t,rfl⟩:=R;have U:Inv X C G H {s with heap:=f,toks:=J}:=I.turned (λb o c e=>Q b o (by simpa using c) e) q y A j p;refine⟨_,rfl,lm (s:={ s with heap:=f,toks:=J }) (n:="range_iterator") d rfl rfl '"' ⟨.int (lo + i),H,U,⟨t,?_⟩,⟨rfl,rfl⟩,d,λb c=>(g b c).1⟩⟩
  rw[Int.mul_one]
 done:=by
  intro X l x r m i C s G H E I g a u;subst l x r;obtain⟨q,y,f2,A,j,p⟩:=g it '&';exact wpAny_pyNext_range_end (I.ok.hd m) a (by have:n<=i:=u;lia) λf T=>⟨rfl,I.turned (t':=s.toks) (λb o c e=>T b o c e) q y A j p⟩
 self:=λ_ _ _ _ _ a h=>wpAny_pyIter_rangeiter a h
def mf(K:Fg) (c:TE):TI:=λb H R=>c b H λx H1=>∃a,x=.ref a/\(∃d,cp K H1 a d)/\R (MP K a) H1
def rE(K:Fg) (c:TE):TI:=λb H R=>c b H λx H1=>∃a,x=.ref a/\(∃d,bD K H1 a d)/\R (MN K a) H1
section
variable {X:Cx}{tg:Expr}
theorem vX{l:Expr}{g:TE}(u:PE X l g):PI X tg l (mf X.K g):=by
 intro t s i H R I h;refine bp (u t s i H _ I h) λv c f=>?_
 obtain⟨x,H1,d,k,m⟩:=f;obtain⟨a,e,⟨y,j⟩,q⟩:=m;subst e;cases k;obtain⟨n,w,p,z⟩:=d.list j;refine zN p.isList ?_;refine⟨c.heap.objs.size,[c.heap.objs.size],_,_,H1,rfl,d.kept (t':=c.toks) λb o e=>bL _ e,KI a _,⟨_,dD _ rfl,rfl,rfl⟩,λb r=>?_,q⟩;have e:b=c.heap.objs.size:=by simpa using r
 subst e;exact d.fpOk (bi _) (d.hok.fresh (bi _))
theorem vd{l:Expr}{i:TE}(u:PE X l i):PI X tg l (rE X.K i):=by
 intro t s j H R I h;refine bp (u t s j H _ I h) λv c g=>?_
 obtain⟨x,H1,d,m,n⟩:=g;obtain⟨a,e,⟨y,k⟩,q⟩:=n;subst e;cases m;obtain⟨f,w,p,z⟩:=d.tuple k;refine sN (show c.heap.IsTuple a f.toArray from p) ?_;refine⟨c.heap.objs.size,[c.heap.objs.size],_,_,H1,rfl,d.kept (t':=c.toks) λb o e=>bL _ e,Qq a _,⟨_,dD _ rfl,rfl,rfl⟩,λb r=>?_,q⟩;have e:b=c.heap.objs.size:=by simpa using r
 subst e;exact d.fpOk (bi _) (d.hok.fresh (bi _))
end
theorem Nk{s:Shared}{R:It->Hp->Prop}{lo a:Int}{c:Nat}(I:Inv X aW σ H s)(i:-(2^62)<=lo)(g:lo<2^62)(f:-(2^62)<=a)(l:a<2^62)
  (q:R (xM lo (a-lo).toNat) H):wpAny (model X.prog X.w) X.A (pyIter (.ref s.heap.objs.size)) (PU X aW σ tg R) E { s with heap:=s.heap.push { cls:=.type "range",data:=.fields #[.int lo t,.int a u,.int 1 v] },toks:=c }:=by
 refine wpAny_pyIter_range (IsRange.new ..) (small_one i g f l) ?_;have d:Inv X aW σ H { s with heap:=s.heap.push { cls:=.type "range",data:=.fields #[.int lo t,.int a u,.int 1 v] },toks:=c }:=I.kept λb o e=>bL _ e
 refine⟨(s.heap.push { cls:=.type "range",data:=.fields #[.int lo t,.int a u,.int 1 v] }).objs.size,[(s.heap.push { cls:=.type "range",data:=.fields #[.int lo t,.int a u,.int 1 v] }).objs.size],_,_,H,rfl,
  d.kept (t':=c) λb o e=>bL _ e,Qp _ lo (a-lo).toNat,?_,λb h=>?_,q⟩
 ·have j:lo+((0:Nat):Int)*1=lo:=by simp
  have k:(((a-lo).toNat:Nat):Int)-((0:Nat):Int)=Builtin.Range.rangeSize lo a 1:=by rw[rangeSize_one];split<;>lia
  show IsRangeIter _ _ (lo+((0:Nat):Int)*1) ((((a-lo).toNat:Nat):Int)-((0:Nat):Int)) 1;rw[j,k];exact dD _ rfl
 ·have e:b=(s.heap.push { cls:=.type "range",data:=.fields #[.int lo t,.int a u,.int 1 v] }).objs.size:=by simpa using h
  subst e;exact d.fpOk (bi _) (d.hok.fresh (bi _))
def xw(b:TA):TI:=λa H R=>b a H λc H1=>∃j:Int,c=[.int j]/\-(2^62)<=j/\j<2^62/\R (xM 0 j.toNat) H1
def xu(b:TA):TI:=λa H R=>b a H λc H1=>∃i j:Int,c=[.int i,.int j]/\(-(2^62)<=i/\i<2^62/\-(2^62)<=j/\j<2^62)/\R (xM i (j-i).toNat) H1
section
variable {X:Cx}{tg:Expr}
theorem Ku{a:Expr}{f:TA}{p b:Pos}(u:Gl X "range")(k:X.mg "range"=none)(i:PA X [a] f)(l:starEach [a] X.env=[(false,eval a X.env)]:=by rfl):PI X tg (.Call (.Name "range" p) [a] [] b) (xw f):=by
 intro o s g H R I h;refine Call_ (pW I u k boot_range (wN (bp (i b o s g H _ I h) λw x d=>?_) l rfl));obtain⟨y,H1,v,n,c⟩:=d;obtain⟨j,e,c,m,q⟩:=c;subst e;cases n with
 |cons r rr=>
  cases rr;obtain⟨t,rfl⟩:=r;exact call_range_1 (Nk v '!' '!' c m (by simpa using q))
theorem Kv{a b:Expr}{g:TA}{p c:Pos}(m:Gl X "range")(u:X.mg "range"=none)(z:PA X [a,b] g)(v:starEach [a,b] X.env=[(false,eval a X.env),(false,eval b X.env)]:=by rfl)(d:starEach [b] X.env=[(false,eval b X.env)]:=by rfl):
  PI X tg (.Call (.Name "range" p) [a,b] [] c) (xu g):=by
 intro k s n H R I h;refine Call_ (pW I m u boot_range (wN (bp (z c k s n H _ I h) λE A ⟨G,H1,y,x,f⟩=>?_) (by rw[v,d]) (by rw[d];rfl)));obtain⟨i,j,e,⟨f,w,l,o⟩,q⟩:=f;subst e;cases x with
 |cons r rr=>
  cases rr with
  |cons r' rr=>
   cases rr;obtain⟨t,rfl⟩:=r;obtain⟨C,rfl⟩:=r';exact call_range_2 (Nk y f w l o q)
end
def L4(h:TI) (g:TG) (f:TS):TS:=λD a H=>h a H λJ H1=>∃W:Nat->Nat->St->Hp->Prop,(∃m,W 0 m a H1)/\∀i m a H,W i m a H ->
 (J.stop i H/\D.nx a H)\/(J.go i H/\∃N:St->Hp->Prop,(∀c b,N c b->∃e,e<m/\W (i+1) e c b)/\∀x b,J.yld i H x b->g x a b λd H2=>f {D with nx:=N,ct:=N,bk:=D.nx} d H2)
noncomputable def gv(a:List Addr) (h:Heap):List (Addr×Obj):=a.filterMap λb=>(h.get? b).map λo=>(b,o)
theorem yJ{h:Heap}(a:b∈fp)(e:h.get? b=some o):(b,o)∈gv fp h:=List.mem_filterMap.mpr ⟨b,a,by rw[e];rfl⟩
theorem Kq(a:p∈gv fp h):p.1∈fp/\h.get? p.1=some p.2:=by
 obtain⟨b,c,e⟩:=List.mem_filterMap.mp a;cases q:h.get? b with
 |none=>rw[q] at e;cases e
 |some o=>
  rw[q] at e;have d:(b,o)=p:=eg e;subst d;exact⟨c,q⟩
theorem Inv.pinned(I:Inv X aW σ H s)(i:∀b∈a,fC X aW H b)(k:∀b∈a,∃o,s.heap.get? b=some o/\∀v,o.data≠.cell v):Inv X (aW++gv a s.heap) σ H s:=
 I.pins_of λp g=>(cM.mp g).elim (λz=>I.pin p (j3 _ z)) λz=>by
  obtain⟨c,e⟩:=Kq z;obtain⟨h,j,l,_⟩:=i p.1 c;obtain⟨o,f,d⟩:=k p.1 c;rw[e] at f;cases f
  exact⟨e,h,j,l,d⟩
theorem Inv.unpinned(I:Inv X (aW++pl) σ H s):Inv X aW σ H s:=I.pins_of λp a=>I.pin p (j3 _ (ra _ a))
section
variable {X:Cx}{tg:Expr}
theorem FF{iter:Expr}{w:List Stmt}{wi:TI}{g:TG}{tb:TS}{a0:Pos}(S:PassesOwn (model X.prog X.w) X.A X.env X.xe)(hc:X.calm=true)(hi:PI X tg iter wi)(hg:PG X tg g)(p:io X w tb)
  (hs:∀x,foldedSetIterable iter X.env x=pure x:=by intro _;rfl):PS X (.For tg iter w [] a0) (L4 wi g tb):=by
 intro z s σ H D I h;refine wpAny_For (bp (hi z s σ H _ I h) λv s1 h1=>bp h1 λa3 s2 h2=>?_) hs;obtain⟨it,R,tn,J,H2,e,I2,T,a1,f2,W,⟨m0,w0⟩,Q⟩:=h2;subst e;have t:∀{H':Hp},(∀b∈R,H' b=none)->∀b∈R,fC X z H' b:=λhn b p=>⟨hn b p,(f2 b p).2⟩
 refine codeAny_forLoop_any (λn s'=>∃i l H',Inv X z l H' s'/\tn i s'.heap/\(∀b∈R,H' b=none)/\W i n l H') ?_ m0 ⟨0,σ,H2,I2,a1,λb p=>(f2 b p).1,w0⟩;rintro n s3 ⟨i,j,H3,I3,E,G,w3⟩;rcases Q i n j H3 w3 with⟨P,qn⟩|⟨go,N,hN,step⟩
 ·refine qS S (bp (T.done X rfl rfl rfl hc i z s3 j H3 X.xe I3 (t G) E P) λr s4 c=>?_);obtain⟨hr,I4⟩:=c;subst hr;exact ww ⟨j,H3,I4,qn⟩
 ·refine qS S (bp (T.item X rfl rfl rfl hc i z s3 j H3 X.xe I3 (t G) E go) λr s4 c=>?_);obtain⟨u,hr,h4⟩:=c;subst hr;refine qS S (bp h4 λ_ s5 c=>?_);obtain⟨x,H5,I5,r5,y5,A,U⟩:=c;have a2:=I5.pinned (t U) (T.obj _ _ A);refine qS S (bp (hg _ s5 j H5 x u _ a2 r5 (step x H5 y5)) λ_ s6 c=>?_);obtain⟨Y,H6,I6,q6⟩:=c;refine qS S (bp (p _ s6 Y H6 _ I6 q6) λf s7 y=>?_);have again:∀{a:St}{q:Hp},Inv X (z++gv R s5.heap) a q s7->N a q->∃m,m<n/\∃i l H',Inv X z l H' s7/\tn i s7.heap/\(∀b∈R,H' b=none)/\W i m l H':=λ{a q} k C=>by
   obtain⟨m',hm,w7⟩:=hN a q C;refine⟨m',hm,i+1,a,q,k.unpinned,T.keep _ _ _ A λb p o e=>(k.pin (b,o) (j3 _ (j3 _ (yJ p e)))).1,λb p=>?_,w7⟩;obtain⟨o,e,d⟩:=T.obj _ _ A b p;exact(k.pin (b,o) (j3 _ (j3 _ (yJ p e)))).2.1
  cases f with
  |next=>obtain⟨a,q,k,C⟩:=y;exact again k C
  |cont=>obtain⟨a,q,k,C⟩:=y;exact again k C
  |brk=>obtain⟨a,q,k,y⟩:=y;exact⟨a,q,k.unpinned,y⟩
  |ret v=>obtain⟨x7,a,q,k,r7,y⟩:=y;exact⟨x7,a,q,k.unpinned,r7,y⟩
end
abbrev R2:=V->V->Hp->VK->Prop
def cB(X:Cx) (f:Value->Value->Sem Value) (r:R2):Prop:=
 ∀(b:List (Addr×Obj)) (s:Shared) (a:St) (H:Hp) (x y:V) (v u:Value) (Q:VK),Inv X b a H s->RelV x v->RelV y u->r x y H Q ->
  wpAny (model X.prog X.w) X.A (f v u) (EP X b a Q) X.xe s
def MJ(X:Cx) (f:Value->Sem Value) (r:V->Hp->VK->Prop):Prop:=
 ∀(b:List (Addr×Obj)) (s:Shared) (a:St) (H:Hp) (x:V) (v:Value) (Q:VK),Inv X b a H s->RelV x v->r x H Q ->
  wpAny (model X.prog X.w) X.A (f v) (EP X b a Q) X.xe s
def bu(X:Cx) (f:Value) (r:List V->Hp->VK->Prop):Prop:=
 ∀(c:List (Addr×Obj)) (s:Shared) (a:St) (H:Hp) (d:List V) (b:List Value) (Q:VK),Inv X c a H s->aq d b->r d H Q ->
  wpAny (model X.prog X.w) X.A (call f b) (EP X c a Q) X.xe s
def MK(X:Cx) (r:V->Hp->(Bool->Hp->Prop)->Prop):Prop:=
 ∀(b:List (Addr×Obj)) (s:Shared) (a:St) (H:Hp) (x:V) (v:Value) (Q:Bool->Hp->Prop),Inv X b a H s->RelV x v->r x H Q ->
  wpAny (model X.prog X.w) X.A (truthy v) (TP X b a Q) X.xe s
def sW(r:R2) (b c:TE):TE:=λa H Q=>b a H λx H1=>c a H1 λy H2=>r x y H2 Q
def SL(r:V->Hp->VK->Prop) (b:TE):TE:=λa H Q=>b a H λx H1=>r x H1 Q
def rI(C:Int->Int->Prop) (g:Int->Int->V):R2:=λx y H Q=>∃i j,x=.int i/\y=.int j/\C i j/\Q (g i j) H
def lU(g:Int->Int->V):R2:=λx y H Q=>∃i j,x=.int i/\y=.int j/\Q (g i j) H
def rU(g:Int->V):V->Hp->VK->Prop:=λx H Q=>∃i,x=.int i/\Q (g i) H
section
variable {X:Cx}{a:Expr}{b:Expr}{ta:TE}{tb:TE}
theorem oM(k:PE X a ta)(r:PE X b tb){i:List (Addr×Obj)}{s:Shared}{d:St}{H:Hp}{R:V->V->Hp->Prop}(I:Inv X i d H s)
  (h:ta d H λx H1=>tb d H1 λy H2=>R x y H2){Q:Value->Shared->Prop}{f:Value->Value->Sem Value}
  (n:∀v u j x y H2,Inv X i d H2 j->RelV x v->RelV y u->R x y H2->wpAny (model X.prog X.w) X.A (f v u) Q X.xe j):
  wpAny (model X.prog X.w) X.A (eval a X.env) (λv e=>wpAny (model X.prog X.w) X.A (eval b X.env) (λu g=>wpAny (model X.prog X.w) X.A (f v u) Q X.xe g) X.xe e) X.xe s:=by
 refine bp (k i s d H _ I h) λv l c=>?_
 obtain⟨x,H1,w,o,p⟩:=c;refine bp (r i l d H1 _ w p) λu j c=>?_
 obtain⟨y,H2,q,t,m⟩:=c;exact n v u j x y H2 q o t m
end
section
variable {X:Cx}{a:Expr}{b:Expr}{ta:TE}{tb:TE}{pos:Pos}
theorem DV{c:Operator}{r:R2}(l:cB X (binaryOp c) r)(f:PE X a ta)(i:PE X b tb):PE X (.BinOp a c b pos) (sW r ta tb):=by
 intro j s d H Q I h;exact wpAny_BinOp (oM f i I h λv u m x y H2 g e k q=>l j m d H2 x y v u Q g e k q)
end
section
variable {X:Cx}{a:Expr}{ta:TE}{pos:Pos}
theorem DX{c:UnaryOp}{r:V->Hp->VK->Prop}(j:MJ X (unaryOp c) r)(e:PE X a ta):PE X (.UnaryOp c a pos) (SL r ta):=by
 intro d s b H Q I h;exact UnaryOp_ (bp (e d s b H _ I h) λv f ⟨x,H1,k,g,i⟩=>j d f b H1 x v Q k g i)
end
section
variable {X:Cx}
theorem As{f:Value->Value->Sem Value}{C:Int->Int->Prop}{g:Int->Int->Int}
  (rule:∀(i j:Int) (t u:Tok) (s:Shared) (Q:Value->Shared->Prop) (E:Value->Shared->Prop),C i j->Q (.int (g i j) s.toks) {s with toks:=s.toks+1}->wpAny (model X.prog X.w) X.A (f (.int i t) (.int j u)) Q E s):
  cB X f (rI C λi j=>.int (g i j)):=by
 intro k s e H x y v u Q I a c h;obtain⟨i,j,rfl,rfl,b,q⟩:=h;obtain⟨t,rfl⟩:=a;obtain⟨d,rfl⟩:=c;exact rule i j t d s _ _ b ⟨.int (g i j),H,I.tok _,⟨_,rfl⟩,q⟩
theorem xk{f:Value->Value->Sem Value}{g:Int->Int->Int}
  (rule:∀(i j:Int) (t u:Tok) (s:Shared) (Q:Value->Shared->Prop) (E:Value->Shared->Prop),Q (.int (g i j) s.toks) {s with toks:=s.toks+1}->wpAny (model X.prog X.w) X.A (f (.int i t) (.int j u)) Q E s):
  cB X f (lU λi j=>.int (g i j)):=by
 intro e s d H x y v u Q I a b h;obtain⟨i,j,rfl,rfl,q⟩:=h;obtain⟨t,rfl⟩:=a;obtain⟨c,rfl⟩:=b;exact rule i j t c s _ _ ⟨.int (g i j),H,I.tok _,⟨_,rfl⟩,q⟩
theorem oE{f:Value->Value->Sem Value}{g:Int->Int->Bool}
  (rule:∀(i j:Int) (t u:Tok) (s:Shared) (Q:Value->Shared->Prop) (E:Value->Shared->Prop),Q (.bool (g i j)) s->wpAny (model X.prog X.w) X.A (f (.int i t) (.int j u)) Q E s):
  cB X f (lU λi j=>.bl (g i j)):=by
 intro e s d H x y v u Q I a b h;obtain⟨i,j,rfl,rfl,q⟩:=h;obtain⟨t,rfl⟩:=a;obtain⟨c,rfl⟩:=b;exact rule i j t c s _ _ ⟨.bl (g i j),H,I,rfl,q⟩
end
noncomputable def mB(i j:Int):Prop:=0<=j/\j<=1000000/\i.natAbs<2^64
noncomputable def gf(i j:Int):Prop:=(-(2^64)<i/\i<2^64)\/(-(2^64)<j/\j<2^64)
theorem gf.ok(h:gf i j):IntMulOk i j:=by
 rcases h with⟨b,a⟩|⟨b,a⟩
 ·exact .of_left (intBits_le_64 b a)
 ·exact .of_right (intBits_le_64 b a)
theorem Fk:cB X (binaryOp .Add) (lU λi j=>.int (i+j)):=xk λ_ _ _ _ _ _ _ q=>add_int q
theorem k8:cB X (binaryOp .Sub) (lU λi j=>.int (i-j)):=xk λ_ _ _ _ _ _ _ q=>sub_int q
section
variable {X:Cx}
theorem nl:cB X (binaryOp .Mult) (rI gf λi j=>.int (i*j)):=As λ_ _ _ _ _ _ _ a q=>mul_int q a.ok
end
theorem mH:cB X (binaryOp .Mod) (rI (λ_ j=>0<j) λi j=>.int (i%j)):=As λi j _ _ _ _ _ a q=>by
 have b:(0:Int)<j:=a;exact mod_int' '!' (by rw[Int.fmod_eq_emod_of_nonneg i '!'];exact q)
section
variable {X:Cx}
theorem vb:cB X (binaryOp .Pow) (rI mB λi j=>.int (i^j.toNat)):=As λ_ _ _ _ _ _ _ a q=>pow_int_small a.1 a.2.1 a.2.2 q
theorem SK{f:Value->Sem Value}{g:Int->Int}
  (rule:∀(i:Int) (t:Tok) (s:Shared) (Q:Value->Shared->Prop) (E:Value->Shared->Prop),Q (.int (g i) s.toks) {s with toks:=s.toks+1}->wpAny (model X.prog X.w) X.A (f (.int i t)) Q E s):
  MJ X f (rU λi=>.int (g i)):=by
 intro c s b H x v Q I a h;obtain⟨i,rfl,q⟩:=h;obtain⟨t,rfl⟩:=a;exact rule i t s _ _ ⟨.int (g i),H,I.tok _,⟨_,rfl⟩,q⟩
end
theorem FV:MJ X (unaryOp .USub) (rU λi=>.int (-i)):=SK λ_ _ _ _ _ q=>neg_int q
theorem nL(I:Inv X aW σ H s)(q:Q (.bl k) H)(e:k=k'):EP X aW σ Q (.bool k') s:=by
 subst e;exact⟨.bl k,H,I,rfl,q⟩
theorem DR:cB X (compareOp .Lt) (lU λi j=>.bl (decide (i<j))):=oE λ_ _ _ _ _ _ _ q=>lt_int q
theorem ko:cB X (compareOp .LtE) (lU λi j=>.bl (decide (i<=j))):=oE λ_ _ _ _ _ _ _ q=>le_int q
theorem k6:cB X (compareOp .Gt) (lU λi j=>.bl (decide (j<i))):=oE λ_ _ _ _ _ _ _ q=>gt_int q
theorem nI:cB X (compareOp .GtE) (lU λi j=>.bl (decide (j<=i))):=oE λ_ _ _ _ _ _ _ q=>ge_int q
theorem NM:cB X (compareOp .In) (λx y H Q=>∃i j,x=.str i/\y=.str j/\Q (.bl (!(Builtin.Str.occurrences j i 0 j.length 1).isEmpty)) H):=by
 intro d s c H x y v u Q I a b h;obtain⟨i,j,rfl,rfl,q⟩:=h;obtain⟨t,rfl⟩:=a;obtain⟨e,rfl⟩:=b;exact in_str (nL I q rfl)
theorem va:cB X (compareOp .Is) (λx y H Q=>y=.non/\Q (.bl (decide (x=.non))) H):=by
 intro d s c H x y v u Q I a b h;obtain⟨rfl,q⟩:=h;cases b;refine is_none_gen (nL I q ?_);cases x<;>first
  | (cases a;rfl)
  | (obtain⟨t,rfl⟩:=a;rfl)
theorem G6:cB X (compareOp .IsNot) (λx y H Q=>y=.non/\Q (.bl (!decide (x=.non))) H):=by
 intro d s c H x y v u Q I a b h;obtain⟨rfl,q⟩:=h;cases b;refine isnot_none_gen (nL I q ?_);cases x<;>first
  | (cases a;rfl)
  | (obtain⟨t,rfl⟩:=a;rfl)
theorem OR:cB X (compareOp .NotIn) (λx y H Q=>∃i j,x=.str i/\y=.str j/\Q (.bl (!(!(Builtin.Str.occurrences j i 0 j.length 1).isEmpty))) H):=by
 intro d s c H x y v u Q I a b h;obtain⟨i,j,rfl,rfl,q⟩:=h;obtain⟨t,rfl⟩:=a;obtain⟨e,rfl⟩:=b;exact notIn_str (nL I q rfl)
theorem cB.or(h:cB X f r)(e:cB X f r'):cB X f (λx y H Q=>r x y H Q\/r' x y H Q):=by
 intro c s a H x y v u Q I b d q;rcases q with q|q
 ·exact h c s a H x y v u Q I b d q
 ·exact e c s a H x y v u Q I b d q
theorem ai(b:Expr) (h:op≠.In:=by decide)(a:op≠.NotIn:=by decide):behindInMarks op b=false:=by
 have d:(op==CmpOp.In)=false:=by cases op<;>first|rfl|exact absurd rfl h
 have c:(op==CmpOp.NotIn)=false:=by cases op<;>first|rfl|exact absurd rfl a
 cases b<;>simp[behindInMarks,d,c]
theorem G9(l:cB X (compareOp op) r)(e:PE X a ta)(i:PE X b tb)(f:behindInMarks op b=false):PE X (.Compare a [op] [b] pos) (sW r ta tb):=by
 intro j s c H Q I h;exact wpAny_Compare1 (oM e i I h λv u m x y H2 g d k q=>l j m c H2 x y v u Q g d k q) f
def pD(t:TE):TT:=λa H Q=>t a H λx b=>∃k,x=.bl k/\Q k b
section
variable {X:Cx}{a:Expr}{b:Expr}{c:Expr}{ta:TE}{tb:TE}{pos:Pos}
theorem Hm{f:CmpOp}{r:R2}(n:cB X (compareOp f) r)(E:PE X a ta)(m:PE X b tb)(o:behindInMarks f b=false):PT X (.Compare a [f] [b] pos) (pD (sW r ta tb)):=by
 intro d s g H Q I h
 refine wpAny_isTrue_Compare1 (bp (E d s g H _ I h) λv j ⟨x,H1,A,t,w⟩=>bp (m d j g H1 _ A w) λu C ⟨y,H2,G,J,p⟩=>
  bp (n d C g H2 x y v u _ G t J p) λc P ⟨z,H3,i,q,k,e,l⟩=>?_) o
 subst e;cases q;exact pq ⟨H3,i,l⟩
end
def lP(r g:R2) (b c d:TE):TE:=λa H Q=>b a H λx H1=>c a H1 λy H2=>r x y H2 λz H3=>∃k,z=.bl k /\
 (if k=true then d a H3 λe f=>g y e f Q else Q (.bl false) H3)
section
variable {X:Cx}{a:Expr}{b:Expr}{c:Expr}{ta:TE}{tb:TE}{tc:TE}{pos:Pos}
theorem Ja{m f:CmpOp}{r p:R2}(P:cB X (compareOp m) r)(l:cB X (compareOp f) p)(ha:PE X a ta)(E:PE X b tb)(t:PE X c tc)
  (T:lastMarks [m,f] [b,c]=false:=by with_unfolding_all rfl):PT X (.Compare a [m,f] [b,c] pos) (pD (lP r p ta tb tc)):=by
 intro g s i H Q I h
 refine isTrue_chain (bp (ha g s i H _ I h) λv A ⟨x,H1,I1,r1,q1⟩=>test_link (bp (E g A i H1 _ I1 q1) λu s2 ⟨y,H2,I2,q,U⟩=>
  bp (P g s2 i H2 x y v u _ I2 r1 q U) λd s3 ⟨z,H3,n,Y,k,e,o⟩=>?_)) T
 subst e;cases Y;refine pq ?_;cases k with
 |false=>
  obtain⟨k',G,q'⟩:=o;cases G;exact ite_ff ⟨H3,n,q'⟩
 |true=>
  refine ite_tt (test_last (bp (t g s3 i H3 _ n o) λw J ⟨z',H4,I4,r4,S⟩=>bp (l g J i H4 y z' u w _ I4 q r4 S) λd' s5 j=>?_));obtain⟨z2,H5,C,R,k2,e2,q5⟩:=j;subst e2;cases R;exact pq ⟨H5,C,q5⟩
end
def rK(K:Fg) (x:V) (H:Hp) (k:Bool):Prop:=
 match x with
 |.non=>k=false
 |.bl b=>k=b
 |.int i=>k=(i != 0)
 |.str y=>y.length<=sizeLine/\k=((y.length:Int) != 0)
 |.byt y=>y.size<=sizeLine/\k=((y.size:Int) != 0)
 |.ref p=>(∃a,cp K H p a/\k=!a.isEmpty)\/(∃a,bD K H p a/\k=!a.isEmpty)\/∃c,H p=some (.dK c)/\k=!c.isEmpty
 |_=>False
theorem Qb{b:Type}{a:List (b×V)}{c:List (b×Value)}(r:KV a c):(!c.isEmpty)=!a.isEmpty:=by
 cases r<;>rfl
theorem N9(r:aq xs its):(!its.toArray.isEmpty)=!xs.isEmpty:=by
 cases r<;>simp
theorem eV:(sizeLine:Nat)<2^63:=by rw[hY];decide
section
variable {X:Cx}{b:Expr}
theorem FT:MK X (λx H Q=>∃k,rK X.K x H k/\Q k H):=by
 intro E s z H x v Q I g h;obtain⟨k,e,q⟩:=h;have A:=eV;have C:sizeLine=16777216:=hY;cases x with
 |non=>
  cases g;have a:k=false:=e;subst a;exact truthy_none ⟨H,I,q⟩
 |bl b=>
  cases g;have a:k=b:=e;subst a;exact pq ⟨H,I,q⟩
 |int i=>
  obtain⟨t,rfl⟩:=g;have a:k=(i != 0):=e;subst a;exact PySem.P.truthy_int ⟨H,I,q⟩
 |str y=>
  obtain⟨t,rfl⟩:=g;obtain⟨w,a⟩:y.length<=sizeLine/\k=((y.length:Int) != 0):=e;subst a;exact PySem.P.truthy_str '!' ⟨H,I.tok _,q⟩
 |byt y=>
  obtain⟨t,rfl⟩:=g;obtain⟨w,a⟩:y.size<=sizeLine/\k=((y.size:Int) != 0):=e;subst a;exact W.truthy_bytes '!' ⟨H,I.tok _,q⟩
 |ref p=>
  cases g;have a:(∃f,cp X.K H p f/\k=!f.isEmpty)\/(∃f,bD X.K H p f/\k=!f.isEmpty)\/∃c,H p=some (.dK c)/\k=!c.isEmpty:=e
  rcases a with⟨f,j,a⟩|⟨f,j,a⟩|⟨c,j,a⟩
  ·subst a;obtain⟨n,r,l,o⟩:=I.list j;have d:=r.length;exact wpAny_truthy_list l.isList (by simp only[cC];lia) ⟨H,I.tok _,by rw[N9 r];exact q⟩
  ·subst a;obtain⟨n,r,l,o⟩:=I.tuple j;have d:=r.length;exact truthy_tuple l (by simp only[cC];lia) ⟨H,I.tok _,by rw[N9 r];exact q⟩
  ·subst a;obtain⟨o,u,vs,r,m⟩:c.length<=sizeLine/\(p==sysModules)=false/\∃vs,KV c vs/\s.heap.DictOf (br X.prog X.w) p vs:=I.hok p _ j
   have d:c.length=vs.length:=wq r;exact wpAny_truthy_dict u m '!' ⟨H,I.tok _,by rw[Qb r];exact q⟩
 |_=>exact(show False from e).elim
end
section
variable {X:Cx}{a:Expr}{ta:TE}
theorem Nj(f:PE X a ta)(l:∀b,isTrue a X.env b=(do let v ←b;standAt a.pos;holding [v] (truthy v))):
  PT X a (λc H Q=>ta c H λx d=>∃k,rK X.K x d k/\Q k d):=by
 intro e s c H Q I h;exact isTrue_plain (bp (f e s c H _ I h) λv g ⟨x,H1,m,i,j⟩=>FT e g c H1 x v Q m i j) (l _)
end
theorem Qi:cB X (binaryOp .Add) (λx y H Q=>∃i j,x=.str i/\y=.str j/\i.length+j.length<=sizeLine/\Q (.str (i++j)) H):=by
 intro g s e H x y v u Q I a b h;obtain⟨i,j,rfl,rfl,d,q⟩:=h;obtain⟨t,rfl⟩:=a;obtain⟨c,rfl⟩:=b;exact add_str (λc f=>⟨.str (i++j),H,I.tok _,⟨_,rfl⟩,q⟩) d
theorem Qx:cB X (inplaceOp .Add) (λx y H Q=>∃i j,x=.str i/\y=.str j/\i.length+j.length<=sizeLine/\Q (.str (i++j)) H):=by
 intro g s e H x y v u Q I a b h;obtain⟨i,j,rfl,rfl,d,q⟩:=h;obtain⟨t,rfl⟩:=a;obtain⟨c,rfl⟩:=b;exact iadd_str (λc f=>⟨.str (i++j),H,I.tok _,⟨_,rfl⟩,q⟩) d
noncomputable def jm(b:Expr):Prop:=∀o i,subscripted b false o i=operate [o,i] (getItem o i)
theorem QJ(g:PE X a ta)(m:PE X b tb)(j:jm b):
  PE X (.Subscript a b pos) (sW (λx y H Q=>∃z i c,x=.str z/\y=.int i/\0<=i/\i<2^63/\i<z.length/\z.cps[i.toNat]?=some c/\Q (.str ⟨#[c]⟩) H) ta tb):=by
 intro E s C H Q I h;refine Subscript_ (oM g m I h λv u A x y H2 p f n q=>?_);obtain⟨z,i,c,rfl,rfl,l,d,o,k,q⟩:=q;obtain⟨t,rfl⟩:=f;obtain⟨G,rfl⟩:=n;have e:seqIndex? i z.length=some i.toNat:=PySem.StrLaws.seqIndex_nonneg l o
 exact tail_any (qN A z t) slot_str_getitem.lookup (getItem_str (c:=c) (by
  have r:decide (i < -(2^63:Int))=false:=bM '!';have w:decide (i ≥ 2^63)=false:=bM '!'
  rw[r,w]<;>rfl) (by rw[e];exact k) ⟨.str ⟨#[c]⟩,H2,p.tok _,⟨_,rfl⟩,q⟩) (j _ _)
theorem vals1(r:aq [x] us):∃u,us=[u]/\RelV x u:=by
 cases r with
 |cons r1 r2=>cases r2;exact⟨_,rfl,r1⟩
theorem vals2(r:aq [x,y] us):∃u w',us=[u,w']/\RelV x u/\RelV y w':=by
 cases r with
 |cons r1 r2=>
  cases r2 with
  |cons r3 r4=>cases r4;exact⟨_,_,rfl,r1,r3⟩
theorem HQ:bu X (.builtin "abs") (λa H Q=>∃ i,a=[.int i]/\Q (.int (if i<0 then -i else i)) H):=by
 intro e s b H a d Q I r h;obtain⟨i,rfl,q⟩:=h;obtain⟨u,rfl,t,rfl⟩:=vals1 r;exact call_abs_int λu c=>⟨.int (if i<0 then -i else i),H,I.tok _,⟨_,rfl⟩,q⟩
theorem Jz{X:Cx}(b:X.calm=true):bu X (.builtin "max") (λa H Q=>∃ i j,a=[.int i,.int j]/\Q (.int (if j > i then j else i)) H):=by
 intro l s c H a e Q I r h;obtain⟨i,j,rfl,q⟩:=h;obtain⟨u,g,rfl,⟨t,rfl⟩,⟨m,rfl⟩⟩:=vals2 r;refine max_two_ints (I.ok.hd b) λf d k=>⟨_,H,I.kept k,?_,q⟩
 by_cases hj:j > i
 ·rw[if_pos hj,if_pos hj];exact⟨_,rfl⟩
 ·rw[if_neg hj,if_neg hj];exact⟨_,rfl⟩
theorem BC{X:Cx}(b:X.calm=true):bu X (.builtin "min") (λa H Q=>∃ i j,a=[.int i,.int j]/\Q (.int (if j<i then j else i)) H):=by
 intro l s c H a e Q I r h;obtain⟨i,j,rfl,q⟩:=h;obtain⟨u,g,rfl,⟨t,rfl⟩,⟨m,rfl⟩⟩:=vals2 r;refine min_two_ints (I.ok.hd b) λf d k=>⟨_,H,I.kept k,?_,q⟩
 by_cases hj:j<i
 ·rw[if_pos hj,if_pos hj];exact⟨_,rfl⟩
 ·rw[if_neg hj,if_neg hj];exact⟨_,rfl⟩
theorem Jy:bu X (.type "int") (λa H Q=>(∃ i,a=[.int i]/\Q (.int i) H)\/∃ k,a=[.bl k]/\Q (.int (if k then 1 else 0)) H):=by
 intro e s c H a d Q I r h;rcases h with⟨i,rfl,q⟩|⟨k,rfl,q⟩
 ·obtain⟨u,rfl,t,rfl⟩:=vals1 r;exact call_int_int ⟨.int i,H,I,⟨_,rfl⟩,q⟩
 ·obtain⟨u,rfl,b⟩:=vals1 r;cases b;exact call_int_bool ⟨.int (if k then 1 else 0),H,I.tok _,⟨_,rfl⟩,q⟩
structure rQ (h:Heap) (x dx C:Addr) (mA:Str->Option Value):Prop where
 obj:h.get? x=some (W.instObj C dx)
 ns:h.Ns1 dx mA
 ne:dx≠x
theorem Kf{h:Heap}(n:h.Ns1 dx mA):∃d,h.get? dx=some d/\∀name,W.lookIn name d=some (mA name):=by
 obtain⟨o,c,m,k,f,i,_,g⟩:=n;refine⟨o,k,λname=>?_⟩;have e:=g name;unfold nsFind findBy at e;rw[←Array.find?_toList] at e;unfold W.lookIn;rw[f];dsimp only;split
 ·rename_i y q;rw[q] at e;exact congrArg some e
 ·rename_i q;rw[q] at e;have a:c.toList.any (·.refKey)=false:=by
   rw[List.any_eq_false];intro y l;obtain⟨z,t,b⟩:=i y (Array.mem_toList_iff.mp l);simp[DictEntry.refKey,b]
  have j:¬ c.toList.any (·.refKey)=true:=by rw[a];exact qY
  rw[if_neg j];exact congrArg some e
theorem rQ.look(I:rQ h x dx C mA):∃a,W.InstAt h x (W.instObj C dx) C (some a)/\∀name,W.lookIn name a=some (mA name):=
 let ⟨a,ho,hl⟩:=Kf I.ns
 ⟨a,⟨I.obj,rfl,rfl,ho⟩,hl⟩
theorem fR.some_of(r:fR (some v) o):∃u,o=some u/\RelV v u:=by
 cases o with
 |none=>exact(show False from r).elim
 |some u=>exact⟨u,rfl,r⟩
theorem GJ(c:ff P w H h)(e:H a=some (.ins C dx fs)):∃b,rQ h a dx C b/\(∀f,fR (fs.lookup f) (b f))/\PySem.Within b (fs.map (·.1))/\fs.length<=1000/\H dx=some (.own a):=by
 obtain⟨d,z,g,i,b,n,r,q⟩:=(show aE P w H h a (.ins C dx fs) from c a _ e)
 exact⟨b,⟨i,n,g⟩,r,q,z,d⟩
structure MR (K:Fg) (C:Addr):Prop where
 pg:W.plainGet K C Str.empty=true
 hd:W.hasDictIn K C=true
 po:W.plainOver K C=true
 sa:W.findIn K (.ref C) "__setattr__"=some (some (.builtin "object.__setattr__"))
theorem MR.get{K:Fg}{C:Addr}(c:MR K C)(f:Str):W.plainGet K C f=true:=c.pg
inductive fc (K:Fg) (H:Hp):V->Value->Prop where
 |non:fc K H .non (.type "NoneType")
 |bl (x:Bool):fc K H (.bl x) (.type "bool")
 |int (i:Int):fc K H (.int i) (.type "int")
 |str (x:Str):fc K H (.str x) (.type "str")
 |flt (x:UInt64):fc K H (.flt x) (.type "float")
 |lst {a:Addr}{xs:List V}(e:H a=some (.lst xs)):fc K H (.ref a) (.type "list")
 |frz {a:Addr}{o:Obj}{xs:List V}(e:H a=some (.frz o (.lst xs))):fc K H (.ref a) (.type "list")
 |tup {a:Addr}{xs:List V}(e:H a=some (.tup xs)):fc K H (.ref a) (.type "tuple")
 |dK {a:Addr}{kvs:List (cN×V)}(e:H a=some (.dK kvs)):fc K H (.ref a) (.type "dict")
 |dT {a:Addr}{kvs:List (List cN×V)}(e:H a=some (.dT kvs)):fc K H (.ref a) (.type "dict")
 |ins {a C dx:Addr}{fs:List (Str×V)}(e:H a=some (.ins C dx fs)) (cl:MR K C) (ha:W.findIn K (.ref C) "__class__"=some (some (.builtin "object.__class__")))
  (hn:W.specialIn K (.builtin "object.__class__") "__get__"=some (some (.builtin "getset_descriptor.__get__")))(htk:W.takesIn K (.builtin "object.__class__")=some true)
  (hm:W.mroIn K C (.type "object")=some true):fc K H (.ref a) (.ref C)
theorem Ka(I:Inv X aW σ H s)(d:RelV x u)(r:fc X.K H x t)(e:W.kitOne X.K t c=some b)(h:∀k,Q (.bool b) {s with toks:=k}):
  wpAny (model X.prog X.w) A (call (.builtin "isinstance") [u,c]) Q E s:=by
 cases r with
 |non=>cases(show u=Value.none from d);exact lF W.kitx_none I.kIn True.intro e (λz=>nomatch z) h
 |bl y=>cases(show u=Value.bool y from d);exact lF W.kitx_bool I.kIn True.intro e (λz=>nomatch z) h
 |int i=>obtain⟨t,q⟩:=(show ∃t,u=Value.int i t from d);cases q;exact lF W.kitx_int I.kIn True.intro e (λz=>nomatch z) h
 |str y=>obtain⟨t,q⟩:=(show ∃t,u=Value.str y t from d);cases q;exact lF W.kitx_str I.kIn True.intro e (λz=>nomatch z) h
 |flt y=>obtain⟨t,q⟩:=(show ∃t,u=Value.float y t from d);cases q;exact lF W.kitx_float I.kIn True.intro e (λz=>nomatch z) h
 |@lst a g ea=>
  cases(show u=Value.ref a from d);obtain⟨_,_,n,_,f⟩:=(show aE X.prog X.w H s.heap a (.lst g) from I.hok a _ ea)
  exact lF W.kitx_list I.kIn ⟨_,f,rfl⟩ e (λz=>nomatch z) h
 |@frz a ob g ea=>
  cases(show u=Value.ref a from d);obtain⟨_,_,_,n,_,f⟩:=(show aE X.prog X.w H s.heap a (.frz ob (.lst g)) from I.hok a _ ea)
  exact lF W.kitx_list I.kIn ⟨_,f,rfl⟩ e (λz=>nomatch z) h
 |@tup a g ea=>
  cases(show u=Value.ref a from d);obtain⟨_,_,_,p⟩:=(show aE X.prog X.w H s.heap a (.tup g) from I.hok a _ ea)
  obtain⟨o,f,j,_⟩:=p;exact lF W.kitx_tuple I.kIn ⟨o,f,j⟩ e (λz=>nomatch z) h
 |@dK a kvs ea=>
  cases(show u=Value.ref a from d);obtain⟨_,_,v,_,p⟩:=(show aE X.prog X.w H s.heap a (.dK kvs) from I.hok a _ ea)
  obtain⟨o,m,l,f,j,_⟩:=p;exact lF W.kitx_dict I.kIn ⟨o,f,j.1⟩ e (λz=>nomatch z) h
 |@dT a kvs ea=>
  cases(show u=Value.ref a from d);obtain⟨_,_,g,_,o,m,l,f,j,_⟩:=(show aE X.prog X.w H s.heap a (.dT kvs) from I.hok a _ ea)
  exact lF W.kitx_dict I.kIn ⟨o,f,j.1⟩ e (λz=>nomatch z) h
 |@ins a C dx fs ea cl ha hn htk hm=>
  cases(show u=Value.ref a from d);obtain⟨G,O,_⟩:=GJ I.hok ea;obtain⟨w,J,_⟩:=O.look;exact lF (W.kitx_own (cl.get _) cl.hd ha hn htk hm) I.kIn J e (λz=>nomatch z) h
structure bP (k:Nat) (A:Around):Prop where
 hd:A.handled=none
 dp:A.depth+3*k+5<recursionLimit
 un:A.units+16*k+200<cLine
theorem bP.mono(r:bP k A)(h:j<=k):bP j A:=⟨r.hd,by have:=r.dp;lia,by have:=r.un;lia⟩
theorem bP.deeper(r:bP (k+1) A)(a:Env):bP k (A.deeper a):=
 ⟨r.hd,by have:=r.dp;show A.depth+1+3*k+5<_;lia,by have:=r.un;show A.units+3+16*k+200<_;lia⟩
theorem bP.depth(r:bP k A):A.depth<recursionLimit:=by have:=r.dp;lia
theorem bP.units(r:bP k A):A.units+64<cLine:=by have:=r.un;lia
theorem bP.units0(r:bP k A):A.units<cLine:=by have:=r.un;lia
def LX:TA:=λ_ H Q=>Q [] H
def wU(b:TE) (d:TA):TA:=λa H Q=>b a H λx H1=>d a H1 λc H2=>Q (x::c) H2
theorem nO:PA X [] LX:=λ_ _ _ _ H Q I h=>Calls.spliced_nil ⟨[],H,I,.nil,h⟩
theorem se(f:PE X e te)(q:PA X es t)(i:starEach (e::es) X.env=(false,eval e X.env)::starEach es X.env:=by rfl):PA X (e::es) (wU te t):=by
 intro a d s c H Q I h;rw[i];show wpAny _ _ (spliced ((false,eval e X.env)::backTo a (starEach es X.env))) _ _ s;refine Lp (bp (f d s c H _ I h) λu g b=>?_);obtain⟨x,H1,p,l,m⟩:=b;exact bp (q a d g c H1 _ p m) λr v ⟨j,H2,n,o,k⟩=>⟨x::j,H2,n,.cons l o,k⟩
def LS(t:TA):TE:=λb H Q=>t b H λa H1=>a.length<=sizeLine/\∀p,H1 p=none->Q (.ref p) (aD H1 p (.tup a))
def LY(t:TA):TE:=λb H Q=>t b H λa H1=>a.length<=sizeLine/\∀p,H1 p=none->Q (.ref p) (aD H1 p (.lst a))
theorem Fx{x1}(h:PA X es t):PE X (.Tuple es x1 pos) (LS t):=by
 intro k s d H Q I g;refine wpAny_Tuple_spliced (bp (h pos k s d H _ I g) λf a ⟨i,H1,c,r,z,q⟩=>⟨by rw[←r.length];exact z,?_⟩);have j:H1 a.heap.objs.size=none:=c.hok.fresh (bi _);refine⟨.ref a.heap.objs.size,aD H1 a.heap.objs.size (.tup i),c.laid (t':=a.toks) (λb u e=>bL _ e) (bi _) ?_,rfl,q _ j⟩;exact⟨z,f,r,⟨_,dD _ rfl,rfl,_,rfl⟩⟩
theorem qF(h:PA X es t):PE X (.List es pos) (LY t):=by
 intro k s d H Q I g;refine wpAny_List_spliced (bp (h pos k s d H _ I g) λf a ⟨i,H1,c,r,z,q⟩=>⟨by rw[←r.length];exact z,?_⟩);have j:H1 a.heap.objs.size=none:=c.hok.fresh (bi _);refine⟨.ref a.heap.objs.size,aD H1 a.heap.objs.size (.lst i),c.laid (t':=a.toks) (λb u e=>bL _ e) (bi _) ?_,rfl,q _ j⟩;exact⟨z,f,0,r,dD _ rfl⟩
abbrev Sp:=List V->Hp->VK->XK->Prop
abbrev rV:=List Env->Hp->Shared->XK->Value->Shared->Prop
structure oX (P:Program) (w:World) (K:Fg) (mg:Str->Option Value) (base:Heap) (A:Around) (outer:List Env) (s:Shared) (H:Hp):Prop where
 frames:A.frames=some outer
 mod:Mod K mg base
 bs:∀b o,base.get? b=some o->s.heap.get? b=some o/\H b=none
 bsz:base.objs.size<=s.heap.objs.size
 funs:s.heap.FunFrames base outer
 frf:∀b∈eW outer,H b=none
 hok:ff P w H s.heap
 bare:AllBare s.gens
def CE(a:List Env) (P:Program) (w:World) (H:Hp) (s:Shared) (Q:VK) (u:Value) (b:Shared):Prop:=
 ∃v c,b.os=s.os/\AllBare b.gens/\Un (eW a) [] H c s.heap b.heap/\ff P w c b.heap/\RelV v u/\Q v c
def CR(c:rV) (a:List Env) (P:Program) (w:World) (H:Hp) (s:Shared) (Q:VK) (E:XK) (r:Result) (b:Shared):Prop:=
 match r with
 |.ok (.ret u)=>CE a P w H s Q u b
 |.ok _=>False
 |.error e=>c a H s E e b
structure fS (P:Program) (w:World) (K:Fg) (mg:Str->Option Value) (base:Heap) (CX:rV) (k:Nat) (f:Addr) (fd:FuncData) (ps:List Str) (sp:Sp):Prop where
 len:∀vs H Q E,sp vs H Q E->vs.length=ps.length
 run:∀(A:Around) (outer:List Env) (s:Shared) (H:Hp) (args:Args) (us:List Value) (vs:List V) (Q:VK) (E:XK),bP k A->oX P w K mg base A outer s H->BindsTo s fd args (ps.zip us)->aq vs us->sp vs H Q E ->
  codeAny (model P w) A (.call (.ref f) args) (CR CX outer P w H s Q E) s
theorem Inv.env0(I:Inv X aW σ H s):oX X.prog X.w X.K X.mg X.base X.A X.stack s H:=
 ⟨I.ok.frames,I.ok.mod,I.bs,aT I.ok.bsz I.sz,I.stack,I.stkFree,I.hok,I.bare⟩
theorem Inv.after(I:Inv X aW σ H s)(h:CE X.stack X.prog X.w H s Q u s'):EP X aW σ Q u s':=by
 obtain⟨v,f,os,a,i,c,r,q⟩:=h;obtain⟨j,g,d,t,e⟩:=s';obtain rfl:e=s.os:=os;exact⟨v,f,I.call (h':=j) (g':=g) (d':=d) (t':=t) (ch:=[]) i c a (λb z=>absurd z '&'),r,q⟩
def lQ(c:Sp) (a:List V) (E:XK) (t:TA):TE:=λb H Q=>t b H λd H1=>c (d++a) H1 Q E
noncomputable def Binds(K:Fg) (d:FuncData) (b:List Str) (c:List Value):Prop:=
 ∀(s:Shared) (a:List Value),K.In s.heap->(a++c).length=b.length->BindsTo s d ⟨a,[]⟩ (b.zip (a++c))
theorem Binds.all{K:Fg}{b:List Str}(h:∀a:List Value,a.length=b.length->bindArgs fd ⟨a,[]⟩=pure (b.zip a)):Binds K fd b []:=λs a _ c=>by
 rw[fE] at c ⊢;exact .of_eq (h a c)
def jP(c:rV) (X:Cx) (E:XK):Prop:=∀(d:List (Addr×Obj)) (b:St) (H:Hp) (s:Shared) (e:Value) (a:Shared),Inv X d b H s->c X.stack H s E e a->X.xe e a
theorem FJ{X:Cx}(F:fS X.prog X.w X.K X.mg X.base CX k f fd ps sp)(l:bP k X.A)(g:Binds X.K fd ps ds)(c:aq dvs ds)(i:jP CX X E)
  (I:Inv X aW σ H s)(r:aq vs us)(h:sp (vs++dvs) H Q E):wpAny (model X.prog X.w) X.A (call (.ref f) us) (EP X aW σ Q) X.xe s:=by
 have b:aq (vs++dvs) (us++ds):=r.append c;have j:(us++ds).length=ps.length:=by rw[←b.length];exact F.len _ _ _ _ h
 refine wpAny_call (wk (F.run X.A X.stack s H ⟨us,[]⟩ (us++ds) (vs++dvs) Q E l I.env0 (g s us I.kIn j) b h) λr d a=>?_);cases r with
 |error e=>exact i aW σ H s e d I a
 |ok fl=>
  cases fl with
  |ret u=>exact I.after a
  |next=>exact False.elim a
  |brk=>exact False.elim a
  |cont=>exact False.elim a
theorem G8{X:Cx}(F:fS X.prog X.w X.K X.mg X.base CX k f fd ps sp)(w:bP k X.A)(l:Gl X x)(j:X.mg x=some (.ref f))(m:W.keepIn X.K (.ref f)=true)(n:Binds X.K fd ps ds)(d:aq dvs ds)(v:jP CX X E)
  (i:PA X (e::es) t)(b:(x==("__debug__" : Str))=false:=by decide)(u:starEach (e::es) X.env=(false,eval e X.env)::starEach es X.env:=by rfl)(a:(backTo pos (starEach es X.env)).any (·.1)=false:=by rfl):
  PE X (.Call (.Name x p) (e::es) [] pos) (lQ sp dvs E t):=by
 intro o s g H Q I h;refine zU (xV I l j ?_ b);refine Lo (h₀:=X.base) I.ok.mod.kin m (bp (i pos o s g H _ I h) λy z ⟨A,H1,c,r,q⟩=>⟨c.kIn,?_⟩) u a;exact FJ F w n d v c r q
structure ak (N P:List Str) (sc:Scope):Prop where
 kind:sc.kind=.function
 co:sc.isCoroutine=false
 gen:sc.isGenerator=false
 nd:N.Nodup
 pre:N.take P.length=P
 par:∀x∈P,sc.names.lookup x=some .local\/sc.names.lookup x=some .cell
 nofree:∀y∈sc.names,y.2≠.free
theorem NC{kindOf:Str->Option NameKind}:∀{a:List (Str×Value)}{m:Str->Option Value},(∀v,(x,v)∉a)->bindL kindOf a m x=m x
 |[],_,_=>rfl
 | (n,v)::r,m,h=>by
  unfold bindL;rw[NC λw b=>h w (gZ _ b)];split
  ·have:x≠n:=by rintro rfl;exact h v f6
   simp[this]
  ·rfl
theorem NA{kindOf:Str->Option NameKind}:∀{a:List (Str×Value)}{m:Str->Option Value},(∀v,(x,v)∉a)->bindC kindOf a m x=m x
 |[],_,_=>rfl
 | (n,v)::r,m,h=>by
  unfold bindC;rw[NA λw b=>h w (gZ _ b)];split
  ·rfl
  ·have:x≠n:=by rintro rfl;exact h v f6
   simp[this]
theorem NB{kindOf:Str->Option NameKind}:∀{P:List Str}{a:List Value}{i:Nat}{m:Str->Option Value},P.Nodup->P[i]?=some x->a[i]?=some v->kindOf x=some .local ->
  bindL kindOf (P.zip a) m x=some v
 |[],_,_,_,_,h,_,_=>by simp at h
 |_::_,[],_,_,_,_,h,_=>by simp at h
 |p::P,w::a,0,m,nd,h1,h2,hk=>by
  simp at h1 h2;subst h1;subst h2
  show bindL kindOf ((p,w)::P.zip a) m p=_;unfold bindL;rw[NC λv b=>(zI.mp nd).1 (K2 b).1,if_pos hk];simp
 |p::P,w::a,i+1,m,nd,h1,h2,hk=>by
  show bindL kindOf ((p,w)::P.zip a) m x=_;unfold bindL;exact NB (i:=i) (zI.mp nd).2 (by simpa using h1) (by simpa using h2) hk
theorem Nz{kindOf:Str->Option NameKind}:∀{P:List Str}{a:List Value}{i:Nat}{m:Str->Option Value},P.Nodup->P[i]?=some x->a[i]?=some v->kindOf x≠some .local ->
  bindC kindOf (P.zip a) m x=some v
 |[],_,_,_,_,h,_,_=>by simp at h
 |_::_,[],_,_,_,_,h,_=>by simp at h
 |p::P,w::a,0,m,nd,h1,h2,hk=>by
  simp at h1 h2;subst h1;subst h2
  show bindC kindOf ((p,w)::P.zip a) m p=_;unfold bindC;rw[NA λv b=>(zI.mp nd).1 (K2 b).1,if_neg hk];simp
 |p::P,w::a,i+1,m,nd,h1,h2,hk=>by
  show bindC kindOf ((p,w)::P.zip a) m x=_;unfold bindC;exact Nz (i:=i) (zI.mp nd).2 (by simpa using h1) (by simpa using h2) hk
def start(N:List Str) (a:List V):St:=a.map some++List.replicate (N.length-a.length) none
def dW(g:rV) (P:Program) (w:World) (K:Fg) (mg:Str->Option Value) (base:Heap) (N:List Str) (b:Str) (a:Scope) (f:Addr) (d:Value) (A:Around) (outer:List Env) (s:Shared) (H:Hp) (E:XK):Cx where
 prog:=P
 w:=w
 K:=K
 mg:=mg
 base:=base
 A:=A.deeper (envOfC b a s.heap.objs.size f d)
 N:=N
 s₀:=s
 H₀:=H
 env:=envOfC b a s.heap.objs.size f d
 outer:=outer
 stack:=envOfC b a s.heap.objs.size f d::outer
 ex:=[]
 calm:=true
 fn:=λ_=>true
 pn:=[]
 xe:=λe h=>wpAny (model P w) (A.deeper (envOfC b a s.heap.objs.size f d)) (leaving (envOfC b a s.heap.objs.size f d) e) (λ_ c=>g outer H s E e c) (λi c=>g outer H s E i c) h
theorem MU{a:Scope}(h:a.names.lookup x=some .cell):∃c,(cellsFrom n a.names []).lookup x=some c:=by
 have q:=W.cellsFrom_some a.names n [] (.inl h);exact Option.isSome_iff_exists.mp q
theorem J8{K:Fg}{N:List Str}{A:Around}{j:List V}
  (S:ak N ps scope)(G:A.handled=none)(g:oX P w K mg base A outer s H)(Y:j.length=ps.length)(r:aq j us)
  (x:InCallC s s.heap.objs.size (bindL (envOfC qual scope s.heap.objs.size f cd).kindOf (ps.zip us) λ_=>none) (cellsFrom (s.heap.objs.size+1) scope.names []) (bindC (envOfC qual scope s.heap.objs.size f cd).kindOf (ps.zip us) λ_=>none) s1):
  Inv (dW CX P w K mg base N qual scope f cd A outer s H E) [] (start N j) H s1:=by
 have Q:ps.length<=N.length:=by have:=congrArg List.length S.pre;rw[iY] at this;lia
 obtain⟨C,U,rfl,I⟩:=x.done;have l:∀b:Addr,b∉(dW CX P w K mg base N qual scope f cd A outer s H E).ex:=λb z=>absurd (show b∈([]:List Addr) from z) '&'
 refine⟨⟨g.mod,S.kind,rfl,rfl,bi _,λy z c C d=>?_,λy hy=>?_,λy c _ h=>?_,λ_=>G,Around.frames_deeper g.frames,.inr ⟨rfl,rfl⟩,λb z=>absurd z (l b),g.bs,g.bsz,λb _ _=>l b,λb z=>absurd z (l b),g.funs,g.frf⟩,
  rfl,g.bare,Un.kept I,⟨_,x.toInCall.ns,λi y v C d X=>?_⟩,λy c h=>⟨_,x.cell y c h⟩,g.hok.fresh (bi _),λy c h=>?_,λp m=>absurd (show p∈([]:List (Addr×Obj)) from m) '&',g.hok.kept I,?_,oV.none G⟩
 ·exact name_of_addr x.apart (sR C) (sR d)
 ·have hy:scope.names.lookup y=some .cell\/scope.names.lookup y=some .free:=hy;rcases hy with hy|hy
  ·exact MU hy
  ·exact absurd rfl (S.nofree _ (sR hy))
 ·exact cX (x.above y c (sR h))
 ·have t:i<j.length:=by
   unfold start at d;by_cases t:i<j.length
   ·exact t
   ·rw[iE (by simpa using t)] at d;rw[LH] at d;split at d<;>cases d
  have R:j[i]?=some v:=by
   unfold start at d;rw[f7 (by simpa using t),dm] at d;cases e:j[i]? with
   |none=>rw[e] at d;cases d
   |some a=>rw[e] at d;cases d;rfl
  obtain⟨u,J,T⟩:=r.get R;have m:ps[i]?=some y:=by
   rw[←S.pre,List.getElem?_take_of_lt '!'];exact C
  have o:ps.Nodup:=by rw[←S.pre];exact S.nd.sublist (List.take_sublist _ _)
  refine⟨u,T,?_⟩;rcases S.par y (fj m) with k|k
  ·exact .inl ⟨k,NB o m J k⟩
  ·obtain⟨c,e⟩:=MU (n:=s.heap.objs.size+1) k;refine .inr ⟨.inl k,c,e,?_⟩;have q:=x.cell y c e;rw[Nz o m J (by show scope.names.lookup y≠_;rw[k];decide)] at q;exact q
 ·exact g.hok.fresh (cX (x.above y c (sR h)))
 ·unfold start;show _=N.length;rw[cq,ax,mW];lia
theorem uk{K:Fg}{kV:Value}
     {N:List Str}(lk:K.lookup f=some ⟨oc,od,.func (W.fnOf name qual params body scope dV kV doc pm an cdv ct),osl⟩)(z:W.codeIn K cdv qual=true)(S:ak N ps scope)
    (len:∀ d H Q E,sp d H Q E->d.length=ps.length)
    (i:∀(A:Around) (a:List Env) (s:Shared) (H:Hp) (d:List V) (Q:VK) (E:XK),bP k (A.deeper (envOfC qual scope s.heap.objs.size f cdv))->sp d H Q E ->
      ∃ t,io (dW CX P w K mg base N qual scope f cdv A a s H E) body t/\t { nx:=λ_ g=>Q .non g,rt:=Q } (start N d) H):
    fS P w K mg base CX (k + 1) f (W.fnOf name qual params body scope dV kV doc pm an cdv ct) ps sp:=by
  refine⟨len,λA a s H U us d Q E G m hb r l=>?_⟩;have hl:=len _ _ _ _ l;have X:K.In s.heap:=m.mod.kin.keeps λb o e=>(m.bs b o e).1
  have R:s.heap.NoLimit:=m.mod.nolimit.keeps λb o e=>(m.bs b o e).1
  have h:∀ y∈ps.zip us,scope.names.lookup y.1=some .local\/(scope.names.lookup y.1=some .cell/\((cellsFrom (s.heap.objs.size + 1) scope.names []).lookup y.1).isSome=true):=λC hy=>by
    obtain⟨n,v⟩:=C;rcases S.par n (K2 hy).1 with q|q
    · exact .inl q
    · exact .inr ⟨q,W.cellsFrom_some _ _ _ (.inl q)⟩
  refine codeAny_call_function G.depth (X _ _ lk) rfl S.co S.gen rfl (W.codeRec_of X z) (hb _ _ _ _ ?_);refine wpAny_newFunctionEnv_cells S.kind h λa0 he s1 x=>?_
  subst he;refine⟨R.keeps x.toInCall.keep,codeAny_func ?_⟩;obtain⟨t,Y,hq⟩:=i A a s H d Q E (G.deeper _) l;have I:Inv (dW CX P w K mg base N qual scope f cdv A a s H E) [] (start N d) H s1:=J8 S G.hd m hl r x;refine hX (Y [] s1 (start N d) H _ I hq) (λfl s' j=>?_) λe s' j=>j
  have p:∀{c:St}{g:Hp}{v:V}{u:Value},Inv (dW CX P w K mg base N qual scope f cdv A a s H E) [] c g s'->RelV v u->Q v g->CE a P w H s Q u s':=
    λ{c g v u} J T q=>⟨v,g,J.os,J.bare,J.base,J.hok,T,q⟩
  cases fl with
  |ret u=>
    obtain⟨v,c,g,J,T,q⟩:=j;exact p J T q
  |next=>
    obtain⟨c,g,J,q⟩:=j;exact p (v:=V.non) (u:=Value.none) J rfl q
  |brk=>
    obtain⟨_,_,_,q⟩:=j;exact False.elim q
  |cont=>
    obtain⟨_,_,_,q⟩:=j;exact False.elim q
def L6(r:List V->Hp->VK->Prop) (t:TA):TE:=λa H Q=>t a H λb H1=>r b H1 Q
theorem Ng{id:String}(l:bu X (.builtin id) r)(u:Gl X x)(k:X.mg x=none)(m:bootBuiltins x=some (.builtin id))(g:PA X (e::es) t)(w:x≠"__name__":=by decide)(b:(x==("__debug__" : Str))=false:=by decide)
  (q:starEach (e::es) X.env=(false,eval e X.env)::starEach es X.env:=by rfl)(a:(backTo pos (starEach es X.env)).any (·.1)=false:=by rfl):PE X (.Call (.Name x p) (e::es) [] pos) (L6 r t):=by
 intro d s c H Q I h;refine zU (pW I u k m ?_ w b);exact PyProof.Rows.callWith_builtin1 (bp (g pos d s c H _ I h) λf i ⟨j,H1,v,n,o⟩=>l d i c H1 j f Q v n o) q a
theorem NN{T:String}(l:bu X (.type T) r)(u:Gl X x)(k:X.mg x=none)(m:bootBuiltins x=some (.type T))(g:PA X (e::es) t)(w:x≠"__name__":=by decide)(b:(x==("__debug__" : Str))=false:=by decide)
  (q:starEach (e::es) X.env=(false,eval e X.env)::starEach es X.env:=by rfl)(a:(backTo pos (starEach es X.env)).any (·.1)=false:=by rfl):PE X (.Call (.Name x p) (e::es) [] pos) (L6 r t):=by
 intro d s c H Q I h;refine zU (pW I u k m ?_ w b);exact wN (bp (g pos d s c H _ I h) λf i ⟨j,H1,v,n,o⟩=>l d i c H1 j f Q v n o) q a
end L2
namespace HT
open PyProof.Rows
noncomputable def lexLt:List Int->List Int->Bool
 |[],[]=>false
 |[],_::_=>true
 |_::_,[]=>false
 |x::xs,y::ys=>if x=y then lexLt xs ys else decide (x<y)
theorem sE(x y:Int)(a b:List Int):lexLt (x::a) (y::b)=if x=y then lexLt a b else decide (x<y):=rfl
theorem CN:lexLt [] []=false:=rfl
theorem yT(y:Int)(a:List Int):lexLt [] (y::a)=true:=rfl
theorem CU(x:Int)(a:List Int):lexLt (x::a) []=false:=rfl
theorem Iu(A:Around)(s:Shared)(a:Int)(t:Tok)(c:Int)(u:Tok):∃e,SeqAt.EqAt A s (.int a t) (.int c u) e/\(e=true↔a=c):=
 ⟨(a==c),SeqAt.EqAt.int_int a t c u,by simp⟩
theorem Jc(A:Around)(s:Shared)(a:Int)(t:Tok)(c:Int)(u:Tok)(b:Program)(w:World)(E:Value->Shared->Prop)(Q:Value->Shared->Prop)(h:Q (.bool (decide (a<c))) s):
  wpAny (model b w) A (richCompare .Lt (.int a t) (.int c u)) Q E s:=
 (PyProof.Rows.lt_int h:wpAny (model b w) A (compareOp .Lt (.int a t) (.int c u)) Q E s)
section
open SeqAt
open PySem.AutoSeq1 (wpAny_loadPart')
open MeetsSeq MeetsSeq2 MeetsSeq3
theorem O7(l b:Addr)(i f:Array Value)(n n2:Nat)(dd a1:Option Addr)(sl a0:Array (Option Value))(Q I:List Int)(hi:IntsAre i.toList Q)(hj:IntsAre f.toList I):
  Meets (Builtin.«tuple.__lt__» ⟨[.ref l,.ref b],[]⟩)
   (λ_ R s=>s.heap.get? l=some { cls:=.type "tuple",dict:=dd,data:=.seq i n,slots:=sl }/\s.heap.get? b=some { cls:=.type "tuple",dict:=a1,data:=.seq f n2,slots:=a0 } /\
    R (.ok (.ret (.bool (lexLt Q I)))) s):=
 .of_wp λv w A R s h=>by
  obtain⟨P,g,d,S,os⟩:=s;obtain⟨hl,hb,h⟩:=h
  have f2:=AutoSeq1.sub_tuple_tuple;have z1:i.size=Q.length:=by rw[←hi.length];simp
  have z2:f.size=I.length:=by rw[←hj.length];simp
  wp_walk using wpAny_loadPart' hl,wpAny_loadPart' hb,wpAny_forIn_list _ (λz b Y=>b.1=none/\Y=⟨P,g,d,S,os⟩/\∃(T J:List Value) (k m:List Int),z=T.zip J /\
   IntsAre T k/\IntsAre J m/\k.length+f.size=m.length+i.size/\R (.ok (.ret (.bool (lexLt k m)))) ⟨P,g,d,S,os⟩) _
  case turn=>
   rintro⟨y,x⟩ z b Y ⟨E,rfl,T,J,k,m,p,G,o,j,C⟩;cases G with
   |nil=>rw[List.zip_nil_left] at p;cases p
   |cons a t hvi'=>
    cases o with
    |nil=>rw[List.zip_nil_right] at p;cases p
    |cons c u hwi'=>
     rw[Ln] at p;injection p with U H
     injection U with hy hx
     subst hy hx;rw[sE] at C;simp only[d5] at j;obtain⟨e,he,r⟩:=Iu A.in1 ⟨P,g,d,S,os⟩ a t c u;refine am (he v w _ _ ?_);cases e with
     |true=>
      rw[if_pos (r.mp rfl)] at C
      wp_walk
      exact⟨rfl,rfl,_,_,_,_,H,hvi',hwi',by lia,C⟩
     |false=>
      rw[if_neg (λq=>absurd (r.mpr q) qY)] at C;have X:=Jc A.in1 ⟨P,g,d,S,os⟩ a t c u v w
      wp_walk using X
      exact⟨_,rfl,by simpa using C⟩
  case fin=>
   rintro⟨b1,b2⟩ Y ⟨E,rfl,T,J,k,m,p,G,o,j,C⟩;simp only at E;subst E;have hv:lexLt k m=decide (i.size<f.size):=by
    cases G with
    |nil=>
     cases o with
     |nil=>
      simp only[wx] at j;rw[CN];exact(bM '!').symm
     |cons c u hw=>
      simp only[wx,d5] at j;rw[yT];exact(bH '!').symm
    |cons a t hv=>
     cases o with
     |nil=>
      simp only[wx,d5] at j;rw[CU];exact(bM '!').symm
     |cons c u hw=>
      rw[Ln] at p;cases p
   rw[hv] at C
   wp_walk
   exact⟨_,rfl,by simpa [Builtin.Tuple.tupleCompareSizes] using C⟩
  case h=>
   exact⟨rfl,rfl,i.toList,f.toList,Q,I,rfl,hi,hj,by lia,h⟩
end
theorem Oc{A:Around}{s:Shared}(y:IsTup s.heap l items)(q:IsTup s.heap b items2)(r:IntsAre items.toList ns)(u:IntsAre items2.toList ms)
  (v:A.units<cLine)(h:Q (.bool (lexLt ns ms)) s):wpAny (model prog w) A (compareOp .Lt (.ref l) (.ref b)) Q E s:=by
 obtain⟨⟨o,z,k,p⟩,j,g,n,i⟩:=id y;obtain⟨⟨m,f,data2,e⟩,d,a,t,c⟩:=id q;simp only at g i a c;subst g i a c;exact richCompare_meets_room (op:=.Lt) ⟨_,j,rfl⟩ ⟨_,d,rfl⟩ Ly F.entry_tuple_lt (F.args_tuple_lt_2 _ _) (O7 l b items items2 n t z f p e ns ms r u)
  ⟨j,d,show Value.bool (lexLt ns ms)≠Value.notImplemented/\Q (.bool (lexLt ns ms)) s from⟨(λx=>nomatch x),h⟩⟩ v
theorem F4{s:Shared}{d a:List Value}(v:IsTup s.heap t d.toArray)(x:IsTup s.heap b a.toArray)(m:d≠[])
  (z:a=[]->Q (.ref t) s)(y:a≠[]->Q (.ref s.heap.objs.size) { s with heap:=s.heap.push { cls:=.type "tuple",data:=.seq (d++a).toArray } })
  (k:d.length+a.length<=sizeLine):wpAny (model prog w) A (binaryOp .Add (.ref t) (.ref b)) Q E s:=by
 obtain⟨⟨cls,r,data,p⟩,j,l,n,o⟩:=id v;obtain⟨⟨u,i,data2,h⟩,c,f,q,g⟩:=id x;simp only at l o f g;subst l o f g;have e:d.toArray++a.toArray=(d++a).toArray:=by simp
 by_cases hw:a=[]
 ·exact concat_meets ⟨_,j,rfl⟩ ⟨_,c,rfl⟩ noFill_tuple_add seq_tuple_add LA LG (LI _ _)
   (tuple_addW1 t b d.toArray a.toArray n q r i p h (by simpa using m) (by simp[hw])) ⟨j,c,z hw⟩
 ·refine concat_meets ⟨_,j,rfl⟩ ⟨_,c,rfl⟩ noFill_tuple_add seq_tuple_add LA LG (LI _ _)
   (tuple_addW2 t b d.toArray a.toArray n q r i p h (by simpa using m) (by simpa using hw) (by rw[cC,cC];exact k)) ⟨j,c,?_⟩
  rw[e];exact y hw
noncomputable def bN(n d:Nat):Option Int->Nat
 |none=>d
 |some v=>if v<0 then(v+(n:Int)).toNat else min v.toNat n
theorem Np(n d:Nat):bN n d none=d:=rfl
theorem ya(n d k:Nat):bN n d (some (k:Int))=min k n:=by
 show(if(k:Int)<0 then((k:Int)+(n:Int)).toNat else min (k:Int).toNat n)=min k n;rw[if_neg '!',kT]
theorem FL(n d:Nat)(a:d<=n)(o:Option Int):bN n d o<=n:=by
 cases o with
 |none=>exact a
 |some v=>
  show(if v<0 then(v+(n:Int)).toNat else min v.toNat n)<=n;by_cases hv:v<0
  ·rw[if_pos hv];lia
  ·rw[if_neg hv];exact zM _ _
theorem vy(v:Int)(n d:Nat):(if v<0 then max (v+(n:Int)) 0 else min v (n:Int))=((bN n d (some v):Nat):Int):=by
 show(if v<0 then max (v+(n:Int)) 0 else min v (n:Int))=(((if v<0 then(v+(n:Int)).toNat else min v.toNat n):Nat):Int)
 by_cases hv:v<0
 ·simp only[if_pos hv];lia
 ·simp only[if_neg hv];lia
theorem PZ(lo a:Option Int)(n:Nat):Builtin.Slice.sliceAdjust lo a 1 (n:Int)=(((bN n 0 lo:Nat):Int),((bN n n a:Nat):Int)):=by
 have b:¬ ((1:Int)<0):=by lia
 unfold Builtin.Slice.sliceAdjust;simp only[b,gS];refine Prod.ext ?_ ?_
 ·cases lo with
  |none=>rfl
  |some v=>exact vy v n 0
 ·cases a with
  |none=>rfl
  |some v=>exact vy v n n
theorem Qj(i j:Nat):Builtin.Slice.slicePlaces (i:Int) (j:Int) 1=j-i:=by
 unfold Builtin.Slice.slicePlaces;have a:(1:Int) > 0:=by lia
 simp only[a,f5,Int.ediv_one];split<;>lia
theorem Oi(p:IsPart v o)(h:Q o s):wpAny (model prog w) A (Builtin.Slice.slicePartIndex v) Q E s:=by
 cases p with
 |none=>exact slicePart_none h
 |int i t=>exact slicePart_int h
theorem Pt{s:Shared}{lo c:Option Int}{n:Nat}(d:s.heap.IsSliceOf sl vl vu .none)(g:IsPart vl lo)(e:IsPart vu c)
  (h:Q (((bN n 0 lo:Nat):Int),1,bN n n c-bN n 0 lo) s):wpAny (model prog w) A (Builtin.Slice.sliceApplied (.ref sl) (pure (n:Int))) Q E s:=by
 obtain⟨os,a,f,b⟩:=id d;unfold Builtin.Slice.sliceApplied Builtin.Slice.sliceFields;refine am (am (iz a b (x:=vl) rfl (am (iz a b (x:=vu) rfl (am (iz a b (x:=.none) rfl (ba ?_)))))));refine am (slicePart_none ?_);show wpAny _ _ (if((1:Int)==0)=true then _ else _) _ _ s;rw[if_neg '"'];refine am (Oi g (am (Oi e (am (ba ?_)))));show wpAny _ _ (match Builtin.Slice.sliceAdjust lo c 1 (n:Int) with|(lo,c)=>pure (lo,(1:Int),Builtin.Slice.slicePlaces lo c 1)) _ _ s;rw[PZ lo c n];show wpAny _ _ (pure (((bN n 0 lo:Nat):Int),(1:Int),Builtin.Slice.slicePlaces ((bN n 0 lo:Nat):Int) ((bN n n c:Nat):Int) 1)) _ _ s;rw[Qj];exact ba h
theorem IX(a:Array Value)(i k:Nat):((List.range k).filterMap λ(m:Nat)=>a[((i:Int)+(m:Int)*1).toNat]?).toArray=((a.toList.drop i).take k).toArray:=by
 have e:(λ(m:Nat)=>a[((i:Int)+(m:Int)*1).toNat]?)=λm=>a[i+m]?:=by
  funext m
  have:((i:Int)+(m:Int)*1).toNat=i+m:=by lia
  rw[this]
 rw[e];have:=pick_run a i k;rw[List.filterMap_map] at this;have b:((λx=>a[x]?) ∘ λx=>i+x)=λm=>a[i+m]?:=rfl
 rw[b] at this;rw[this]
theorem RN{s:Shared}{lo:Option Int}(b:IsTup s.heap t items)(g:s.heap.IsSliceOf sl vl vu .none)(n:IsPart vl lo)(i:IsPart vu hi)
  (j:¬ (bN items.size 0 lo=0/\bN items.size items.size hi=items.size))
  (h:Q (.ref s.heap.objs.size) { s with heap:=s.heap.push { cls:=.type "tuple",data:=.seq ((items.toList.drop (bN items.size 0 lo)).take (bN items.size items.size hi-bN items.size 0 lo)).toArray } })
  (l:items.size<=sizeLine):wpAny (model prog w) A (getItem (.ref t) (.ref sl)) Q E s:=by
 have a:sizeOk (.seq ((items.toList.drop (bN items.size 0 lo)).take (bN items.size items.size hi-bN items.size 0 lo)).toArray):=by
  show((items.toList.drop (bN items.size 0 lo)).take (bN items.size items.size hi-bN items.size 0 lo)).toArray.size<=sizeLine;rw[cC,iY,gr,gL];lia
 have r:bN items.size items.size hi<=items.size:=FL _ _ (bi _) hi;obtain⟨os,c,e,k⟩:=id g;have f:s.TypeIs (.ref sl) "slice":=⟨os,c,e⟩
 unfold getItem
 try with_reducible refine nV ?_
 first|refine am (ba ?_)|skip
 refine am (wpAny_sequenceKey b.typeIs '"' ?_)
 refine am (wpAny_callSpecial?_slot (name:=Str.ofString "__getitem__") b.typeIs LM
  (lG LM b.typeIs entry_tuple_getitem ?_ (args_tuple_getitem _ _)))
 show wpAny _ _ (Builtin.Tuple.tupleItemsOf (.ref t) >>= _) _ _ s;refine am (tupleItemsOf_ b ?_);refine am (wpAny_typeOf f ?_);rw[if_pos '"'];refine am (Pt g n i ?_);have d:¬ ((((bN items.size 0 lo:Nat):Int)==0&&(1:Int)==1&&(bN items.size items.size hi-bN items.size 0 lo)==items.size)=true):=by
  intro q;rw[eh,eh] at q;have p:((bN items.size 0 lo:Nat):Int)=0:=eq_of_beq q.1.1;have o:bN items.size items.size hi-bN items.size 0 lo=items.size:=eq_of_beq q.2;exact j ⟨by lia,by lia⟩
 show wpAny _ _ (if(((bN items.size 0 lo:Nat):Int)==0&&(1:Int)==1&&(bN items.size items.size hi-bN items.size 0 lo)==items.size)=true then _ else _) _ _ s;rw[if_neg d,IX]
 first
  |exact am (m:=Builtin.Tuple.tupleExact _) (lI (ba ⟨_,rfl,ba h⟩) a)
  |exact am (m:=Builtin.Tuple.tupleExact _) (lI (am (ba (ba ⟨_,rfl,ba h⟩))) a)
  |exact am (am (m:=Builtin.Tuple.tupleExact _) (lI (ba (ba ⟨_,rfl,ba h⟩)) a))
  |exact am (am (m:=Builtin.Tuple.tupleExact _) (lI (ba ⟨_,rfl,ba h⟩) a))
end HT
namespace L2
open Spec PyProof.Rows
abbrev TO:=St->Hp->(Option Int->Hp->Prop)->Prop
def PO(X:Cx) (e:Option Expr) (t:TO):Prop:=
 ∀(b:List (Addr×Obj)) (s:Shared) (a:St) (H:Hp) (Q:Option Int->Hp->Prop),Inv X b a H s->t a H Q ->
  wpAny (model X.prog X.w) X.A (evalPart e X.env) (λu d=>∃o c,Inv X b a c d/\IsPart u o/\Q o c) X.xe s
def oy:TO:=λ_ H Q=>Q none H
def wP(t:TE):TO:=λa H Q=>t a H λx H1=>∃i,x=.int i/\Q (some i) H1
theorem yG{ns:List Int}:∀{a:List Value},aq (ns.map V.int) a->IntsAre a ns:=by
 induction ns with
 |nil=>intro a r;rw[zC] at r;cases r;exact .nil
 |cons n ns ih=>
  intro a r;rw[dr] at r;cases r with
  |cons r1 r2=>
   obtain⟨t,e⟩:=r1;subst e;exact .cons n t (ih r2)
theorem Hi:PO X none oy:=by
 intro b s a H Q I h;rw[evalPart_none];exact ba ⟨none,H,I,.none,h⟩
theorem Hj(h:PE X e te):PO X (some e) (wP te):=by
 intro g s b H Q I c;rw[evalPart_some];refine bp (h g s b H _ I c) λu k a=>?_
 obtain⟨x,H1,j,d,f⟩:=a;obtain⟨i,rfl,q⟩:=f;obtain⟨t,rfl⟩:=d;exact⟨some i,H1,j,.int i t,q⟩
def oO(X:Cx) (r:V->Option Int->Option Int->Hp->VK->Prop):Prop:=
 ∀(e:List (Addr×Obj)) (s:Shared) (a:St) (H:Hp) (x:V) (v f c:Value) (lo d:Option Int) (b:Addr) (Q:VK),Inv X e a H s->RelV x v->s.heap.IsSliceOf b f c .none->IsPart f lo->IsPart c d->r x lo d H Q ->
  ∃ T id,typeLookup (.type T) "__getitem__"=pure (some (.builtin id))/\s.TypeIs v T/\wpAny (model X.prog X.w) X.A (getItem v (.ref b)) (EP X e a Q) X.xe s
section
variable {lo:Option Expr}
theorem oO.or(h:oO X r)(l:oO X r'):oO X (λx lo a H Q=>r x lo a H Q\/r' x lo a H Q):=by
 intro i s b H x v j g lo a f Q I c d k e q;rcases q with q|q
 ·exact h i s b H x v j g lo a f Q I c d k e q
 ·exact l i s b H x v j g lo a f Q I c d k e q
end
def SM(r:V->Option Int->Option Int->Hp->VK->Prop) (d:TE) (b c:TO):TE:=λa H Q=>d a H λx H1=>b a H1 λl H2=>c a H2 λu H3=>r x l u H3 Q
theorem Nh{lo:Option Expr}(m:oO X r)(t:PE X e te)(G:PO X lo tl)(C:PO X hi th):PE X (.Subscript e (.Slice lo hi none p2) pos) (SM r te tl th):=by
 intro d s f H Q I h;refine Subscript_ (bp (t d s f H _ I h) λv o c=>?_);obtain⟨x,H1,E,z,A⟩:=c;refine wpAny_Slice (bp (G d o f H1 _ E A) λi J ⟨l,H2,R,U,y⟩=>bp (C d J f H2 _ R y) λg a c=>?_);obtain⟨u,H3,k,P,p⟩:=c;rw[evalPart_none];refine ba ?_;have S:Inv X d f H3 { a with heap:=a.heap.push { cls:=.type "slice",data:=.fields #[i,g,.none] } }:=k.kept (t':=a.toks) λb Y q=>bL _ q
 obtain⟨T,id,n,j,w⟩:=m d { a with heap:=a.heap.push { cls:=.type "slice",data:=.fields #[i,g,.none] } } f H3 x v i g l u a.heap.objs.size Q S z (Heap.IsSliceOf.new ..) U P p
 show wpAny (model X.prog X.w) X.A (subscriptTail e (.Slice lo hi none p2) v (.ref a.heap.objs.size)) (EP X d f Q) X.xe { a with heap:=a.heap.push { cls:=.type "slice",data:=.fields #[i,g,.none] } }
 exact tail_any (ops:=[.ref a.heap.objs.size,v]) j n w (by with_unfolding_all rfl)
def gA(a:List V) (lo b:Option Int):List V:=(a.drop (HT.bN a.length 0 lo)).take (HT.bN a.length a.length b-HT.bN a.length 0 lo)
theorem Op(a:List V)(lo b:Option Int):(gA a lo b).length<=a.length:=by
 unfold gA;rw[iY,gr];lia
def Mb(K:Fg):V->Option Int->Option Int->Hp->VK->Prop:=λx lo c H Q=>∃a b,x=.ref a/\bD K H a b /\
 ¬ (HT.bN b.length 0 lo=0/\HT.bN b.length b.length c=b.length)/\∀p,H p=none->Q (.ref p) (aD H p (.tup (gA b lo c)))
theorem FR:oO X (Mb X.K):=by
 intro y s t H x v A w lo e u Q I j k p l h;obtain⟨a,d,rfl,n,m,q⟩:=h;cases j;obtain⟨f,r,g,i⟩:=I.tuple n;have c:f.toArray.size=d.length:=by rw[cC];exact r.length.symm
 refine⟨"tuple",_,LM.lookup,g.typeIs,?_⟩
 refine HT.RN g k p l (by rw[c];exact m) ?_ (by rw[c];exact i);rw[c];refine⟨.ref s.heap.objs.size,_,I.laid (t':=s.toks) (o:=.tup (gA d lo e)) (λb z q=>bL _ q) (bi _) ?_,rfl,q _ (I.hok.fresh (bi _))⟩;exact⟨aT (Op d lo e) i,_,(r.drop (HT.bN d.length 0 lo)).take (HT.bN d.length d.length e-HT.bN d.length 0 lo),IsTup.new _ _⟩
def w4(K:Fg):R2:=λx y H Q=>∃a b c d,x=.ref a/\y=.ref b/\bD K H a (c.map V.int)/\bD K H b (d.map V.int)/\Q (.bl (HT.lexLt c d)) H
theorem Fo{X:Cx}(n:X.A.units<cLine):cB X (compareOp .Lt) (w4 X.K):=by
 intro t s r H x y v u Q I e m h;obtain⟨a,b,ns,ms,rfl,rfl,f,l,q⟩:=h;cases e;cases m;obtain⟨d,j,g,_⟩:=I.tuple f;obtain⟨c,p,o,_⟩:=I.tuple l;have i:IntsAre d.toArray.toList ns:=yG j;have k:IntsAre c.toArray.toList ms:=yG p;exact HT.Oc g o i k n ⟨.bl (HT.lexLt ns ms),H,I,rfl,q⟩
def xc(K:Fg):R2:=λx y H Q=>∃a b d c,x=.ref a/\y=.ref b/\bD K H a d/\bD K H b c/\d≠[]/\d.length+c.length<=sizeLine /\
 (c=[]->Q (.ref a) H)/\(c≠[]->∀p,H p=none->Q (.ref p) (aD H p (.tup (d++c))))
theorem aq.nil_iff(r:aq xs us):us=[]↔xs=[]:=by
 cases r with
 |nil=>simp
 |cons _ _=>simp
theorem G5:cB X (binaryOp .Add) (xc X.K):=by
 intro E s G H x y v u Q I k j h;obtain⟨a,b,i,g,rfl,rfl,t,m,n,f,r,p⟩:=h;cases k;cases j;obtain⟨A,d,l,_⟩:=I.tuple t;obtain⟨e,c,C,_⟩:=I.tuple m;refine HT.F4 l C (λz=>n (d.nil_iff.mp z)) (λz=>⟨.ref a,H,I,rfl,r (c.nil_iff.mp z)⟩) (λz=>?_) (by rw[←d.length,←c.length];exact f);refine⟨.ref s.heap.objs.size,_,I.laid (t':=s.toks) (o:=.tup (i++g)) (λb J q=>bL _ q) (bi _) ?_,rfl,p (λw=>z (c.nil_iff.mpr w)) _ (I.hok.fresh (bi _))⟩;exact⟨by rw[cq];exact f,_,d.append c,IsTup.new _ _⟩
noncomputable def i9(n:Nat) (i:Int):Option Nat:=if 0<=i then(if i<n then some i.toNat else none) else if -(n:Int)<=i then some (i+n).toNat else none
def atI{α:Type}(a:List α) (i:Int):Option α:=(i9 a.length i).bind λj=>a[j]?
theorem vO(h:i9 n i=some j):seqIndex? i n=some j/\j<n/\-(n:Int)<=i/\i<n:=by
 unfold i9 at h;by_cases h0:0<=i
 ·rw[if_pos h0] at h;by_cases h1:i<n
  ·rw[if_pos h1] at h;have e:i.toNat=j:=eg h;exact⟨by rw[seqIndex_of h0 h1,e],by lia,by lia,h1⟩
  ·rw[if_neg h1] at h;cases h
 ·rw[if_neg h0] at h;by_cases h1:-(n:Int)<=i
  ·rw[if_pos h1] at h;have e:(i+n).toNat=j:=eg h;exact⟨by rw[seqIndex_neg '!' h1,e],by lia,h1,by lia⟩
  ·rw[if_neg h1] at h;cases h
theorem AC{b:Type}{a:List b}{v:b}(h:atI a i=some v):∃j,seqIndex? i a.length=some j/\a[j]?=some v/\j<a.length/\-(a.length:Int)<=i/\i<a.length:=by
 unfold atI at h;cases e:i9 a.length i with
 |none=>rw[e] at h;cases h
 |some j=>
  rw[e] at h;obtain⟨d,c,f,g⟩:=vO e;exact⟨j,d,h,c,f,g⟩
theorem vt{b:Type}{a:List b}{j:Nat}{v:b}(h:a[j]?=some v):atI a (j:Int)=some v:=by
 have c:j<a.length:=(du.mp h).1;have e:i9 a.length (j:Int)=some j:=by
  unfold i9;rw[if_pos '!',if_pos '!'];simp
 unfold atI;rw[e];exact h
noncomputable def gm(b:Expr):Prop:=∀o i,subscripted b false o i=operate [o,i] (getItem o i)
def oU(X:Cx) (r:R2):Prop:=
 ∀(b a:Expr) (d:List (Addr×Obj)) (s:Shared) (c:St) (H:Hp) (x y:V) (v u:Value) (Q:VK),Inv X d c H s->RelV x v->RelV y u->r x y H Q ->
  subscripted a false v u=operate [v,u] (getItem v u)->wpAny (model X.prog X.w) X.A (subscriptTail b a v u) (EP X d c Q) X.xe s
def rS(X:Cx) (id:String) (r:V->List V->Hp->VK->Prop):Prop:=
 ∀(c:List (Addr×Obj)) (s:Shared) (a:St) (H:Hp) (x:V) (d:List V) (v:Value) (b:List Value) (Q:VK),Inv X c a H s->RelV x v->aq d b->r x d H Q ->
  wpAny (model X.prog X.w) X.A (call (.builtin id) (v::b)) (EP X c a Q) X.xe s
theorem oU.or(h:oU X r)(i:oU X r'):oU X (λx y H Q=>r x y H Q\/r' x y H Q):=by
 intro b a f s c H x y v u Q I d g q e;rcases q with q|q
 ·exact h b a f s c H x y v u Q I d g q e
 ·exact i b a f s c H x y v u Q I d g q e
theorem um(m:oU X r)(e:PE X a ta)(i:PE X b tb)(f:gm b):PE X (.Subscript a b pos) (sW r ta tb):=by
 intro j s c H Q I h;exact Subscript_ (oM e i I h λv u l x y H2 g d k q=>m a b j l c H2 x y v u Q g d k q (f _ _))
def xb(K:Fg):R2:=λx y H Q=>∃p a i v,x=.ref p/\y=.int i/\cp K H p a/\atI a i=some v/\Q v H
def w9(K:Fg):R2:=λx y H Q=>∃p a i v,x=.ref p/\y=.int i/\bD K H p a/\atI a i=some v/\Q v H
def xa:R2:=λx y H Q=>∃z i c,x=.str z/\y=.int i/\z.length<=sizeLine/\atI z.cps.toList i=some c/\Q (.str ⟨#[c]⟩) H
theorem vP:oU X (xb X.K):=by
 intro g c l s n H x y v u Q I E A h o;obtain⟨p,U,i,z,rfl,rfl,S,G,q⟩:=h;cases E;obtain⟨t,rfl⟩:=A;obtain⟨f,r,k,hz⟩:=I.list S;obtain⟨j,b,J,h3,C,T⟩:=AC G;obtain⟨w,m,d⟩:=r.get J;have R:=r.length;have Y:=eV;have a:EP X l n Q w s:=⟨z,H,I,d,q⟩
 by_cases h0:0<=i
 ·have e:i.toNat=j:=by
   rw[seqIndex_of h0 T] at b;exact eg b
  exact item_listR k.isList h0 '!' (by rw[e];simpa using m) a o
 ·have e:(i+(f.toArray.size:Int)).toNat=j:=by
   rw[seqIndex_neg '!' C] at b;rw[cC,←R];exact eg b
  exact subscriptTail_builtinR (x:=w) k.isList.typeIs slot_list_getitem.lookup
   (wpAny_getItem_list_neg (Q:=λr P=>r=w/\EP X l n Q r P) k.isList '!' (by rw[cC]<;>lia) '!' (by rw[e];simpa using m) ⟨rfl,a⟩) o
theorem E4:oU X (w9 X.K):=by
 intro d a e s f H x y v u Q I m k h o;obtain⟨p,R,i,z,rfl,rfl,J,n,q⟩:=h;cases m;obtain⟨t,rfl⟩:=k;obtain⟨P,r,g,U⟩:=I.tuple J;obtain⟨j,E,A,h3,S,Y⟩:=AC n;obtain⟨w,l,c⟩:=r.get A;have G:=r.length;have T:=eV;have b:EP X e f Q w s:=⟨z,H,I,c,q⟩
 exact subscriptTail_builtinR (x:=w) g.typeIs zT.lookup
  (getItem_tuple (j:=j) (Q:=λr C=>r=w/\EP X e f Q r C) g '!' '!' (by rw[cC,←G];exact E) (by simpa using l) ⟨rfl,b⟩) o
theorem E3:oU X xa:=by
 intro b a w s E H x y v u Q I g e h l;obtain⟨z,i,c,rfl,rfl,C,k,q⟩:=h;obtain⟨t,rfl⟩:=g;obtain⟨G,rfl⟩:=e;obtain⟨j,d,m,J,f,p⟩:=AC k;have n:z.cps.toList.length=z.length:=by simp[Str.length]
 rw[n] at d f p;have A:=eV
 exact tail_any (qN s z t) slot_str_getitem.lookup (getItem_str (c:=c) (by
  have r:decide (i < -(2^63:Int))=false:=bM '!';have o:decide (i ≥ 2^63)=false:=bM '!'
  rw[r,o,Bool.or_false]) (by rw[d];simpa using m) ⟨.str ⟨#[c]⟩,H,I.tok _,⟨_,rfl⟩,q⟩) l
def PN(K:Fg):R2:=λx y H Q=>xb K x y H Q\/w9 K x y H Q\/xa x y H Q
theorem E1:oU X (PN X.K):=vP.or (E4.or E3)
theorem Qf(a:List Value)(n j:Nat)(u:Value):Obj.mapSeq (·.setIfInBounds j u) { cls:=.type "list",data:=.seq a.toArray n }={ cls:=.type "list",data:=.seq (a.set j u).toArray n }:=by
 simp[Obj.mapSeq]
theorem Inv.lst(I:Inv X aW σ H s)(h:H p=some (.lst xs)):
  ∃(a:List Value) (n:Nat),aq xs a/\s.heap.get? p=some { cls:=.type "list",data:=.seq a.toArray n }/\xs.length<=sizeLine:=by
 obtain⟨z,a,n,r,e⟩:=I.hok p _ h;exact⟨a,n,r,e,z⟩
theorem Inv.lstUpd{c a:List Value}(I:Inv X aW σ H s)(h:H p=some (.lst xs))
  (i:s.heap.get? p=some { cls:=.type "list",data:=.seq c.toArray n })(d:f { cls:=.type "list",data:=.seq c.toArray n }={ cls:=.type "list",data:=.seq a.toArray n' })(r:aq ys a)(j:ys.length<=sizeLine)(t:Nat):
  Inv X aW σ (aD H p (.lst ys)) {s with heap:=s.heap.update p f,toks:=t}:=by
 have e:(s.heap.update p f).get? p=some { cls:=.type "list",data:=.seq a.toArray n' }:=by
  rw[wI f i (by rw[d]<;>rfl),d]
 refine I.write (x:=p) (e:=p) (by rw[h];trivial) (.inl rfl) (λb u g q=>(mX _ _ (cb g)).trans q) ⟨_,e⟩ ?_;exact⟨j,a,n',r,e⟩
def wZ:V->V->V->Hp->(Hp->Prop)->Prop:=λo i v H Q=>∃p a k j,o=.ref p/\i=.int k/\H p=some (.lst a)/\i9 a.length k=some j/\Q (aD H p (.lst (a.set j v)))
theorem Jh:xH X wZ:=by
 intro x s A H o i v S J u Q I G y C h;obtain⟨p,w,k,j,rfl,rfl,g,E,q⟩:=h;cases G;obtain⟨t,rfl⟩:=y;obtain⟨a,n,r,d,z⟩:=I.lst g;obtain⟨b,R,m,f⟩:=vO E;have e:=r.length;have P:=eV;have l:Inv X x A (aD H p (.lst (w.set j v))) {s with heap:=s.heap.update p (Obj.mapSeq (·.setIfInBounds j u))}:=
  I.lstUpd g d (Qf a n j u) (r.set C j) (by rw[mQ];exact z) s.toks
 by_cases h0:0<=k
 ·have c:k.toNat=j:=by
   rw[seqIndex_of h0 f] at b;exact eg b
  exact W.ki_setAt d h0 '!' (by rw[cC,←e];exact f) (by rw[c];exact⟨_,l,q⟩)
 ·have c:(k+(a.toArray.size:Int)).toNat=j:=by
   rw[seqIndex_neg '!' m] at b;rw[cC,←e];exact eg b
  exact W.ki_setBack d '!' (by rw[cC,←e];exact m) '!' (by rw[c];exact⟨_,l,q⟩)
theorem Q8(lo a:Option Int)(n:Nat):(sliceBounds lo a none n).1=((HT.bN n 0 lo:Nat):Int)/\(sliceBounds lo a none n).2.1=((HT.bN n n a:Nat):Int)/\(sliceBounds lo a none n).2.2=1:=by
 refine⟨?_,?_,rfl⟩
 ·cases lo with
  |none=>simp[sliceBounds,HT.bN]
  |some i=>
   simp only[sliceBounds,HT.bN,Option.getD_none,show(1:Int) > 0 by decide,f5];by_cases h:i<0
   ·simp only[h,f5]<;>lia
   ·simp only[h,gS]<;>lia
 ·cases a with
  |none=>simp[sliceBounds,HT.bN]
  |some i=>
   simp only[sliceBounds,HT.bN,Option.getD_none,show(1:Int) > 0 by decide,f5];by_cases h:i<0
   ·simp only[h,f5]<;>lia
   ·simp only[h,gS]<;>lia
theorem Rl(a:List Value)(lo b:Option Int):slicePick a.toArray lo b none=((a.drop (HT.bN a.length 0 lo)).take (HT.bN a.length a.length b-HT.bN a.length 0 lo)).toArray:=by
 obtain⟨d,c,e⟩:=Q8 lo b a.toArray.size;unfold slicePick;rw[d,c,e];simp only[sliceRange_one,pick_run,cC]<;>rfl
def Mc(K:Fg):V->Option Int->Option Int->Hp->VK->Prop:=λx lo c H Q=>∃a b,x=.ref a/\cp K H a b/\∀p,H p=none->Q (.ref p) (aD H p (.lst (gA b lo c)))
theorem Ht:oO X (Mc X.K):=by
 intro w s p H x v z u lo e t Q I g i n j h;obtain⟨a,c,rfl,l,q⟩:=h;cases g;obtain⟨k,r,f,m⟩:=I.list l;have d:=r.length;refine⟨"list",_,slot_list_getitem.lookup,f.isList.typeIs,?_⟩
 refine wpAny_getItem_list_slice f.isList i n j .none '&' ?_ (by rw[cC]<;>lia);rw[Rl,←d];refine⟨.ref s.heap.objs.size,_,I.laid (t':=s.toks) (o:=.lst (gA c lo e)) (λb y q=>bL _ q) (bi _) ?_,rfl,q _ (I.hok.fresh (bi _))⟩;exact⟨aT (Op c lo e) m,_,0,(r.drop (HT.bN c.length 0 lo)).take (HT.bN c.length c.length e-HT.bN c.length 0 lo),dD _ rfl⟩
theorem zy:bu X (.builtin "len") (λf H Q=>∃ p b,f=[.ref p]/\(cp X.K H p b\/bD X.K H p b)/\Q (.int b.length) H):=by
 intro l s j H f k Q I r h;obtain⟨p,b,rfl,hq,q⟩:=h;obtain⟨u,rfl,g⟩:=vals1 r;cases g;have m:=eV;rcases hq with hq|hq
 ·obtain⟨d,e,c,i⟩:=I.list hq;have a:=e.length;exact Calls.call_len_list c.isList (by simp only[cC]<;>lia) ⟨.int b.length,H,I.tok _,⟨s.toks+1,by rw[cC,a]⟩,q⟩
 ·obtain⟨d,e,c,i⟩:=I.tuple hq;have a:=e.length;exact len_tuple c (by simp only[cC]<;>lia) ⟨.int b.length,H,I.tok _,⟨s.toks+1,by rw[cC,a]⟩,q⟩
theorem qg:bu X (.builtin "len") (λa H Q=>∃ z,a=[.str z]/\z.length<=sizeLine/\Q (.int z.length) H):=by
 intro d s b H a c Q I r h;obtain⟨z,rfl,e,q⟩:=h;obtain⟨u,rfl,t,rfl⟩:=vals1 r;have f:=eV;exact len_str '!' ⟨.int z.length,H,I.tok _,⟨_,rfl⟩,q⟩
theorem bu.or(h:bu X f r)(g:bu X f r'):bu X f (λa H Q=>r a H Q\/r' a H Q):=by
 intro e s b H a c Q I d q;rcases q with q|q
 ·exact h e s b H a c Q I d q
 ·exact g e s b H a c Q I d q
theorem QS:bu X (.type "list") (λy H Q=>∃ p d,y=[.ref p]/\(cp X.K H p d\/bD X.K H p d)/\∀ l,H l=none->Q (.ref l) (aD H l (.lst d))):=by
 intro A s E H y G Q I r h;obtain⟨p,d,rfl,hq,q⟩:=h;obtain⟨u,rfl,C⟩:=vals1 r;cases C;have j:∀(a:List Value),aq d a->d.length<=sizeLine->∀(c:Heap) (f:Nat),(∀b z,s.heap.get? b=some z->c.get? b=some z) ->
   c.get? s.heap.objs.size=some { cls:=.type "list",dict:=none,data:=.seq a.toArray f,slots:=#[] }->EP X A E Q (.ref s.heap.objs.size) { s with heap:=c }:=λa g m c f i e=>
  ⟨.ref s.heap.objs.size,_,I.laid (t':=s.toks) i (bi _) (show aE X.prog X.w _ c _ (.lst d) from⟨m,a,f,g,e⟩),rfl,q _ (I.hok.fresh (bi _))⟩
 rcases hq with hq|hq
 ·obtain⟨a,g,x,m⟩:=I.list hq;have k:=g.length;obtain⟨o,w,t,n,v⟩:=x.isList;exact call_list_seq p (.inl rfl) w t v (λc f i e=>j a g m c f i e) (by simp only[cC]<;>lia)
 ·obtain⟨a,g,x,m⟩:=I.tuple hq;have k:=g.length;obtain⟨o,w,t,n,v⟩:=x;exact call_list_seq p (.inr rfl) w t v (λc f i e=>j a g m c f i e) (by simp only[cC]<;>lia)
theorem nC:bu X (.type "tuple") (λk H Q=>∃ p c,k=[.ref p]/\((cp X.K H p c/\∀ l,H l=none->Q (.ref l) (aD H l (.tup c)))\/(bD X.K H p c/\Q (.ref p) H))):=by
 intro m s j H k z Q I r h;obtain⟨p,c,rfl,h⟩:=h;obtain⟨u,rfl,w⟩:=vals1 r;cases w;rcases h with⟨f,q⟩|⟨f,q⟩
 ·obtain⟨a,g,i,t⟩:=I.list f;have n:=g.length;refine call_tuple_list i.isList (λd x=>?_) (by simp only[cC]<;>lia);have v:Inv X m j H {s with heap:=d}:=I.kept (t':=s.toks) x;have y:Inv X m j (aD H d.objs.size (.tup c)) { s with heap:=d.push { cls:=.type "tuple",data:=.seq a.toArray } }:=
   v.laid (t':=s.toks) (λb o e=>bL _ e) (bi _) (show aE X.prog X.w _ _ _ (.tup c) from⟨t,a,g,IsTup.new _ _⟩)
  exact⟨.ref d.objs.size,_,y,rfl,q _ (v.hok.fresh (bi _))⟩
 ·obtain⟨a,g,i,t⟩:=I.tuple f;exact call_tuple_same i ⟨.ref p,H,I,rfl,q⟩
def LO(K:Fg) (T:String) (x:V) (H:Hp):Prop:=match x with
 |.str _=>T="str"
 |.int _=>T="int"
 |.ref p=>(T="list"/\∃ b,cp K H p b)\/(T="tuple"/\∃ o,K.lookup p=some o/\o.cls=.type "tuple"/\o.dict=none) \/
  (T="dict"/\((∃ a,H p=some (.dK a))\/∃ a,H p=some (.dT a)))\/(T="set"/\∃ S n,H p=some (.set S n))
 |_=>False
theorem vj{T:String}(I:Inv X aW σ H s)(r:RelV x v)(f:LO X.K T x H):
  s.TypeIs v T/\∀a,v=.ref a->∃l,s.heap.get? a=some l/\l.dict=none:=by
 cases x with
 |str z=>
  obtain⟨t,rfl⟩:=r;cases(show T="str" from f)
  exact⟨qN s z t,λ_ e=>nomatch e⟩
 |int i=>
  obtain⟨t,rfl⟩:=r;cases(show T="int" from f)
  exact⟨typeIs_int s i t,λ_ e=>nomatch e⟩
 |ref p=>
  cases r;rcases f with⟨rfl,w,m⟩|⟨rfl,o,b,q,g⟩|⟨rfl,b⟩|⟨rfl,S,n,b⟩
  ·obtain⟨u,_,k,_⟩:=I.list m;refine⟨k.isList.typeIs,λa e=>?_⟩;cases e;obtain⟨o,n,e,c,g,_⟩:=k;exact⟨o,e,g⟩
  ·refine⟨⟨o,I.kIn p o b,q⟩,λa e=>?_⟩;cases e;exact⟨o,I.kIn _ o b,g⟩
  ·have z:∃o,s.heap.get? p=some o/\o.ExactDict:=by
    rcases b with⟨j,b⟩|⟨j,b⟩
    ·obtain⟨_,_,_,_,o,_,_,e,d,_⟩:=I.hok p _ b;exact⟨o,e,d⟩
    ·obtain⟨_,_,_,_,o,_,_,e,d,_⟩:=I.hok p _ b;exact⟨o,e,d⟩
   obtain⟨o,e,d⟩:=z;refine⟨⟨o,e,d.1⟩,λa h=>?_⟩;cases h;exact⟨o,e,d.2.1⟩
  ·obtain⟨o,_,_,_,e,d,_⟩:=I.hok p _ b;refine⟨⟨o,e,d.1⟩,λa h=>?_⟩;cases h;exact⟨o,e,d.2.1⟩
 |_=>exact False.elim f
def L7(K:Fg) (T:String) (r:V->List V->Hp->VK->Prop) (to:TE):TE:=λa H Q=>to a H λx H1=>LO K T x H1/\r x [] H1 Q
def SR(K:Fg) (T:String) (r:V->List V->Hp->VK->Prop) (to:TE) (t:TA):TE:=λa H Q=>to a H λx H1=>LO K T x H1/\t a H1 λb H2=>r x b H2 Q
theorem Fq{b:Pos}{a:Pos}{T:String}{id:String}(p:PlainAttrs T)(e:Slot T name id)(g:typeOf (.builtin id)=pure (.type "method_descriptor"))(t:rS X id r)(q:PE X o to)
  (c:attributeBase o name X.env (eval o X.env)=eval o X.env:=by rfl)(d:(b.endLine==a.line)=true:=by rfl):PE X (.Call (.Attribute o name b) [] [] a) (L7 X.K T r to):=by
 intro i s j H Q I h;refine wpAny_Call_method0_late c d (bp (q i s j H _ I h) λv n f=>?_);obtain⟨x,H1,l,k,m,w⟩:=f;obtain⟨y,u⟩:=vj l k m;exact⟨T,id,p,e,g,y,u,Lz rfl (PySem.evalArgs_none (t i n j H1 x [] v [] Q l k .nil w))⟩
theorem ls{c:Pos}{T:String}{id:String}(z:PlainAttrs T)(g:Slot T name id)(n:typeOf (.builtin id)=pure (.type "method_descriptor"))(C:rS X id r)(A:PE X o to)(Y:PA X (e::es) t)
  (d:attributeBase o name X.env (eval o X.env)=eval o X.env:=by rfl)
  (i:((backTo cpos (starEach (e::es) X.env)).all (λx=>!x.1)&&(backToKw cpos (keywordEach [] X.env)).all (λx=>x.1.isSome)
   && decide ((e::es).length+([]:List Keyword).length+(if([]:List Keyword).isEmpty then 0 else 1)<30))=true:=by rfl)
  (f:(c.endLine==cpos.line)=true:=by rfl)(E:starEach (e::es) X.env=(false,eval e X.env)::starEach es X.env:=by rfl)(b:(backTo cpos (starEach es X.env)).any (·.1)=false:=by rfl):
  PE X (.Call (.Attribute o name c) (e::es) [] cpos) (SR X.K T r to t):=by
 intro j s l H Q I h;refine wpAny_Call_method_late d i f rfl (bp (A j s l H _ I h) λv y k=>?_);obtain⟨x,H1,u,q,w,P⟩:=k;obtain⟨R,G⟩:=vj u q w;refine⟨T,id,z,g,n,R,G,?_⟩;have p:=Y cpos j y l H1 _ u P;rw[E] at p ⊢;refine Lz (by show(false||(backTo cpos (starEach es X.env)).any (·.1))=false;rw[b]<;>rfl) (Lr ?_);exact bp p λU S ⟨vs,H2,I2,r2,J⟩=>C j S l H2 x vs v U Q I2 q r2 J
def PV(X:Cx) (id:String) (r:V->List V->Hp->VK->Prop):Prop:=
 ∀(c:List (Addr×Obj)) (s:Shared) (a:St) (H:Hp) (x:V) (d:List V) (v:Value) (b:List Value) (Q:VK),Inv X c a H s->RelV x v->aq d b->r x d H Q ->
  wpAny (model X.prog X.w) X.A (call (.builtin id) (v::b)) (EP X c a Q) X.xe s
theorem aq.one:∀{x:V}{a:List Value},aq [x] a->∃u,a=[u]/\RelV x u
 |_,_,.cons r .nil=>⟨_,rfl,r⟩
theorem aq.zero:∀{a:List Value},aq [] a->a=[]
 |_,.nil=>rfl
theorem aq.dropLast(h:aq xs us):aq xs.dropLast us.dropLast:=by
 induction h with
 |nil=>exact .nil
 |cons r t ih=>
  cases t with
  |nil=>exact .nil
  |cons q t'=>exact .cons r ih
theorem P7{c:Type}(l:List c):l.eraseIdx (l.length-1)=l.dropLast:=by
 induction l with
 |nil=>rfl
 |cons a r ih=>
  cases r with
  |nil=>rfl
  |cons b r=>
   have e:(a::b::r).length-1=((b::r).length-1)+1:=by
    have f:(a::b::r).length=r.length+2:=rfl;have d:(b::r).length=r.length+1:=rfl;lia
   rw[e,List.eraseIdx_cons_succ,ih]
   all_goals rfl
theorem Inv.lset{a its':List Value}(I:Inv X aW σ H s)(h:H l=some (.lst xs))
  (e:s.heap.get? l=some { cls:=.type "list",data:=.seq a.toArray n })(c:f a.toArray=its'.toArray)(b:aq ys its')(i:ys.length<=sizeLine):
  Inv X aW σ (aD H l (.lst ys)) {s with heap:=s.heap.update l (Obj.mapSeq f),toks:=t'}:=by
 have q:=PySem.IsL.update e f;rw[c] at q;refine I.write (x:=l) (e:=l) (by rw[h];exact trivial) (.inl rfl) (λj u d g=>(mX s.heap (Obj.mapSeq f) (cb d)).trans g) ⟨_,q⟩ ?_;exact⟨i,its',_,b,q⟩
theorem Inv.lnew(I:Inv X aW σ H s)(b:aq ys its)(a:ys.length<=sizeLine):
  Inv X aW σ (aD H s.heap.objs.size (.lst ys)) { s with heap:=s.heap.push { cls:=.type "list",data:=.seq its.toArray },toks:=t' }:=
 I.laid (λ_ _ q=>bL _ q) (bi _) ⟨a,its,0,b,dD _ rfl⟩
theorem Inv.fresh(I:Inv X aW σ H s):H s.heap.objs.size=none:=I.hok.fresh (bi _)
theorem Inv.lstM(I:Inv X aW σ H s)(b:H l=some (.lst xs)):xs.length<=sizeLine/\∃(a:List Value) (n:Nat),aq xs a/\xs.length=a.length/\s.heap.get? l=some { cls:=.type "list",data:=.seq a.toArray n }:=by
 obtain⟨z,a,n,r,e⟩:=I.hok l _ b;exact⟨z,a,n,r,r.length,e⟩
def oB:V->List V->Hp->VK->Prop:=λx b H Q=>∃l a y,x=.ref l/\b=[y]/\H l=some (.lst a)/\a.length<sizeLine/\Q .non (aD H l (.lst (a++[y])))
theorem NK:PV X "list.append" oB:=by
 intro m s g H x j v i Q I c f h;obtain⟨l,k,y,rfl,rfl,b,o,q⟩:=h;cases c;obtain⟨u,rfl,d⟩:=f.one;obtain⟨z,a,n,r,p,e⟩:=I.lstM b;refine mO F.slot_list_append ⟨_,e,rfl⟩ F.entry_list_append (F.args_list_append_2 _ _) (PySem.list_append l a.toArray n u (by rw[cC];lia)) ⟨e,?_⟩;refine⟨.non,_,I.lset (its':=a++[u]) b e '&' (r.append (.cons d .nil)) ?_,rfl,q⟩;rw[cq,Lx];lia
def Me:V->List V->Hp->VK->Prop:=λx b H Q=>∃l a y,x=.ref l/\b=[]/\H l=some (.lst a)/\a[a.length-1]?=some y/\Q y (aD H l (.lst a.dropLast))
theorem Fe:PV X "list.pop" Me:=by
 intro A s o H x t v p Q I f j h;obtain⟨l,w,y,rfl,rfl,d,k,q⟩:=h;cases f;have c:=j.zero;subst c;obtain⟨z,a,n,r,m,e⟩:=I.lstM d;obtain⟨u,i,g⟩:=r.get k;have b:a.toArray[a.toArray.size-1]?=some u:=by
  show a.toArray[a.length-1]?=some u;rw[←gj,←m];exact i
 refine mO F.slot_list_pop ⟨_,e,rfl⟩ F.entry_list_pop (F.args_list_pop_1 _) (MeetsSeq.list_pop_last l a.toArray n u b (by rw[cC];lia)) ⟨e,?_⟩;refine⟨y,_,I.lset (its':=a.dropLast) d e ?_ r.dropLast ?_,g,q⟩
 ·show a.toArray.eraseIdxIfInBounds (a.toArray.size-1)=a.dropLast.toArray;rw[cC,List.eraseIdxIfInBounds_toArray,P7]
 ·rw[List.length_dropLast];lia
def xf:R2:=λx y H Q=>∃l b a c,x=.ref l/\y=.ref b/\H l=some (.lst a)/\H b=some (.lst c)/\a.length+c.length<=sizeLine/\∀p,H p=none->Q (.ref p) (aD H p (.lst (a++c)))
theorem Fm:cB X (binaryOp .Add) xf:=by
 intro A s p H x y v u Q I f k h;obtain⟨l,b,t,C,rfl,rfl,m,g,G,q⟩:=h;cases f;cases k;obtain⟨z,c,n,r,J,e⟩:=I.lstM m;obtain⟨w,a,E,o,j,i⟩:=I.lstM g;refine PySem.P.add_list e i ?_ (by rw[cC,cC];lia);have d:c.toArray++a.toArray=(c++a).toArray:=by simp
 rw[d];exact⟨.ref _,_,I.lnew (t':=s.toks) (r.append o) (by rw[cq];lia),rfl,q _ I.fresh⟩
section
variable {κ:Type}[DecidableEq κ]
noncomputable def eQ(a:List (κ×V)) (k:κ):Option V:=(a.find? λb=>decide (b.1=k)).map (·.2)
noncomputable def fq(a:List (κ×V)) (k:κ) (v:V):List (κ×V):=
 if(a.any λb=>decide (b.1=k))=true then a.map (λb=>if b.1=k then(b.1,v) else b) else a++[(k,v)]
theorem yw{p:κ×V}{r:List (κ×V)}{k:κ}(e:p.1=k):eQ (p::r) k=some p.2:=by simp[eQ,og,e]
theorem yv{p:κ×V}{r:List (κ×V)}{k:κ}(e:¬ p.1=k):eQ (p::r) k=eQ r k:=by simp[eQ,og,e]
theorem Nu(k:κ):∀a:List (κ×V),(a.any λb=>decide (b.1=k))=(eQ a k).isSome
 |[]=>rfl
 |p::r=>by
  rw[wp];by_cases e:p.1=k
  ·simp only[yw e,bH e,Bool.true_or,Option.isSome_some]
  ·rw[yv e,bM e,Bool.false_or];exact Nu k r
theorem Ov(a:List (κ×V))(k:κ)(v:V):(fq a k v).length<=a.length+1:=by
 unfold fq;split
 ·rw[ax];lia
 ·rw[cq,d5,wx];lia
theorem fR.isSome_eq(r:fR o u):o.isSome=u.isSome:=by
 cases o with
 |none=>cases u with
  |none=>rfl
  |some _=>exact(show False from r).elim
 |some _=>cases u with
  |none=>exact(show False from r).elim
  |some _=>rfl
theorem fR.getD(r:fR o u)(a:RelV d d'):RelV (o.getD d) (u.getD d'):=by
 cases o with
 |none=>cases u with
  |none=>exact a
  |some _=>exact(show False from r).elim
 |some _=>cases u with
  |none=>exact(show False from r).elim
  |some _=>exact r
theorem KV.val(r:KV kvs vs)(k:κ):fR (eQ kvs k) (valueAt vs k):=by
 unfold KV at r
 induction r with
 |nil=>exact True.intro
 |@cons p q ps qs h t ih=>
  obtain⟨c,d⟩:=h;by_cases e:p.1=k
  ·have a:q.1=k:=c.symm.trans e;have b:valueAt (q::qs) k=some q.2:=by simp[valueAt,og,a]
   rw[yw e,b];exact d
  ·have a:¬ q.1=k:=λz=>e (c.trans z)
   have b:valueAt (q::qs) k=valueAt qs k:=by simp[valueAt,og,a]
   rw[yv e,b];exact ih
theorem KV.any(r:KV kvs vs)(k:κ):(kvs.any λa=>decide (a.1=k))=vs.any λa=>decide (a.1=k):=by
 unfold KV at r
 induction r with
 |nil=>rfl
 |cons h t ih=>rw[wp,wp,ih,h.1]
theorem KV.repl(r:KV kvs vs)(k:κ) (d:RelV y u):
  KV (kvs.map λa=>if a.1=k then(a.1,y) else a) (vs.map λa=>if a.1=k then(a.1,u) else a):=by
 unfold KV at r ⊢
 induction r with
 |nil=>exact .nil
 |@cons p q ps qs h t ih=>
  rw[dr,dr];refine .cons ?_ ih;obtain⟨b,c⟩:=h;by_cases e:p.1=k
  ·rw[if_pos e,if_pos (b.symm.trans e)];exact⟨b,d⟩
  ·rw[if_neg e,if_neg (λz=>e (b.trans z))];exact⟨b,c⟩
theorem KV.put(r:KV kvs vs)(k:κ) (a:RelV y u):KV (fq kvs k y) (stored vs k u):=by
 unfold fq stored;rw[r.any k];by_cases e:(vs.any λb=>decide (b.1=k))=true
 ·rw[if_pos e,if_pos e];exact r.repl k a
 ·rw[if_neg e,if_neg e];exact Paired.snoc r ⟨rfl,a⟩
theorem KV.length(r:KV kvs vs):kvs.length=vs.length:=wq r
end
theorem nH(r:RelV (kV k) u):(br P w).is k u=true:=by
 cases k with
 |inl i=>obtain⟨t,e⟩:=(show ∃t,u=Value.int i t from r);subst e;exact Qy P w i t
 |inr x=>obtain⟨t,e⟩:=(show ∃t,u=Value.str x t from r);subst e;exact Qz P w x t
theorem NH:∀{a:List cN}{b:List Value},aq (a.map kV) b->ItemsAre (br P w) a b
 |[],_,r=>by rw[zC] at r;cases r;exact .nil
 |k::a,_,r=>by
  rw[dr] at r;cases r with
  |cons h t=>exact .cons (nH h) (NH t)
abbrev KT(H:Hp):List (List cN×V)->List (List cN×Addr×Value)->Prop:=Paired λp q=>p.1=q.1/\H q.2.1=some (.tup (p.1.map kV))/\RelV p.2 q.2.2
theorem KT.val(r:KT H kvs xs)(k:List cN):fR (eQ kvs k) ((atKey xs k).map (·.2)):=by
 induction r with
 |nil=>exact True.intro
 |@cons p q ps qs h t ih=>
  obtain⟨c,_,d⟩:=h;by_cases e:p.1=k
  ·have a:q.1=k:=c.symm.trans e;have b:atKey (q::qs) k=some q.2:=by simp[atKey,og,a]
   rw[yw e,b];exact d
  ·have a:¬ q.1=k:=λz=>e (c.trans z)
   have b:atKey (q::qs) k=atKey qs k:=by simp[atKey,og,a]
   rw[yv e,b];exact ih
theorem KT.repl(r:KT H kvs xs)(k:List cN) (d:RelV y u):
  KT H (kvs.map λb=>if b.1=k then(b.1,y) else b) (xs.map (putAt k u)):=by
 induction r with
 |nil=>exact .nil
 |@cons p q ps qs h t ih=>
  rw[dr,dr];refine .cons ?_ ih;obtain⟨a,c,f⟩:=h;unfold putAt;by_cases e:p.1=k
  ·rw[if_pos e,if_pos (a.symm.trans e)];exact⟨a,c,d⟩
  ·rw[if_neg e,if_neg (λz=>e (a.trans z))];exact⟨a,c,f⟩
theorem KT.put(r:KT H kvs xs)(k:List cN) (c:H b=some (.tup (k.map kV)))(a:RelV y u):
  KT H (fq kvs k y) (storedH xs k b u):=by
 have e:(kvs.any λd=>decide (d.1=k))=(atKey xs k).isSome:=by
  rw[Nu,(r.val k).isSome_eq,Option.isSome_map]
 unfold fq storedH;rw[e];by_cases q:(atKey xs k).isSome=true
 ·rw[if_pos q,if_pos q];exact r.repl k a
 ·rw[if_neg q,if_neg q];exact Paired.snoc r ⟨rfl,c,a⟩
theorem KT.keeps(r:KT H kvs xs)(c:∀b a,H b=some (.tup a)->H' b=some (.tup a)):KT H' kvs xs:=
 Paired.mapP r λ_ _ z=>⟨z.1,c _ _ z.2.1,z.2.2⟩
theorem ut(b:ff P w H h)(e:Rd H a u):aE P w H h a u:=e.ok b
theorem li(b:ff P w H h)(e:Rd H a (.dK kvs)):kvs.length<=sizeLine/\(a==sysModules)=false/\∃vs,KV kvs vs/\h.DictOf (br P w) a vs:=
 show aE P w H h a (.dK kvs) from ut b e
theorem Dx(b:ff P w H h)(e:H a=some (.dK kvs)):kvs.length<=sizeLine/\(a==sysModules)=false/\∃vs,KV kvs vs/\h.DictOf (br P w) a vs:=li b (.inl e)
theorem nM{b:List cN}(f:ff P w H h)(e:H a=some (.tup (b.map kV))):(tupleKind (br P w)).is h b a:=by
 obtain⟨_,c,r,o,g,d,n,i⟩:=(show aE P w H h a (.tup (b.map kV)) from f a _ e)
 exact⟨o,c.toArray,n,g,d,i,by simpa using NH r⟩
theorem lj(b:ff P w H h)(e:Rd H a (.dT kvs)):kvs.length<=sizeLine/\(a==sysModules)=false /\
  ∃xs,KT H kvs xs/\h.DictOfH (tupleKind (br P w)) a xs:=by
 obtain⟨z,y,xs,r,o,c,d,i,f,j,k,g⟩:=(show aE P w H h a (.dT kvs) from ut b e)
 refine⟨z,y,xs,r,o,c,d,i,f,j,k,λx hx=>?_,g⟩;have all:∀{l:List (List cN×V)}{m:List (List cN×Addr×Value)},KT H l m->∀x∈m,(tupleKind (br P w)).is h x.1 x.2.1:=by
  intro l m q
  induction q with
  |nil=>intro x hx;exact nomatch hx
  |@cons p q ps qs hq t ih=>
   intro x hx;rcases ce.mp hx with e|hx
   ·subst e;exact nM b (by rw[←hq.1];exact hq.2.1)
   ·exact ih x hx
 exact all r x hx
theorem Dz(b:ff P w H h)(e:H a=some (.dT kvs)):kvs.length<=sizeLine/\(a==sysModules)=false /\
 ∃xs,KT H kvs xs/\h.DictOfH (tupleKind (br P w)) a xs:=lj b (.inl e)
def kK(H:Hp) (a:Addr) (y:V) (r:Option V):Prop:=
 (∃c k,Rd H a (.dK c)/\y=kV k/\r=eQ c k)\/∃c k b,Rd H a (.dT c)/\y=.ref b/\H b=some (.tup (k.map kV))/\r=eQ c k
def my(H:Hp) (a:Addr) (y v:V) (d:Hp):Prop:=
 (∃c k,H a=some (.dK c)/\y=kV k/\c.length<sizeLine/\d=aD H a (.dK (fq c k v))) \/
 ∃c k b,H a=some (.dT c)/\y=.ref b/\H b=some (.tup (k.map kV))/\c.length<sizeLine/\d=aD H a (.dT (fq c k v))
theorem my.t{k:List cN}(e:H a=some (.dT kvs))(d:H b=some (.tup (k.map kV)))(c:kvs.length<sizeLine):
 my H a (.ref b) v (aD H a (.dT (fq kvs k v))):=.inr ⟨kvs,k,b,e,rfl,d,c,rfl⟩
theorem Inv.big(I:Inv X aW σ H s):sysModules<s.heap.objs.size:=by
 have h:mainGlobals<s.heap.objs.size:=(I.mod.glob.keeps I.bk).lt;exact qQ '"' h
theorem JN{A:Around}(P:A.units+1<cLine)(I:Inv X aW σ H s)(g:kK H a y (some v))(t:RelV y u)(h:∀f r,Inv X aW σ H r->RelV v f->Q f r):
  wpAny (model X.prog X.w) A (getItem (.ref a) u) Q E s:=by
 rcases g with⟨q,k,e,m,l⟩|⟨q,k,b,e,m,J,l⟩
 ·subst m;obtain⟨z,w,x,d,n⟩:=li I.hok e;obtain⟨f,i,c⟩:=fR.some_of (v:=v) (o:=valueAt x k) (by rw[l];exact d.val k);exact wpAny_getItem_of (nH t) n.mapOf i (h f _ (I.tok _) c)
 ·subst m;cases(show u=Value.ref b from t);obtain⟨z,w,C,d,n⟩:=lj I.hok e;obtain⟨f,i,c⟩:=fR.some_of (v:=v) (o:=(atKey C k).map (·.2)) (by rw[l];exact d.val k);obtain⟨p,G,j⟩:=fH.mp i;refine wpAny_getItem_heap (Lf P) (nM I.hok J) n G ?_;rw[j];exact h f _ (I.tok _) c
theorem vA(I:Inv X aW σ H s)(d:xK (H a))(f:Heap.SameBut a s.heap h')(h:∃q,h'.get? a=some q)(c:aE X.prog X.w (aD H a ob) h' a ob):
  Inv X aW σ (aD H a ob) {s with heap:=h',toks:=t'}:=
 I.write (x:=a) (e:=a) d (.inl rfl) (λb q g z=>(f.2 b g).trans z) h c
theorem Ey{d:Heap}{b:List (cN×V)}(z:b.length<=sizeLine)(e:(a==sysModules)=false)(c:KV b vs)(f:d.DictOf (br P w) a vs):
 aE P w H' d a (.dK b):=⟨z,e,vs,c,f⟩
theorem JP{A:Around}(hu:A.units+1<cLine)(I:Inv X aW σ H s)(g:my H a y v H')(C:RelV y u)(J:RelV v r)(h:∀P,Inv X aW σ H' P->Q () P):
  wpAny (model X.prog X.w) A (setItem (.ref a) u r) Q E s:=by
 rcases g with⟨d,k,e,t,l,x⟩|⟨d,k,b,e,t,R,l,x⟩
 ·subst t x;obtain⟨z,m,vs,f,w⟩:=Dx I.hok e;have n:vs.length<=sizeLine:=by rw[←f.length];exact z
  have p:(fq d k v).length<=sizeLine:=by have:=Ov d k v;lia
  refine wpAny_setItem_pairs (hsz:=n) (nH C) w λG i o=>h _ ?_
  have he:∃q,G.get? a=some q:=let ⟨q,_,_,j,_⟩:=i;⟨q,j⟩
  exact vA I (by rw[e];exact True.intro) o he (Ey p m (f.put k J) i)
 ·subst t x;cases(show u=Value.ref b from C);obtain⟨z,m,U,f,w⟩:=Dz I.hok e;have n:U.length<=sizeLine:=by rw[←wq f];exact z
  have p:(fq d k v).length<=sizeLine:=by have:=Ov d k v;lia
  refine wpAny_setItem_heap (hsz:=n) (Lf hu) (nM I.hok R) w λG i o=>h _ ?_
  obtain⟨q,es,T,j,h2,h3,Y,_,h5⟩:=i;refine vA I (by rw[e];exact True.intro) o ⟨q,j⟩ ⟨p,m,_,(f.put k R J).keeps λc ys S=>?_,q,es,T,j,h2,h3,Y,h5⟩;rw[ca (DN S e (λz=>nomatch z))];exact S
noncomputable def oR(i:Expr):Prop:=∀b a,subscripted i false b a=operate [b,a] (getItem b a)
theorem Hw{T id:String}
  (j:typeLookup (.type T) "__getitem__"=pure (some (.builtin id)))(k:oR slice)
  (h:wpAny (model prog w) A (eval value env) (λo b=>wpAny (model prog w) A (eval slice env) (λi s₂=>s₂.TypeIs o T/\wpAny (model prog w) A (getItem o i) Q E s₂) E b) E s):
  wpAny (model prog w) A (eval (.Subscript value slice pos) env) Q E s:=by
 refine Subscript_ (hX h (λo b e=>hX e (λi s₂ a=>?_) λ_ _ x=>x) λ_ _ x=>x);obtain⟨g,a⟩:=a;unfold subscriptTail;refine am ?_;rw[getitemInPython_of_ne g.not_modules];refine am (wpAny_specialOf g j ?_);have d:wpAny (model prog w) A (subscripted slice false o i) (λr c=>wpAny (model prog w) A (letTemporaryGo value o r >>= λ_=>pure r) Q E c) E s₂:=by
  rw[k o i];exact wpAny_operating (hX a (λr c f=>am (wpAny_letTemporaryGo (ba f))) λ_ _ x=>x)
 first
  |exact ba (am d)
  |exact am (ba (am d))
  |exact am d
theorem Qv(I:Inv X aW σ H s)(g:kK H a y o):s.TypeIs (.ref a) "dict":=by
 rcases g with⟨d,k,e,_,_⟩|⟨d,k,b,e,_,_,_⟩
 ·obtain⟨_,_,h,_,c⟩:=li I.hok e;exact c.typeIs
 ·obtain⟨_,_,f,_,c⟩:=lj I.hok e;exact c.typeIs
def wT(c d:TE):TE:=λb H Q=>c b H λx H1=>d b H1 λy H2=>∃a v,x=.ref a/\kK H2 a y (some v)/\Q v H2
def gu(d f e:TE):TS:=λD b H=>e b H λv H1=>d b H1 λx H2=>f b H2 λy H3=>∃a c,x=.ref a/\my H3 a y v c/\D.nx b c
theorem Ha{X:Cx}(z:X.A.units+1<cLine)(q:PE X o td)(p:PE X i ty)(r:oR i):PE X (.Subscript o i pos) (wT td ty):=by
 intro d s e H Q I h;refine Hw F.slot_dict_getitem.lookup r (bp (q d s e H _ I h) λu m ⟨x,H1,A,l,w⟩=>bp (p d m e H1 _ A w) λE J b=>?_);obtain⟨y,H2,f,j,a,v,n,g,t⟩:=b;subst n;obtain rfl:u=Value.ref a:=l;exact⟨Qv f g,JN z f g j λC G k c=>⟨v,H2,k,c,t⟩⟩
theorem Hk{X:Cx}{b:Pos}(E:X.A.units+1<cLine)(t:PE X o td)(q:PE X i ty)(f:PE X value tv)(w:swapsWith value (some (.Subscript o i pos')) b.line X.env=pure false):
  PS X (.Assign [.Subscript o i pos'] value b) (gu td ty tv):=by
 intro d s c H D I h;refine wpAny_Assign_Subscript (bp (f d s c H _ I h) λr m ⟨v,H1,G,R,A⟩=>bp (t d m c H1 _ G A) λu J ⟨x,H2,P,l,z⟩=>bp (q d J c H2 _ P z) λS U e=>?_) w;obtain⟨y,H3,k,j,a,C,p,g,n⟩:=e;subst p;obtain rfl:u=Value.ref a:=l;exact JP E k g j R λT Q=>⟨c,C,Q,n⟩
theorem Ip(h:Heap)(a:sysModules<h.objs.size):aE P w H (h.push { cls:=.type "dict",data:=.dict #[] }) h.objs.size (.dT []):=
 ⟨eJ _,sQ.mpr (cb (ef a)),[],.nil,_,#[],0,dD _ rfl,⟨rfl,rfl,rfl⟩,rfl,rfl,wv⟩
def rg:TE:=λ_ H Q=>∀p,H p=none->Q (.ref p) (aD H p (.dT []))
theorem IT:PE X (.Dict [] [] pos) rg:=λc s b H Q I h=>
 wpAny_Dict_empty ⟨.ref s.heap.objs.size,_,I.laid (a:=s.heap.objs.size) (o:=.dT []) (t':=s.toks) (λ_ _ q=>bL _ q) (bi _) (Ip s.heap I.big),rfl,h _ (I.hok.fresh (bi _))⟩
structure M2 (X:Cx) (o:Expr) (m:Str) (apos:Pos) (e f:Expr) (cpos:Pos):Prop where
 base:attributeBase o m X.env (eval o X.env)=eval o X.env
 few:((backTo cpos (starEach [e,f] X.env)).all (λx=>!x.1)&&(backToKw cpos (keywordEach [] X.env)).all (λx=>x.1.isSome)
  && decide (([e,f]:List Expr).length+([]:List Keyword).length+(if([]:List Keyword).isEmpty then 0 else 1)<30))=true
 line:(apos.endLine==cpos.line)=true
 trees:backTo cpos (starEach [e,f] X.env)=[(false,eval e X.env),(false,eval f X.env)]
def MQ(H:Hp) (a:Addr):Prop:=(∃b,Rd H a (.dK b))\/∃b,Rd H a (.dT b)
theorem EX(I:Inv X aW σ H s)(d:MQ H a):
  s.TypeIs (.ref a) "dict"/\(∀ b,Value.ref a=.ref b->∃ c,s.heap.get? b=some c/\c.dict=none)/\(a==sysModules)=false:=by
 rcases d with⟨j,e⟩|⟨j,e⟩
 ·obtain⟨_,g,k,_,f⟩:=li I.hok e;refine⟨f.typeIs,λb q=>?_,g⟩;cases q;obtain⟨c,_,_,i,h,_⟩:=f;exact⟨c,i,h.2.1⟩
 ·obtain⟨_,g,l,_,f⟩:=lj I.hok e;refine⟨f.typeIs,λb q=>?_,g⟩;cases q;obtain⟨c,_,_,i,h,_⟩:=f;exact⟨c,i,h.2.1⟩
theorem Eo{A:Around}(x:A.units+1<cLine)(I:Inv X aW σ H s)(g:kK H a y o)(t:RelV y u)(n:RelV d r)(h:∀q p,Inv X aW σ H p->RelV (o.getD d) q->Q q p):
  wpAny (model X.prog X.w) A (call (.builtin "dict.get") [.ref a,u,r]) Q E s:=by
 rcases g with⟨m,k,e,j,l⟩|⟨m,k,b,e,j,w,l⟩
 ·subst j;obtain⟨z,i,C,c,f⟩:=li I.hok e;refine call_meetsIn Lw f.typeIs F.entry_dict_get (F.args_dict_get_3 _ _ _) (meets_dict_get_default (br X.prog X.w) a (nH t) i r) ⟨_,f.mapOf,h _ _ (I.tok _) ?_⟩;rw[l];exact(c.val k).getD n
 ·subst j;cases(show u=Value.ref b from t);obtain⟨z,i,v,c,f⟩:=lj I.hok e;refine call_meetsIn Lw f.typeIs F.entry_dict_get (F.args_dict_get_3 _ _ _) (meetsH_dict_get_default (tupleKind (br X.prog X.w)) a b i r) ⟨Lf x,k,v,nM I.hok w,f,h _ _ (I.tok _) ?_⟩;rw[l];exact(c.val k).getD n
def rh(c d tx:TE):TE:=λb H Q=>c b H λx H1=>∃a,x=.ref a/\MQ H1 a/\d b H1 λy H2=>tx b H2 λz H3=>∃o,kK H3 a y o/\Q (o.getD z) H3
theorem IS{X:Cx}(P:X.A.units + 1<cLine)(A:PE X o td)(w:PE X e ty)(G:PE X f tx)(m:M2 X o "get" apos e f cpos):PE X (.Call (.Attribute o "get" apos) [e,f] [] cpos) (rh td ty tx):=by
 intro b s i H Q I h;refine wpAny_Call_method m.base m.few m.line F.plainAttrs_dict Lw F.type_dict_get (bp (A b s i H _ I h) λu r c=>?_);obtain⟨x,H1,k,q,a,v,d,J⟩:=c;subst v;obtain rfl:u=Value.ref a:=q;obtain⟨p,S,_⟩:=EX k d;refine⟨p,S,?_⟩;rw[m.trees]
 refine Lz rfl (Lr (Lp (bp (w b r i H1 _ k J) λiv R ⟨y,H2,T,l,E⟩=>
  Lp (bp (G b R i H2 _ T E) λY s3 ⟨z,H3,n,C,ov,g,t⟩=>Calls.spliced_nil ?_))))
 exact Eo P n g l C λw' s4 U j=>⟨_,H3,U,j,t⟩
end L2
namespace Att
open PySem.W Calls PyProof.Rows
theorem Rw:∀(ns:List Int) (c:List Value),WellAll P h c (ns.map WData.int)->IntsAre c ns:=by
 intro ns
 induction ns with
 |nil=>
  intro c w;rw[zC] at w;cases w;exact .nil
 |cons n ns ih=>
  intro c w;rw[dr] at w;cases w with
  |cons a b=>
   cases a;exact .cons _ _ (ih _ b)
theorem KE{l:OpenLaw}(u:l.most=some n)
  (c:l.row.toRowW.claim.pre args=true)(j:WellAll P h vals args):
  ∃ a k b,vals=[Value.ref a]/\args=[WData.list (b.map WData.int)]/\h.get? a=some { cls:=.type "list",data:=.seq k.toArray }/\IntsAre k b/\b.length<=n:=by
 have i:WShape.hasAll [] args [.list .int]=true:=(pre_splitW c).1;have m:l.pre.holds [] {args:=args}=true:=(pre_splitW c).2;obtain⟨d,r,rfl,s,o⟩:=hasAllW_cons i;obtain rfl:=hasAllW_nil o;obtain⟨v,rfl,t⟩:=hasW_list s;obtain⟨b,rfl⟩:=items_int t;have e:b.length<=n:=by
  unfold OpenLaw.pre at m;have g:(WTm.not (.lt (.lit (.int (n:Int))) (.len (.arg 0)))).holds [] {args:=[.list (b.map .int)]}=true:=by
   have g:=(holds_andW m).1;rw[u] at g;exact g
  have f:=condW_of g (w_not (w_lt w_lit (w_len_list (w_arg rfl))));rw[ax] at f;refine fF λq=>?_
  have p:(n:Int)<((b.length:Nat):Int):=by lia
  first
   | (rw[bH p] at f;exact absurd f '"')
   | (simp at f;lia)
 cases j with
 |cons w1 w2=>
  cases w2;cases w1 with
  |list ho hall=>exact⟨_,_,b,rfl,rfl,ho,Rw b _ hall,e⟩
theorem Kz(l:OpenLaw)(args:List WData):l.row.toRowW.claim.post args (.bool true) args=true:=
 postW_of (r:=l.row.toRowW) (X:=(true==true))
  (show WShape.has [] (.bool true) .bool=true by first|rfl|decide|simp[WShape.has,WShape.arms,WShape.armsAll])
  (show(WTm.eq .res (.lit (.bool true))).value [] {args:=args,res:=some (.bool true),after:=args}=some (.bool (true==true)) from w_eq_bool (w_res rfl) w_lit) rfl
theorem jj{l:OpenLaw}{d:DefRec}
  (Q:l.most=some n)(A:d.params.defaults=[])
  (call:∀(w:World) (c b:Shared) (p y:Str->Option Value) (i:Addr) (o:Obj) (C s e:Value) (a:Addr) (h:List Value) (u:List Int),
   Ground q loose [] XP w c p y b.heap->YP w b.heap ->
   b.heap.get? i=some o->o.data=.func (docDef d.name d.params d.body d.scope C s e)->b.heap.CodeRec s d.name->p d.name=some (.ref i) ->
   b.heap.get? a=some { cls:=.type "list",data:=.seq h.toArray }->IntsAre h u->u.length<=n->b.gens=#[] ->
   codeAny (model l.prog w) callerA (.call (.ref i) ⟨[.ref a],[]⟩) (λr t=>r=.ok (.ret (.bool true))/\OldK b.heap t.heap/\t.os=b.os/\AllBare t.gens) b):
  WalkO q loose XP YP l.row.toRowW d [] (λf h=>PySem.call f h):=by
 intro w c b p y G Y i o C s e dV kV U R v J x S E H as k I T z a0;obtain rfl:dV=.none:=Dflts.none J A;obtain rfl:kV=.none:=Dflts.noKw J;obtain⟨a,h,u,rfl,rfl,m,g,j⟩:=KE Q k z;refine enter_call (wk (call w c b p y i o C s e a h u G Y U (fd_plain R) v x m g j S) λr t hq=>?_);obtain⟨rfl,X,h3,P⟩:=hq;exact⟨.inl ⟨.bool true,.bool true,[],rfl,λ_=>rfl,.bool true,Kz l _,λ_=>⟨List.Pairwise.nil,λ_ hm=>(nomatch hm)⟩⟩,X,h3,P⟩
end Att
namespace L2
open Spec PyProof.Rows
theorem NV:∀{a:List Value}{b:List Int},IntsAre a b->aq (b.map V.int) a
 |_,_,.nil=>.nil
 |_,_,.cons n t h=>.cons ⟨t,rfl⟩ (NV h)
def rO(H:Hp):Prop:=∀b,H b=none\/∃o a,H b=some (.frz o (.lst a))
theorem ID{K:Fg}{s₁:Shared}{p:List Value}
  (KX:K.In s₁.heap)(E:s₁.heap.Ns mainGlobals mg)(f:s₁.heap.Ns builtinsNs mb)(T:∀ x:Str,x≠"__name__"->mb x=bootBuiltins x)(A:s₁.heap.NoLimit)(hg:s₁.gens=#[])
  (R:s₁.heap.get? a=some { cls:=.type "list",data:=.seq p.toArray })(hi:IntsAre p ns)(hl:ns.length<=sizeLine)(hr:bP k callerA)
  (F:∀base:Heap,K.In base->base.Ns mainGlobals mg->fS P w K mg base CX k fa fd [x] sp)(l:∀(s:Shared) (u:Value),BindsTo s fd ⟨[u],[]⟩ [(x,u)])
  (S:∀H:Hp,rO H->cp K H a (ns.map V.int)->sp [.ref a] H (λv _=>v=.bl true) λ_ _ _=>False)
  (X:∀H e g,CX [] H s₁ (λ_ _ _=>False) e g->False):
  codeAny (model P w) callerA (.call (.ref fa) ⟨[.ref a],[]⟩) (λr g=>r=.ok (.ret (.bool true))/\OldK s₁.heap g.heap/\g.os=s₁.os/\AllBare g.gens) s₁:=by
 have rv:=NV hi;have C:=hi.length;have j:∀H:Hp,rO H->cp K H a (ns.map V.int)->ff P w H s₁.heap->(∀b,H b≠none->b=a)->(H a≠none->K.lookup a=none) ->
   codeAny (model P w) callerA (.call (.ref fa) ⟨[.ref a],[]⟩) (λr g=>r=.ok (.ret (.bool true))/\OldK s₁.heap g.heap/\g.os=s₁.os/\AllBare g.gens) s₁:=by
  intro H hO hS G hA hK;have c:∀{b:Addr}{o:Obj},s₁.heap.get? b=some o->H b=none->(iH s₁.heap H).get? b=some o:=λe n=>Ix e n
  have Y:∀{b:Addr}{o:Obj}{I:Array DictEntry}{ep:Nat},s₁.heap.get? b=some o->o.data=.dict I ep->H b=none:=λ{b o I ep} e d=>by
   cases q:H b with
   |none=>rfl
   |some u=>
    have U:b=a:=hA b (by rw[q];simp);subst U;rw[R] at e;cases e
    have d':Data.seq p.toArray _=Data.dict I ep:=d;cases d'
  have i:∀{b:Addr}{m:Str->Option Value},s₁.heap.Ns b m->(iH s₁.heap H).Ns b m:=λ{b m} ⟨o,I,ep,e,d,r⟩=>⟨o,I,ep,c e (Y e d),d,r⟩
  have t:K.In (iH s₁.heap H):=λb o e=>c (KX b o e) (by
   cases q:H b with
   |none=>rfl
   |some u=>
    have U:b=a:=hA b (by rw[q];simp);subst U
    rw[hK (by rw[q];simp)] at e;cases e)
  have hM:Mod K mg (iH s₁.heap H):=⟨t,i E,⟨mb,i f,T⟩,let ⟨mc,h1,h2⟩:=A;⟨mc,i h1,h2⟩⟩
  have e0:oX P w K mg (iH s₁.heap H) callerA [] s₁ H:=⟨rfl,hM,λb o e=>G0 e,gV (J7 _ _),trivial,λb f=>absurd (show b∈([]:List Addr) from f) '&',G,.of_eq hg⟩
  refine wk ((F _ t (i E)).run callerA [] s₁ H ⟨[.ref a],[]⟩ [.ref a] [.ref a] _ _ hr e0 (l s₁ (.ref a)) (.cons rfl .nil) (S H hO hS)) λr g h=>?_
  cases r with
  |error e=>exact(X H e g h).elim
  |ok fl=>
   cases fl with
   |next=>exact False.elim h
   |brk=>exact False.elim h
   |cont=>exact False.elim h
   |ret u=>
    obtain⟨v,H',os,J,un,y,r',q⟩:=h;have q':v=.bl true:=q;subst q';obtain rfl:u=Value.bool true:=r';refine⟨rfl,OldK.of_keep λb o e=>?_,os,J⟩;cases q:H b with
    |none=>exact un.keep b o e q (by intro z;exact absurd (show b∈([]:List Addr) from z) '&') '&'
    |some u=>
     rcases hO b with z|⟨ob,xs,z⟩
     ·rw[q] at z;cases z
     ·have z2:=un.frzs b ob _ z;obtain⟨e1,_⟩:=G b _ z;obtain⟨e2,_⟩:=y b _ z2;rw[e] at e1;cases e1
      exact e2
 cases hk:K.lookup a with
 |some o=>
  have e:=KX a o hk;rw[R] at e;cases e;refine j (λ_=>none) (λ_=>.inl rfl) (.inr ⟨_,p.toArray,_,hk,rfl,rfl,rfl,by rw[cC,C];exact hl,by simpa using rv⟩) (λb u z=>by have Q:(none:Option HO)=some u:=z;cases Q) (λb z=>absurd rfl z) λz=>absurd rfl z
 |none=>
  refine j (λb=>if b=a then some (.frz { cls:=.type "list",data:=.seq p.toArray } (.lst (ns.map V.int))) else none) (λb=>?_) (.inl (.inr ⟨{ cls:=.type "list",data:=.seq p.toArray },if_pos rfl⟩)) (λb u z=>?_) (λb z=>?_) λ_=>hk
  ·by_cases f:b=a
   ·exact .inr ⟨_,_,if_pos f⟩
   ·exact .inl (if_neg f)
  ·by_cases f:b=a
   ·have Q:=(if_pos f).symm.trans z;cases Q;subst f;exact⟨R,by rw[ax];exact hl,p,_,rv,R⟩
   ·have Q:=(if_neg f).symm.trans z;cases Q
  ·by_cases f:b=a
   ·exact f
   ·exact absurd (if_neg f) z
theorem HE{l:W.OpenLaw}{n k:Nat}{q:Program}{c:List Str}{XP:(Str->Option Value)->Heap->Prop}{R:World->Heap->Prop}{d:DefRec}{K:Params->Fg}{CX:World->rV}{sp:World->Sp}{x:Str}
  (T:l.most=some n)(I:n<=sizeLine)(E:d.params.defaults=[])(U:bP k callerA)
  (X:∀(w:World) (h:Heap),R w h->(K w.params).In h)
  (F:∀(w:World) (i:Str->Option Value) (p:Addr) (h:Heap),(K w.params).In h->h.Ns mainGlobals i->i d.name=some (.ref p) ->
   ∃A:FuncData,(∀(s:Shared) (u:Value),BindsTo s A ⟨[u],[]⟩ [(x,u)]) /\
    ∀base:Heap,(K w.params).In base->base.Ns mainGlobals i->fS l.prog w (K w.params) i base (CX w) k p A [x] (sp w))
  (t:∀(w:World) (H:Hp) (a:Addr) (r:List Int),r.length<=n->rO H->cp (K w.params) H a (r.map V.int)->sp w [.ref a] H (λv _=>v=.bl true) λ_ _ _=>False)
  (z:∀(w:World) (H:Hp) (s:Shared) (e:Value) (C:Shared),CX w [] H s (λ_ _ _=>False) e C->False):
  W.WalkO q c XP R l.row.toRowW d [] (λf P=>PySem.call f P):=by
 refine Att.jj T E λw J m i mb p o pm cd a0 a P r G Y ho hd S y j g b hg=>?_
 have Q:=X w _ Y;obtain⟨A,hb,hF⟩:=F w i p _ Q G.T.g y;exact ID Q G.T.g G.T.b G.T.builtins G.T.nolimit hg j g (aT b I) U hF hb (λH hO hS=>t w H a r b hO hS) λH e C=>z w H m e C
noncomputable def cf(s:Stmt):Arguments:=match s with
 |.FunctionDef _ a _ _ _ _ _ _ _ _=>a
 |_=>{posonlyargs:=[],args:=[],vararg:=none,kwonlyargs:=[],kw_defaults:=[],kwarg:=none,defaults:=[]}
noncomputable def bt(s:Stmt):List Stmt:=match s with
 |.FunctionDef _ _ b _ _ _ _ _ _ _=>b
 |_=>[]
noncomputable def af(s:Stmt):Scope:=match s with
 |.FunctionDef _ _ _ _ _ _ sc _ _ _=>sc
 |_=>{kind:=.function,names:=[],isGenerator:=false,isCoroutine:=false}
abbrev ke:rV:=λ_ _ _ _ _ _=>False
abbrev E0:XK:=λ_ _ _=>False
theorem xj:jP ke X E0:=λ_ _ _ _ _ _ _ h=>h.elim
structure oW (K:Fg) (x qual:Str) (au:Stmt) (f:Addr) (fd:FuncData):Prop where
 ex:∃(oc:Value) (od:Option Addr) (kV doc pm:Value) (an:Option Addr) (cdv ct:Value) (osl:Array (Option Value)),
  fd=W.fnOf x qual (cf au) (bt au) (af au) .none kV doc pm an cdv ct/\K.lookup f=some ⟨oc,od,.func fd,osl⟩/\W.codeIn K cdv qual=true
 kp:W.keepIn K (.ref f)=true
theorem oW.ok{K:Fg}{N:List Str}(F:oW K x qual au f fd)(S:ak N ps (af au))(len:∀c H Q E,sp c H Q E->c.length=ps.length)
  (d:∀(b:Value) (A:Around) (a:List Env) (s:Shared) (H:Hp) (c:List V) (Q:VK) (E:XK),bP k (A.deeper (envOfC qual (af au) s.heap.objs.size f b))->sp c H Q E ->
   ∃t,io (dW ke P w K mg base N qual (af au) f b A a s H E).nox (bt au) t/\t {nx:=λ_ l=>Q .non l,rt:=Q} (start N c) H):fS P w K mg base ke (k+1) f fd ps sp:=by
 obtain⟨u,v,kV,i,p,o,b,r,m,rfl,j,e⟩:=F.ex;refine uk j e S len λA a s H c Q E n g=>?_
 obtain⟨t,h,q⟩:=d b A a s H c Q E n g;exact⟨t,h.nox,q⟩
theorem oW.binds{K:Fg}{e:List Str}(F:oW K x qual au f fd)
  (h:∀(kV a g:Value) (d:Option Addr) (b i:Value) (c:List Value),c.length=e.length->bindArgs (W.fnOf x qual (cf au) (bt au) (af au) .none kV a g d b i) ⟨c,[]⟩=pure (e.zip c)):Binds K fd e []:=by
 obtain⟨m,n,kV,a,g,d,b,i,k,rfl,l,j⟩:=F.ex;exact .all (h kV a g d b i)
theorem ET{K:Fg}{kV:Value}(l:K.lookup f=some ⟨oc,od,.func (W.fnOf x qual (cf au) (bt au) (af au) .none kV doc pm an cdv ct),osl⟩)
 (c:W.codeIn K cdv qual=true)(k:W.keepIn K (.ref f)=true):oW K x qual au f (W.fnOf x qual (cf au) (bt au) (af au) .none kV doc pm an cdv ct):=⟨⟨oc,od,kV,doc,pm,an,cdv,ct,osl,rfl,l,c⟩,k⟩
theorem qo(a:bP k A):A.units+1<cLine:=jw (gY (by decide:1<=64) _) a.units
theorem pv{X:Cx}(i:Nat) (c:X.N[i]?=some x:=by rfl)(d:xE X.env.scope x:=by first|exact Or.inl rfl|exact Or.inr '%'|exact Or.inr (Or.inr rfl))(b:(x==("__debug__" : Str))=false:=by decide)
 (a:(x==("__classdict__" : Str))=false:=by decide):PE X (.Name x pos) (lO i):=Fy c d b a
theorem jb{A B:Prop}(h:B):if false=true then A else B:=by
 rw[if_neg qY];exact h
theorem ja{A B:Prop}(h:A):if true=true then A else B:=by
 rw[if_pos rfl];exact h
noncomputable abbrev rR:Value->Shared->Prop:=λ_ _=>False
noncomputable abbrev ox(c:List Expr) (a:Env):Sem Bool:=
 forIn c true λd b=>if b=true then do let z ←isTrue d a (eval d a);pure (ForInStep.yield z) else pure (ForInStep.yield b)
def mz(P:Program) (w:World) (B:Around) (c x:Expr) (h:List Expr) (a:Env) (i l:Value) (K:Shared->Prop) (v:Value) (d:Shared):Prop:=
 wpAny (model P w) B (letOwnedTupleGo c i v) (λ_ e=>wpAny (model P w) B (assign c a v) (λ_ j=>wpAny (model P w) B (ox h a) (λg b=>
  if g=true then wpAny (model P w) B (eval x a) (λy k=>wpAny (model P w) B (call (.builtin "list.append") [l,y]) (λ_ f=>K f) rR k) rR b else K b) rR j) rR e) rR d
theorem JK{R:Result->Shared->Prop}{m:List Expr}(J:Nat->Shared->Prop)
  (q:∀k d,J k d->wpAny (model P w) B (pyNext i) (λo f=>match o with
   |none=>R (.ok .next) f
   |some v=>mz P w B tg x m ev i l (λh=>∃g,g<k/\J g h) v f) rR d)
  (k:Nat)(p:J k sh):codeAny (model P w) B (.compLoop (.ListComp x [⟨tg,it,m,0⟩] sc ps) 0 i l ev) R sh:=by
 have a:∀{E:Value->Shared->Prop}(e:Value) (z:Shared),rR e z->E e z:=λ_ _ z=>z.elim
 refine codeAny_loop rfl J (λk d r=>wpAny_noted (by
  rw[compTurn_list];refine am (wpAny_standAt (am (hX (q k d r) (λo f c=>?_) a)))
  match o,c with
  |none,c=>exact ba c
  |some v,c=>
   refine am (hX c (λ_ H s=>am (hX s (λ_ A n=>am (hX n (λj G b=>?_) a)) a)) a)
   match j,b with
   |false,b=>exact ba (And.intro rfl b)
   |true,b=>exact am (am (hX b (λy C t=>am (hX t (λ_ h u=>ba (ba (And.intro rfl u))) a)) a)))) k p
theorem QU{env:Env}:∀(b:List (Str×NameKind)) (d:List (Str×Addr)),(∀y∈b,y.2=.free->∃c,env.cells.lookup y.1=some c)->(∀x c,d.lookup x=some c->env.cells.lookup x=some c) ->
  ∃g:List (Str×Addr),(forIn b d (λx r=>if(x.2==NameKind.free)=true then do let a ←cellOf env x.1;pure (ForInStep.yield ((x.1,a)::r)) else pure (ForInStep.yield r)):Sem (List (Str×Addr)))=pure g /\
   (∀x c,g.lookup x=some c->env.cells.lookup x=some c)/\(∀x c,d.lookup x=some c->∃i,g.lookup x=some i)/\∀x,(x,NameKind.free)∈b->∃c,g.lookup x=some c:=by
 intro b
 induction b with
 |nil=>intro d _ j;exact⟨d,rfl,j,λx c e=>⟨c,e⟩,λx z=>(nomatch z)⟩
 |cons y r ih=>
  intro d m j;obtain⟨n,k⟩:=y;by_cases hk:k=.free
  ·subst hk;obtain⟨c,s⟩:=m (n,.free) f6 rfl
   obtain⟨g,e,o,h,l⟩:=ih ((n,c)::d) (λy p=>m y (gZ _ p)) (λx i e=>by
    rw[oj] at e;by_cases f:x=n
    ·subst f;rw[qT] at e;cases e;exact s
    ·rw[sQ.mpr f] at e
     exact j x i e)
   refine⟨g,?_,o,λx i u=>?_,λx f=>?_⟩
   ·rw[zH];simp only[qT,ite_true];have q:cellOf env n=pure c:=by unfold cellOf;rw[s]
    rw[q];simp only[pure_bind];exact e
   ·by_cases f:x=n
    ·subst f;exact h x c (by rw[oj,qT])
    ·exact h x i (by rw[oj,sQ.mpr f];exact u)
   ·rcases ce.mp f with z|z
    ·cases z;exact h n c (by rw[oj,qT])
    ·exact l x z
  ·obtain⟨g,e,o,h,l⟩:=ih d (λy p=>m y (gZ _ p)) j;refine⟨g,?_,o,h,λx f=>?_⟩
   ·rw[zH];have t:(k==NameKind.free)=false:=by simpa using hk
    simp only[t,ku,gS,pure_bind];exact e
   ·rcases ce.mp f with z|z
    ·cases z;exact absurd rfl hk
    ·exact l x z
theorem P5{scope:Scope}{env:Env}(h:∀y∈scope.names,y.2=.free->∃c,env.cells.lookup y.1=some c):
  ∃cl,closureFor scope env=pure cl/\(∀x c,cl.lookup x=some c->env.cells.lookup x=some c)/\∀x,(x,NameKind.free)∈scope.names->∃c,cl.lookup x=some c:=by
 obtain⟨cl,e,h1,_,h3⟩:=QU (env:=env) scope.names [] h (λx c e=>(nomatch e));refine⟨cl,?_,h1,h3⟩;unfold closureFor;have e':=congrArg (λm=>m >>= λr=>(pure r:Sem (List (Str×Addr)))) e;simp only[pure_bind] at e';exact e'
theorem y8{a:Env}:∀{b:List (Str×NameKind)}{x:Str}{k:NameKind},(b.map λ(n,k)=>if(k==NameKind.free&&a.scope.kind==.function&&a.kindOf n==some .cell) then(n,NameKind.cell) else(n,k)).lookup x=some k ->
  b.lookup x=some k\/(k=.cell/\b.lookup x=some .free)
 |[],_,_,h=>by simp at h
 | (n,k')::r,x,k,h=>by
  have d:=@y8 a r x k;have c:List.lookup x ((if(k'==NameKind.free&&a.scope.kind==.function&&a.kindOf n==some .cell)=true then(n,NameKind.cell) else(n,k'))::_)=_:=h;cases hx:x==n with
  |true=>
   by_cases hc:(k'==NameKind.free&&a.scope.kind==.function&&a.kindOf n==some .cell)=true
   ·rw[if_pos hc] at c;simp only[oj,hx] at c ⊢;cases c;rw[eh,eh] at hc;exact .inr ⟨rfl,by rw[eq_of_beq hc.1.1]⟩
   ·rw[if_neg hc] at c;simp only[oj,hx] at c ⊢;exact .inl c
  |false=>
   have e:(r.map λ(n,k)=>if(k==NameKind.free&&a.scope.kind==.function&&a.kindOf n==some .cell) then(n,NameKind.cell) else(n,k)).lookup x=some k:=by
    by_cases hc:(k'==NameKind.free&&a.scope.kind==.function&&a.kindOf n==some .cell)=true
    ·rw[if_pos hc] at c;simp only[oj,hx] at c;exact c
    ·rw[if_neg hc] at c;simp only[oj,hx] at c;exact c
   simp only[oj,hx];exact d e
def dB(X:Cx) (N:List Str) (a:Scope) (c:List (Str×Addr)) (C:Addr) (b:List Addr) (s:Shared) (H:Hp):Cx:=
 {X with N:=N,s₀:=s,H₀:=H,env:=compEnvC a c C X.env,outer:=X.stack,ex:=b,fn:=λ_=>false,pn:=[],xe:=λ_ _=>False}
def fI(k:Nat) (is:List Nat) (a:St):St:=List.replicate k none++is.map λi=>(a[i]?).getD none
structure bh (X:Cx) (N:List Str) (k:Nat) (is:List Nat) (scope:Scope):Prop where
 kind:scope.kind=.function
 nocell:∀y∈scope.names,y.2≠.cell
 names:∀y∈scope.names,y.2=.local->scope.names.lookup y.1=some .local
 frees:∀y∈scope.names,y.2=.free->X.env.kindOf y.1=some .cell\/X.env.kindOf y.1=some .free
 len:N.length=k+is.length
 own:∀j i,is[j]?=some i->∃x,N[k+j]?=some x/\X.N[i]?=some x/\scope.names.lookup x=some .free
theorem yI{l:List (Str×NameKind)}(h:l.lookup x=some k):(x,k)∈l:=sR h
theorem IA{N:List Str}{Q:List (Str×Addr)}{T:Heap}(S:bh X N k is scope)(I:Inv X aW σ H s)
  (h:∀x c,Q.lookup x=some c->X.env.cells.lookup x=some c)(c2:∀x,(x,NameKind.free)∈scope.names->∃c,Q.lookup x=some c)
  (w:∀b∈R,fC X aW H b)(Y:∀b∈R,∃o,s.heap.get? b=some o)(hn:T.Ns s.heap.objs.size (λ_=>none))(t:∀b o,s.heap.get? b=some o->T.get? b=some o):
  Inv (dB X N scope Q s.heap.objs.size R s H) [] (fI k is σ) H {s with heap:=T,toks:=tk}:=by
 have hC:∀b o,s.heap.get? b=some o->b≠s.heap.objs.size:=λb o e=>ef (bR e)
 have E:∀b∈R,b∉eW X.stack:=λb g z=>by
  rcases ce.mp (I.stkSub b z) with e|e
  ·exact(w b g).2.1 e
  ·exact(w b g).2.2.1 e
 refine⟨⟨I.ok.mod,S.kind,I.ok.glob,I.ok.blt,bi _,λx y c e1 d=>I.ok.inj x y c (h x c e1) (h y c d),λx hx=>?_,λx c z=>?_,I.ok.hd,I.ok.frames,.inl rfl,λb g=>⟨?_,λx c e=>?_⟩,I.bs,aT I.ok.bsz I.sz,λb o e g=>?_,E,I.stack,I.stkFree⟩,
  rfl,I.bare,Un.kept t,⟨_,hn,λi x v e1 d e3=>?_⟩,λx c e=>?_,I.hok.fresh (bi _),λx c e=>I.freeC x c (h x c e),λp hp=>(nomatch hp),I.hok.kept t,?_,I.hnd⟩
 ·have U:(scope.names.map λ(n,k)=>if(k==NameKind.free&&X.env.scope.kind==.function&&X.env.kindOf n==some .cell) then(n,NameKind.cell) else(n,k)).lookup x=some .cell\/(scope.names.map λ(n,k)=>if(k==NameKind.free&&X.env.scope.kind==.function&&X.env.kindOf n==some .cell) then(n,NameKind.cell) else(n,k)).lookup x=some .free:=hx;have q:scope.names.lookup x=some .free:=by
   rcases U with z|z
   ·rcases y8 z with q|⟨_,q⟩
    ·exact absurd rfl (S.nocell _ (yI q))
    ·exact q
   ·rcases y8 z with q|⟨q,_⟩
    ·exact q
    ·cases q
  exact c2 x (yI q)
 ·cases z
 ·obtain⟨o,e⟩:=Y b g;exact hC b o e
 ·exact(w b g).2.2.2.2.1 x c (h x c e)
 ·rcases(w b g).2.2.2.1 with z|z
  ·exact I.ok.noex b o e z
  ·exact absurd (cD (bR (I.ok.bs b o e).1) z) (nX _)
 ·-- a name of the def around
  unfold fI at d;have hi:k<=i:=by
   rcases gU i k with z|z
   ·rw[f7 (by rw[mW];exact z),LH,if_pos z] at d;cases d
   ·exact z
  rw[iE (by rw[mW];exact hi),mW,dm] at d;cases ej:is[i-k]? with
  |none=>rw[ej] at d;cases d
  |some j=>
   rw[ej] at d;have f:(σ[j]?).getD none=some v:=eg d;obtain⟨y,y1,y2,A⟩:=S.own (i-k) j ej;have ey:y=x:=by
    have z:N[i]?=some y:=by rw[←y1];congr 1;lia
    have l:N[i]?=some x:=e1;rw[z] at l;exact eg l
   subst ey;have e4:σ[j]?=some (some v):=by
    cases q:σ[j]? with
    |none=>rw[q] at f;cases f
    |some o=>rw[q] at f;exact congrArg some f
   have kd:=S.frees _ (yI A) rfl;have C:xE X.env.scope y:=.inr kd;obtain⟨m,_,hl⟩:=I.loc;obtain⟨u,r,lk⟩:=hl j y v y2 e4 C;refine⟨u,r,?_⟩;rcases lk with⟨z,_⟩|⟨_,c,e5,cc⟩
   ·rcases kd with q|q<;>(rw[q] at z;cases z)
   ·obtain⟨J,e6⟩:=c2 y (yI A);have:J=c:=by
     have z:=h y J e6;rw[e5] at z;exact(eg z).symm
    subst this;refine .inr ⟨?_,J,e6,?_⟩
    ·rcases e3 with z|z|z
     ·exact absurd (y8 z) (by
       rw[A];rintro(q|⟨q,_⟩)
       ·cases q
       ·cases q)
     ·exact .inl z
     ·exact .inr z
    ·obtain⟨o,P,G⟩:=cc;exact⟨o,t _ o P,G⟩
 ·obtain⟨v,o,P,G⟩:=I.cell x c (h x c e);exact⟨v,o,t _ o P,G⟩
 ·unfold fI;rw[cq,mW,ax];exact S.len.symm
theorem Iz{N:List Str}(I:Inv X aW σ H s)(f:∀b∈g,fC X aW H b)(J:Inv (dB X N scope cl s.heap.objs.size g s H) [] σ' H' s')
  (d:Heap.SameBut s.heap.objs.size s'.heap h'):Inv X aW σ H' {s' with heap:=h'}:=by
 have j:∀b o,s.heap.get? b=some o->b≠s.heap.objs.size:=λb o e=>ef (bR e)
 have l:H' s.heap.objs.size=none:=J.free;have B:Un (eW X.stack) g H H' s.heap s'.heap:=J.base
 have U:Un (eW X.stack) g H H' s.heap h':=⟨λb o e n i h=>d.extBut b o (j b o e) (B.keep b o e n i h),λb o e n i h=>by
   obtain⟨m,q⟩:=B.slot b o e n i h;exact⟨m,d.extBut b _ (j b o e) q⟩,B.free,λb o e p=>by
   obtain⟨k,q⟩:=B.there b o e p
   exact⟨k,d.extBut b k (j b o e) q⟩,B.tups,B.frzs,B.tbls⟩
 refine I.call' (s':={s' with heap:=h'}) J.os U (λa o e=>?_) J.bare (λb c=>⟨(f b c).2.2.2.1,(f b c).2.1,(f b c).2.2.2.2.1,(f b c).2.2.2.2.2⟩);refine(J.hok a o e).stay (λb u c q=>d.extBut b u ?_ q) (λ_ q=>q) λ_ _ q=>q
 rcases c with z|z
 ·intro y;rw[z] at y;rw[y,l] at e;cases e
 ·intro y;rw[y,l] at z;cases z
structure rP (X:Cx) (aW:List (Addr×Obj)) (H:Hp) (C:Addr):Prop where
 free:H C=none
 loc:C≠X.env.locals
 young:X.s₀.heap.objs.size<=C
 cell:∀x c,X.env.cells.lookup x=some c->c≠C
 pin:∀p∈X.pn++aW,p.1≠C
theorem rP.back(o:rP X aW H C)(I:Inv X aW σ H s)(a:Heap.SameBut C s.heap h'):Inv X aW σ H {s with heap:=h'}:=
 I.turned (t':=s.toks) (λb u c e=>a.extBut b u c e) o.free o.loc (.inr o.young) o.cell o.pin
def PP(p:Addr) (f:TE) (g:TT) (N:St->Hp->Prop):St->Hp->Prop:=λa H3=>g a H3 λb d=>
 if b=true then f a d λy e=>∃c,e p=some (.lst c)/\c.length<sizeLine/\N a (aD e p (.lst (c++[y]))) else N a d
def xO(J:It) (g:TG) (h:TT) (f:TE) (Q:VK) (p:Addr) (e:St) (H:Hp):Prop:=∃W:Nat->Nat->St->Hp->Prop,(∃m,W 0 m e H) /\
 ∀i m b a,W i m b a->(J.stop i a/\Q (.ref p) a)\/(J.go i a/\∃N:St->Hp->Prop,(∀c H2,N c H2->∃d,d<m/\W (i+1) d c H2)/\∀x H2,J.yld i a x H2->g x b H2 (PP p f h N))
def ig(d:TI) (k:Nat) (is:List Nat) (g:TG) (b:TT) (c:TE):TE:=λa H Q=>d a H λJ H1=>∀p,H1 p=none->xO J g b c Q p (fI k is a) (aD H1 p (.lst []))
def LQ:TT:=λ_ H Q=>Q true H
def mo(X:Cx) (b:List Expr) (t:TT):Prop:=
 ∀(d:List (Addr×Obj)) (s:Shared) (a:St) (H:Hp) (Q:Bool->Hp->Prop),Inv X d a H s->t a H Q ->
  wpAny (model X.prog X.w) X.A (forIn b true λc r=>if r=true then do let ok ←isTrue c X.env (eval c X.env);pure (ForInStep.yield ok) else pure (ForInStep.yield r)) (TP X d a Q) X.xe s
theorem Hg:mo X [] LQ:=λb s a H Q I h=>wpAny_tests_nil ⟨H,I,h⟩
theorem Hh(h:PT X c t):mo X [c] t:=λb s a H Q I d=>wpAny_tests_one (h b s a H Q I d)
section
variable {X:Cx}{tg:Expr}{iter:Expr}{elt:Expr}{ifs:List Expr}{g:TG}{tc:TT}{te:TE}{N:List Str}{k:Nat}{is:List Nat}{scope:Scope}{pos:Pos}
theorem N4(A:X.calm=true)(hg:∀l C j s H,PG (dB X N scope l C j s H) tg g)(hc:∀l C j s H,mo (dB X N scope l C j s H) ifs tc)(he:∀l C j s H,PE (dB X N scope l C j s H) elt te)
  (S:bh X N k is scope){aW:List (Addr×Obj)}{σ:St}{H2:Hp}{s2:Shared}{l:List (Str×Addr)}{it:Addr}{j:List Addr}{tn:Nat->Heap->Prop}{J:It}{Q:VK}{E:Value->Shared->Prop}{RR:Value->Addr->Result->Shared->Prop}
  (I2:Inv X aW σ H2 s2)(T:iK X.prog X.w X.K tg J j it tn)(a5:tn 0 s2.heap)(f2:∀b∈j,fC X aW H2 b)
  (c1:∀x c,l.lookup x=some c->X.env.cells.lookup x=some c)(c2:∀x,(x,NameKind.free)∈scope.names->∃c,l.lookup x=some c)
  (h:∀p,H2 p=none->∃W:Nat->Nat->St->Hp->Prop,(∃m,W 0 m (fI k is σ) (aD H2 p (.lst []))) /\
   ∀i m a H',W i m a H'->(J.stop i H'/\Q (.ref p) H')\/(J.go i H'/\∃N:St->Hp->Prop,(∀a8 H2,N a8 H2->∃I,I<m/\W (i+1) I a8 H2)/\∀x H2,J.yld i H' x H2->g x a H2 (PP p te tc N)))
  (hR:∀(p C:Addr) (z:Shared) (H':Hp) (m:Str->Option Value),rP X aW H' C->z.heap.Ns C m->Inv X aW σ H' z->Q (.ref p) H'->RR (.ref p) C (.ok .next) z):
  wpAny (model X.prog X.w) X.A (newList []) (λb1 b2=>wpAny (model X.prog X.w) X.A (newFunctionEnv scope X.env.globals l [] X.env.qual none .none (some X.env)) (λY a4=>
   codeAny (model X.prog X.w) X.A (.compStart (.ListComp elt [⟨tg,iter,ifs,0⟩] scope pos) 0 (.ref it) b1 {Y with scope:=relabel scope X.env}) (RR b1 Y.locals) a4) E b2) E s2:=by
 refine lI ?_;have fresh:H2 s2.heap.objs.size=none:=I2.fresh;have I3:Inv X aW σ (aD H2 s2.heap.objs.size (.lst [])) { s2 with heap:=s2.heap.push { cls:=.type "list",dict:=none,data:=.seq ([]:List Value).toArray } }:=I2.lnew (t':=s2.toks) (.nil) '"'
 generalize hs3:({ s2 with heap:=s2.heap.push { cls:=.type "list",dict:=none,data:=.seq ([]:List Value).toArray } }:Shared)=s3 at I3
 have k3:∀b o,s2.heap.get? b=some o->s3.heap.get? b=some o:=λb o e=>by rw[←hs3];exact bL _ e
 refine wpAny_newFunctionEnv S.nocell (by intro y hy;simp at hy) (λh₁ P R=>?_) S.kind;have a2:tn 0 s3.heap:=T.keep _ _ _ a5 λb _ o e=>k3 b o e
 have f3:∀b∈j,fC X aW (aD H2 s2.heap.objs.size (.lst [])) b:=λb t=>by
  obtain⟨o,e,_⟩:=T.obj _ _ a5 b t;exact⟨by rw[ca (ef (bR e))];exact(f2 b t).1,(f2 b t).2⟩
 have k4:∀b o,s3.heap.get? b=some o->h₁.get? b=some o:=λb o e=>R.extBut b o (ef (bR e)) (bL _ e)
 have J4:=IA (tk:=s3.toks+([]:List (Str×Value)).length) S I3 c1 c2 f3 (λb t=>let ⟨o,e,_⟩:=T.obj _ _ a2 b t;⟨o,e⟩) P k4;obtain⟨W,⟨m0,w0⟩,b0⟩:=h s2.heap.objs.size fresh;have a7:tn 0 h₁:=T.keep _ _ _ a2 λb _ o e=>k4 b o e
 have U:codeAny (model X.prog X.w) X.A (.compLoop (.ListComp elt [⟨tg,iter,ifs,0⟩] scope pos) 0 (.ref it) (.ref s2.heap.objs.size) (compEnvC scope l s3.heap.objs.size X.env)) (RR (.ref s2.heap.objs.size) s3.heap.objs.size) {s3 with heap:=h₁,toks:=s3.toks+([]:List (Str×Value)).length}:=by
  have w:∀{H':Hp},(∀b∈j,H' b=none)->∀b∈j,fC (dB X N scope l s3.heap.objs.size j s3 (aD H2 s2.heap.objs.size (.lst []))) [] H' b:=λ{H'} hn b t=>by
   obtain⟨o,e,_⟩:=T.obj _ _ a2 b t;refine⟨hn b t,ef (bR e),J4.ok.exfs b t,.inl t,λx c e'=>(f3 b t).2.2.2.2.1 x c (c1 x c e'),λp hp=>(nomatch hp)⟩
  refine JK (λn z=>∃i a H',Inv (dB X N scope l s3.heap.objs.size j s3 (aD H2 s2.heap.objs.size (.lst []))) [] a H' z/\tn i z.heap/\(∀b∈j,H' b=none)/\W i n a H') ?_ m0
   ⟨0,_,_,J4,a7,λb t=>(f3 b t).1,w0⟩
  rintro n s5 ⟨i,G,H5,I5,a3,a6,w5⟩;rcases b0 i n G H5 w5 with⟨a9,q⟩|⟨go,N',b4,step⟩
  ·refine bp (T.done (dB X N scope l s3.heap.objs.size j s3 (aD H2 s2.heap.objs.size (.lst []))) rfl rfl rfl A i [] s5 G H5 _ I5 (w a6) a3 a9) λr s6 f=>?_
   obtain⟨hr,I6⟩:=f;subst hr;obtain⟨m,hm,_⟩:=I6.loc;refine hR _ _ s6 H5 m ⟨I6.free,mP I3.lt,I3.sz,λx c e=>?_,λp hp=>ef (bR (I3.pin p hp).1)⟩ hm (Iz (h':=s6.heap) I3 f3 I6 (.refl ..)) q;obtain⟨v,o,ho,_⟩:=I3.cell x c e;exact ef (bR ho)
  ·refine bp (T.item (dB X N scope l s3.heap.objs.size j s3 (aD H2 s2.heap.objs.size (.lst []))) rfl rfl rfl A i [] s5 G H5 _ I5 (w a6) a3 go) λr s6 f=>?_
   obtain⟨u,hr,h6⟩:=f;subst hr;refine bp h6 λ_ s7 f=>?_
   obtain⟨x,H7,I7,r7,y7,a0,b9⟩:=f;have c5:=I7.pinned (w b9) (T.obj _ _ a0);refine bp (hg l s3.heap.objs.size j s3 _ _ s7 G H7 x u _ c5 r7 (step x H7 y7)) λ_ s8 f=>?_
   obtain⟨a1,H8,I8,q8⟩:=f;refine bp (hc l s3.heap.objs.size j s3 _ _ s8 a1 H8 _ I8 q8) λb s9 f=>?_
   obtain⟨H9,I9,q9⟩:=f;have again:∀{a:St}{H':Hp}{z:Shared}{I:Nat},Inv (dB X N scope l s3.heap.objs.size j s3 (aD H2 s2.heap.objs.size (.lst []))) ([]++gv j s7.heap) a H' z->I<n->W (i+1) I a H' ->
     ∃m,m<n/\∃i a H',Inv (dB X N scope l s3.heap.objs.size j s3 (aD H2 s2.heap.objs.size (.lst []))) [] a H' z/\tn i z.heap/\(∀b∈j,H' b=none)/\W i m a H':=λ{a H' z I} I' hm w'=>by
    refine⟨I,hm,i+1,a,H',I'.unpinned,T.keep _ _ _ a0 λb t o e=>(I'.pin (b,o) (j3 _ (j3 _ (yJ t e)))).1,λb t=>?_,w'⟩;obtain⟨o,e,d⟩:=T.obj _ _ a0 b t;exact(I'.pin (b,o) (j3 _ (j3 _ (yJ t e)))).2.1
   cases b with
   |false=>
    obtain⟨I,hm,w'⟩:=b4 _ _ q9;exact again I9 hm w'
   |true=>
    refine bp (he l s3.heap.objs.size j s3 _ _ s9 a1 H9 _ I9 q9) λv b7 f=>?_
    obtain⟨y,b3,c0,b5,xs,b6,hz,b8⟩:=f;obtain⟨I,hm,w'⟩:=b4 _ _ b8;refine bp (NK (X:=dB X N scope l s3.heap.objs.size j s3 (aD H2 s2.heap.objs.size (.lst []))) _ b7 a1 b3 (.ref s2.heap.objs.size) [y] _ [v] (λ_ H'=>H'=aD b3 s2.heap.objs.size (.lst (xs++[y]))) c0 rfl (.cons b5 .nil) ⟨_,xs,y,rfl,rfl,b6,hz,rfl⟩) λ_ c9 f=>?_
    obtain⟨_,c8,c6,_,c3⟩:=f;subst c3;exact again c6 hm w'
 have c7:s2.heap.push { cls:=.type "list",dict:=none,data:=.seq ([]:List Value).toArray }=s3.heap:=by rw[←hs3]
 have c4:=codeAny_compStart_list (elt:=elt) (target:=tg) (iter:=iter) (ifs:=ifs) (rest:=[]) (scope:=scope) (pos:=pos) U (T.self X.A 0 _ _ _ a7 U);exact c4
end
theorem OM{N:List Str}(S:bh X N k is scope) (I:Inv X aW σ H s):
  ∃a,closureFor scope X.env=pure a/\(∀x c,a.lookup x=some c->X.env.cells.lookup x=some c)/\∀x,(x,NameKind.free)∈scope.names->∃c,a.lookup x=some c:=
 P5 λy b d=>I.ok.has y.1 (S.frees y b d)
theorem vW{X:Cx}{N:List Str}(a:X.calm=true)(u:PI X tg iter wi)(w:∀b C c s H,PG (dB X N scope b C c s H) tg g)(t:∀b C c s H,mo (dB X N scope b C c s H) ifs tc)(v:∀b C c s H,PE (dB X N scope b C c s H) elt te)
  (S:bh X N k is scope)(y:∀x,foldedSetIterable iter X.env x=pure x:=by intro _;rfl):PE X (.ListComp elt [⟨tg,iter,ifs,0⟩] scope pos) (ig wi k is g tc te):=by
 intro l s n H Q I h;obtain⟨b,e,o,r⟩:=OM S I;rw[eval_ListComp];refine wpAny_comprehension_free (use:=none) rfl y e S.kind S.names (bp (u l s n H _ I h) λxv s1 G=>bp G λE s2 z=>?_);obtain⟨it,c,tn,J,H2,P,Y,T,i,f2,h3⟩:=z;subst P;refine N4 (Q:=Q) (RR:=λf C=>compPost (model X.prog X.w) X.A X.xe none (EP X l n Q) f C) a w t v S Y T i f2 o r h3 ?_;intro p C s' R m j A U q;exact⟨m,A,λh' d=>⟨.ref p,R,j.back U d,rfl,q⟩⟩
theorem vY{X:Cx}{N:List Str}(c:X.calm=true)(hN:X.N.Nodup)(w:X.N[i]?=some x)(hx:Loc X.env.scope x)(hi:PI X tg iter wi)(hg:∀f C j s H,PG (dB X N scope f C j s H) tg g)(hc:∀f C j s H,mo (dB X N scope f C j s H) ifs tc)
  (he:∀f C j s H,PE (dB X N scope f C j s H) elt te)(S:bh X N k is scope){b:Pos}(y:swapsWith (.ListComp elt [⟨tg,iter,ifs,0⟩] scope pos) (some (.Name x pos')) b.line X.env=pure true:=by rfl)
  (hf:X.fn x=true\/X.env.scope.names.lookup x=some .local:=by first|exact .inl rfl|exact .inr rfl|assumption)
  (U:∀x,foldedSetIterable iter X.env x=pure x:=by intro _;rfl):PS X (.Assign [.Name x pos'] (.ListComp elt [⟨tg,iter,ifs,0⟩] scope pos) b) (oz (ig wi k is g tc te) (je i)):=by
 intro o s R H D I h;obtain⟨f,e,Y,c2⟩:=OM S I;rw[exec_Assign_Name_used (hs:=y)];refine am (wpAny_standAt (am (?_:wpAny _ X.A _ _ _ s)));show wpAny _ X.A (do let _ ←comprehension (.ListComp elt [⟨tg,iter,ifs,0⟩] scope pos) scope X.env _ (newList []) false (eval iter X.env) (some (assign (.Name x pos') X.env))) _ _ s
 refine am (hX (wpAny_comprehension_free (use:=some (assign (.Name x pos') X.env)) (Q:=λ_ l=>SP X o D .next l) rfl U e S.kind S.names
  (bp (hi o s R H _ I h) λxv s1 h1=>bp h1 λa0 s2 h2=>?_)) (λ_ l hq=>ba (ba hq)) λ_ _ e=>e)
 obtain⟨it,j,tn,J,H2,e2,I2,T,G,f2,h3⟩:=h2;subst e2;refine N4 (Q:=λv A=>je i v R A D.nx) (RR:=λt C=>compPost (model X.prog X.w) X.A X.xe (some (assign (.Name x pos') X.env)) (λ_ l=>SP X o D .next l) t C) c hg hc he S I2 T G f2 Y c2 h3 ?_;intro p C l A m d hm I' q;show wpAny _ X.A (assign (.Name x pos') X.env (.ref p)) _ _ _;refine wpAny_assign_Name (NR (v:=.ref p) I' hN w hx rfl (λa1 P r=>?_) hf);obtain⟨a,E,ha⟩:=r;have u:C≠a:=by
  rcases ha with z|z
  ·rw[z];exact d.loc
  ·exact(d.cell x a z).symm
 exact⟨m,hm.sameBut E u,λh' n=>⟨_,A,d.back P n,q⟩⟩
def Callee(P:Program) (w:World) (K:Fg) (b:Str->Option Value) (base:Heap) (x:Str) (k:Nat) (c:List Str) (d:Sp):Prop:=
 ∃f a,fS P w K b base ke k f a c d/\Binds K a c []/\W.keepIn K (.ref f)=true/\b x=some (.ref f)
theorem IR{X:Cx}(c:Callee X.prog X.w X.K X.mg X.base x k ps sp)(l:bP k X.A)(j:Gl X x)(g:PA X (e::es) t)(d:(x==("__debug__" : Str))=false:=by decide)
  (i:starEach (e::es) X.env=(false,eval e X.env)::starEach es X.env:=by rfl)(a:(backTo pos (starEach es X.env)).any (·.1)=false:=by rfl):
  PE X (.Call (.Name x p) (e::es) [] pos) (lQ sp [] E0 t):=by
 obtain⟨f,n,F,b,h,m⟩:=c;exact G8 F l j m h b .nil xj g d i a
noncomputable def ap(K:Fg) (x:Str) (a:Stmt):Prop:=
 ∃f b,W.nsIn K mainGlobals x=some (some (.ref f))/\oW K x x a f b
theorem R8{K:Fg}{x:Str}{au:Stmt}{f:Addr}{m d:Option Addr}{e:Array (Option Value)}{j kV i h b g:Value}
  (a:W.nsIn K mainGlobals x=some (some (.ref f)))(l:K.lookup f=some ⟨j,m,.func (W.fnOf x x (cf au) (bt au) (af au) .none kV i h d b g),e⟩)(c:W.codeIn K b x=true)(k:W.keepIn K (.ref f)=true):ap K x au:=
 ⟨f,_,a,ET l c k⟩
theorem JH{P:Program}{w:World}{K:Fg}{m:Str->Option Value}{base h:Heap}{x:Str}{c:Stmt}{N i:List Str}{k:Nat}{sp:Sp}(T:ap K x c)(X:K.In h)(G:h.Ns mainGlobals m)(S:ak N i (af c))
  (q:∀(kV j r:Value) (o:Option Addr) (b u:Value) (l:List Value),l.length=i.length->bindArgs (W.fnOf x x (cf c) (bt c) (af c) .none kV j r o b u) ⟨l,[]⟩=pure (i.zip l))
  (len:∀g H Q E,sp g H Q E->g.length=i.length)
  (e:∀(f:Addr) (b:Value) (A:Around) (d:List Env) (s:Shared) (H:Hp) (g:List V) (Q:VK) (E:XK),bP k (A.deeper (envOfC x (af c) s.heap.objs.size f b))->sp g H Q E ->
   ∃t,io (dW ke P w K m base N x (af c) f b A d s H E).nox (bt c) t/\t {nx:=λ_ p=>Q .non p,rt:=Q} (start N g) H):Callee P w K m base x (k+1) i sp:=by
 obtain⟨f,n,a,F⟩:=T;exact⟨f,n,F.ok S len (e f),F.binds q,F.kp,jY X G a⟩
theorem lg:bu X (.builtin "isinstance") (λc H Q=>∃ x T t b,c=[x,.ty T]/\fc X.K H x t/\W.kitOne X.K t (.type T)=some b/\Q (.bl b) H):=by
 intro l s j H c k Q I r h;obtain⟨x,T,t,b,rfl,d,e,q⟩:=h;obtain⟨u,i,rfl,g,a⟩:=vals2 r;cases(show i=Value.type T from a);exact Ka I g d e λf=>⟨.bl b,H,I.tok f,rfl,q⟩
noncomputable def iq(i j:Int):Prop:=0<j/\j<2^1000
theorem Nd:cB X (binaryOp .FloorDiv) (rI iq λi j=>.int (i/j)):=As λi j _ _ _ _ _ a q=>by
 have e:i.fdiv j=i/j:=Int.fdiv_eq_ediv_of_nonneg i (by have:=a.1;lia);refine floordiv_int (by have:=a.1;lia) (by rw[e];exact q) (.inl (PyProof.noPylong_of_log2 ?_));have d:j.natAbs<2^1000:=by
  have h:=a.1;have f:=a.2;have g:(j.natAbs:Int)=j:=by lia
  have b:(j.natAbs:Int)<((2^1000:Nat):Int):=by
   rw[g];exact_mod_cast f
  exact_mod_cast b
 have c:j.natAbs≠0:=by have:=a.1;lia
 have:=(Nat.log2_lt c).mpr d;lia
noncomputable def jh(a:List Str) (xs:List (Str×NameKind)) (N:List Str) (k:Nat) (is:List Nat) (scope:Scope):Bool:=
 (scope.kind==.function)&&scope.names.all (λy=>y.2 != .cell)&&scope.names.all (λy=>y.2 != .local||scope.names.lookup y.1==some .local) &&
 scope.names.all (λy=>y.2 != .free||(xs.lookup y.1==some .cell||xs.lookup y.1==some .free))&&(N.length==k+is.length) &&
 (List.range is.length).all (λj=>match is[j]?,N[k+j]? with
  |some i,some x=>a[i]?==some x&&scope.names.lookup x==some .free
  |_,_=>false)
theorem eO{X:Cx}{N:List Str}(h:jh X.N X.env.scope.names N k is scope=true):bh X N k is scope:=by
 unfold jh at h;simp only[eh,dL] at h;obtain⟨⟨⟨⟨⟨f,b⟩,l⟩,m⟩,c⟩,d⟩:=h;refine⟨eq_of_beq f,λy a e=>?_,λy a e=>?_,λy a e=>?_,eq_of_beq c,λj i e=>?_⟩
 ·have:=b y a;rw[e] at this;simp at this
 ·have:=l y a;rw[e] at this;simp at this;exact this
 ·have:=m y a;rw[e] at this;simp at this;exact this
 ·have g:j<is.length:=(du.mp e).1;have:=d j (gq.mpr g);rw[e] at this;cases e2:N[k+j]? with
  |none=>rw[e2] at this;cases this
  |some x=>
   rw[e2] at this;simp only[eh,jX] at this;exact⟨x,rfl,this.1,this.2⟩
theorem gi:bootBuiltins "len"=some (.builtin "len"):=by decide +kernel
theorem Ei:bootBuiltins "abs"=some (.builtin "abs"):=by decide +kernel
theorem qy:bootBuiltins "min"=some (.builtin "min"):=by decide +kernel
theorem uC:bootBuiltins "max"=some (.builtin "max"):=by decide +kernel
theorem tE:bootBuiltins "sum"=some (.builtin "sum"):=by decide +kernel
theorem Jx:bootBuiltins "sorted"=some (.builtin "sorted"):=by decide +kernel
theorem pV:bootBuiltins "all"=some (.builtin "all"):=by decide +kernel
theorem kP:bootBuiltins "isinstance"=some (.builtin "isinstance"):=by decide +kernel
theorem tB:bootBuiltins "int"=some (.type "int"):=by decide +kernel
theorem F0:bootBuiltins "bool"=some (.type "bool"):=by decide +kernel
theorem rW:bootBuiltins "str"=some (.type "str"):=by decide +kernel
theorem jz:bootBuiltins "tuple"=some (.type "tuple"):=by decide +kernel
theorem vx:bootBuiltins "list"=some (.type "list"):=by decide +kernel
theorem Jp(h:H p=some o):aD H p o=H:=by
 funext b
 unfold aD;split
 ·subst b;exact h.symm
 ·rfl
end L2
namespace Srt
open PySem.W PyProof.Rows
section
variable (r:Nat->Nat)
noncomputable def lt(i j:Nat):Bool:=decide (r i<r j)
noncomputable def At(p:Array Nat) (i:Nat):Nat:=r (p.getD i 0)
def Up(p:Array Nat) (n:Nat):Prop:=∀i j,i<=j->j<n->At r p i<=At r p j
end
noncomputable def ed(h:Heap) (d:Addr) (a:List Value):Heap:=((h.update d (Obj.mapSeq λ_=>(#[]:Array Value))).push (seqObj "tuple" a.toArray 0)).push (seqObj "list" #[] 0)
theorem Ow{h:Heap}(a:b≠d)(e:h.get? b=some ob):(ed h d xs).get? b=some ob:=
 bL _ (bL _ ((Heap.get?_update_ne _ _ _ _ a).trans e))
def Answers(P:Program) (w:World) (B:Around) (r:Nat->Nat) (a:List Value) (b:Shared):Prop:=
 ∃c,(∀R:SortKind->Shared->Prop,R c b->wpAny (model P w) B (keyKind' a.toArray) R (λ_ _=>False) b) /\
  ∀i j C,i<a.length->j<a.length->C (lt r i j) b->kas_ask P w B c a i j C b
noncomputable def cK(a:List Value) (p:Array Nat):Array Value:=List.toArray (p.toList.map λi=>a.getD i Value.none)
theorem KG{a:List Value}(h:a.length<2):(a.toArray.zip a.toArray).map (·.2)=cK a (List.toArray (List.range a.length)):=by
 unfold cK
 match a,h with
 |[],_=>simp
 |[_],_=>simp[kS]
 |_::_::_,h=>exact absurd h '&'
end Srt
namespace Srt
open PySem.W PyProof.Rows HT
theorem BQ:∀a:List Int,lexLt a a=false
 |[]=>rfl
 |x::a=>by rw[sE,if_pos rfl];exact BQ a
theorem tY:∀{a b c:List Int},lexLt a b=true->lexLt b c=true->lexLt a c=true
 |_,[],[],_,h=>by rw[CN] at h;cases h
 |_,_::_,[],_,h=>by rw[CU] at h;cases h
 |[],[],_::_,h,_=>by rw[CN] at h;cases h
 |_::_,[],_::_,h,_=>by rw[CU] at h;cases h
 |[],_::_,_::_,_,_=>yT _ _
 |x::a,y::b,z::c,h1,h2=>by
  rw[sE] at h1 h2 ⊢;by_cases e1:x=y
  ·rw[if_pos e1] at h1;subst e1;by_cases e2:x=z
   ·rw[if_pos e2] at h2 ⊢;exact tY h1 h2
   ·rw[if_neg e2] at h2 ⊢;exact h2
  ·rw[if_neg e1] at h1;have e:=gX h1;by_cases e2:y=z
   ·subst e2;rw[if_neg e1];exact h1
   ·rw[if_neg e2] at h2;have d:=gX h2;rw[if_neg '!'];exact bH '!'
theorem tL:∀a b:List Int,lexLt a b=true\/a=b\/lexLt b a=true
 |[],[]=>.inr (.inl rfl)
 |[],_::_=>.inl (yT _ _)
 |_::_,[]=>.inr (.inr (yT _ _))
 |x::a,y::b=>by
  rw[sE,sE];by_cases e:x=y
  ·subst e;rw[if_pos rfl,if_pos rfl];rcases tL a b with h|h|h
   ·exact .inl h
   ·exact .inr (.inl (by rw[h]))
   ·exact .inr (.inr h)
  ·rw[if_neg e,if_neg (λz=>e z.symm)];rcases Int.lt_or_gt_of_ne e with h|h
   ·exact .inl (bH h)
   ·exact .inr (.inr (bH h))
theorem Ke{a b:List Int}(h:lexLt a b=true):lexLt b a=false:=by
 cases e:lexLt b a with
 |false=>rfl
 |true=>have:=tY h e;rw[BQ] at this;cases this
theorem MW(a:∀x,p x=true->q x=true):∀{l:List Nat}{y:Nat},y∈l->q y=true->p y=false->l.countP p<l.countP q
 |[],_,h,_,_=>nomatch h
 |x::l,y,h,h1,h2=>by
  have b:∀l:List Nat,l.countP p<=l.countP q:=λl=>List.countP_mono_left λx _=>a x
  rcases ce.mp h with rfl|h
  ·rw[Am h1,LF (by rw[h2];decide)];exact Nat.lt_succ_of_le (b l)
  ·have e:=MW a h h1 h2;by_cases c:p x=true
   ·rw[Am c,Am (a x c)];lia
   ·rw[LF c];by_cases d:q x=true
    ·rw[Am d];lia
    ·rw[LF d];exact e
def fo(a:List (List Int)) (i:Nat):Nat:=(List.range a.length).countP λk=>lexLt (a.getD k []) (a.getD i [])
theorem AV{ks:List (List Int)}(f:i<ks.length)(g:j<ks.length):lt (fo ks) i j=lexLt (ks.getD i []) (ks.getD j []):=by
 have c:∀{a b:Nat},a<ks.length->lexLt (ks.getD a []) (ks.getD b [])=true->fo ks a<fo ks b:=λ{a b} d h=>
  MW (λx k=>tY k h) (gq.mpr d) h (BQ _)
 cases e:lexLt (ks.getD i []) (ks.getD j []) with
 |true=>exact bH (c f e)
 |false=>
  refine bM λh=>?_
  rcases tL (ks.getD i []) (ks.getD j []) with z|z|z
  ·rw[e] at z;cases z
  ·unfold fo at h;rw[z] at h;exact absurd h (nX _)
  ·have:=c g z;lia
section
variable {prog:Program}{w:World}{A:Around}{s:Shared}{b:Bool}{Q:Bool->Shared->Prop}
theorem M7:∀{a c:List Value}{d f:List Int}(i:Nat),IntsAre a d->IntsAre c f->Q (lexLt d f) s->KatLex prog w A b (decide (a.length<c.length)) Q (a.zip c) i s
 |_,_,_,_,_,.nil,.nil,h=>h
 |_,_,_,_,_,.nil,.cons _ _ _,h=>h
 |_,_,_,_,_,.cons _ _ _,.nil,h=>h
 |_,_,_,_,i,.cons x t (vs:=a) (ns:=d) r1,.cons y u (vs:=c) (ns:=f) r2,h=>by
  rw[sE] at h;refine kat_cons (wpAny_eqBool_int (kat_go (λe=>kat_yes ?_) λe=>kat_no ?_))
  ·rw[if_pos (eq_of_beq e)] at h;have q:=M7 (i+1) r1 r2 h;have g:decide ((Value.int x t::a).length<(Value.int y u::c).length)=decide (a.length<c.length):=by
    rw[d5,d5,kR];simp
   rw[g];exact q
  ·rw[if_neg (sQ.mp e)] at h;cases hb:(b&&i==0) with
   |true=>exact oneLt_int h
   |false=>exact kat_one _ _ (PyProof.Rows.lt_int h)
end
end Srt
namespace L2
open Spec PyProof.Rows PySem.W
theorem NW:∀{b:List Addr}{c:List Value},aq (b.map V.ref) c->c=b.map Value.ref
 |[],_,.nil=>rfl
 |a::b,_,.cons r t=>by
  rw[show _=Value.ref a from r,NW t]
  rfl
def rJ(K:Fg) (H:Hp) (a:List (Addr×List Int)):Prop:=∀p∈a,bD K H p.1 (p.2.map V.int)
theorem jW{a b:Type}(f:a->b)(d:b){l:List a}{i:Nat}{x:a}(h:l[i]?=some x):(l.map f).getD i d=f x:=by
 rw[ie,dm,h]
 rfl
end L2
namespace L2
open Spec PyProof.Rows
mutual
inductive kc (K:Fg) (H:Hp):V->PyData->Prop
 |non:kc K H .non .none
 |bl (b:Bool):kc K H (.bl b) (.bool b)
 |int (i:Int):kc K H (.int i) (.int i)
 |str (x:Str):kc K H (.str x) (.str x)
 |lst {a:Addr}{xs:List V}{ds:List PyData}:cp K H a xs->jR K H xs ds->kc K H (.ref a) (.list ds)
 |tup {a:Addr}{xs:List V}{ds:List PyData}:bD K H a xs->jR K H xs ds->kc K H (.ref a) (.tuple ds)
inductive jR (K:Fg) (H:Hp):List V->List PyData->Prop
 |nil:jR K H [] []
 |cons {x:V}{xs:List V}{d:PyData}{ds:List PyData}:kc K H x d->jR K H xs ds->jR K H (x::xs) (d::ds)
end
section
variable {X:Cx}{aW:List (Addr×Obj)}{σ:St}{H:Hp}{s:Shared}
mutual
theorem nv(I:Inv X aW σ H s):∀{v:V}{d:PyData}{u:Value},kc X.K H v d->RelV v u->∃a,Reads s.heap u d a
 |_,_,_,.non,r=>by cases r;exact⟨_,.none⟩
 |_,_,_,.bl b,r=>by cases r;exact⟨_,.bool b⟩
 |_,_,_,.int i,r=>by obtain⟨t,rfl⟩:=r;exact⟨_,.int i t⟩
 |_,_,_,.str x,r=>by obtain⟨t,rfl⟩:=r;exact⟨_,.str x t⟩
 |_,_,_,.lst h all,r=>by
  cases r;obtain⟨f,j,⟨o,n,e,c,_,g⟩,_⟩:=I.list h;obtain⟨a,q⟩:=Cu I all j;exact⟨_,.list e c g q⟩
 |_,_,_,.tup h all,r=>by
  cases r;obtain⟨f,j,⟨o,e,c,n,g⟩,_⟩:=I.tuple h;obtain⟨a,q⟩:=Cu I all j;exact⟨_,.tuple e c g q⟩
theorem Cu(I:Inv X aW σ H s):∀{b:List V}{c:List PyData}{a:List Value},jR X.K H b c->aq b a->∃d,ReadsAll s.heap a c d
 |_,_,_,.nil,.nil=>⟨_,.nil⟩
 |_,_,_,.cons h t,.cons r rs=>by
  obtain⟨d,q⟩:=nv I h r;obtain⟨f,e⟩:=Cu I t rs;exact⟨_,.cons q e⟩
end
end
def rx(K:Fg) (c:Bool):R2:=λx y H Q=>∃b a,kc K H x b/\kc K H y a/\PySem.SeqAt.shaped b=true/\PySem.SeqAt.shaped a=true/\Q (.bl (if c then !PyData.eqv b a else PyData.eqv b a)) H
section
variable {X:Cx}
theorem eN(f:X.A.units+64<cLine):cB X (compareOp .Eq) (rx X.K false):=by
 intro o s m H x y v u Q I e k h;obtain⟨d,b,g,j,a,c,q⟩:=h;obtain⟨n,i⟩:=nv I g e;obtain⟨p,l⟩:=nv I j k;exact eq_dataH i l a c f ⟨.bl (PyData.eqv d b),H,I,rfl,q⟩
theorem oZ(f:X.A.units+64<cLine):cB X (compareOp .NotEq) (rx X.K true):=by
 intro o s m H x y v u Q I e k h;obtain⟨d,b,g,j,a,c,q⟩:=h;obtain⟨n,i⟩:=nv I g e;obtain⟨p,l⟩:=nv I j k;exact ne_dataH i l a c f ⟨.bl (!PyData.eqv d b),H,I,rfl,q⟩
end
noncomputable def dI(a:List Int):List PyData:=a.map PyData.int
def cQ(a:List Int):PyData:=.tuple (dI a)
theorem uI:∀a b:List Int,PyData.eqvAll (dI a) (dI b)=decide (a=b)
 |[],[]=>by rfl
 |[],_::_=>by rfl
 |_::_,[]=>by rfl
 |x::a,y::b=>by
  show(x==y&&PyData.eqvAll (dI a) (dI b))=_;rw[uI a b,kR];simp
theorem MZ(a b:List Int):PyData.eqv (cQ a) (cQ b)=decide (a=b):=uI a b
theorem NE:∀a b:List (List Int),PyData.eqvAll (a.map cQ) (b.map cQ)=decide (a=b)
 |[],[]=>by rfl
 |[],_::_=>by rfl
 |_::_,[]=>by rfl
 |x::a,y::b=>by
  show(PyData.eqv (cQ x) (cQ y)&&PyData.eqvAll (a.map cQ) (b.map cQ))=_;rw[NE a b,MZ,kR];simp
theorem tF:∀a:List Int,PyData.canLayAll0 (dI a)=true/\PyData.depthAll (dI a)=0
 |[]=>⟨rfl,rfl⟩
 |x::a=>by
  obtain⟨c,b⟩:=tF a;refine⟨?_,?_⟩
  ·show(true&&PyData.canLayAll0 (dI a))=true;rw[c];rfl
  ·show max 0 (PyData.depthAll (dI a))=0;rw[b];rfl
theorem Oq(a:List Int):PySem.SeqAt.shaped (cQ a)=true:=by
 obtain⟨c,b⟩:=tF a;show(PyData.canLayAll0 (dI a)&&decide (PyData.depthAll (dI a)+1<=64))=true;rw[c,b];rfl
theorem NF:∀a:List (List Int),PyData.canLayAll0 (a.map cQ)=true/\PyData.depthAll (a.map cQ)<=1
 |[]=>⟨rfl,eJ _⟩
 |x::a=>by
  obtain⟨c,e⟩:=NF a;obtain⟨b,d⟩:=tF x;refine⟨?_,?_⟩
  ·show(PyData.canLayAll0 (dI x)&&PyData.canLayAll0 (a.map cQ))=true;rw[c,b];rfl
  ·show max (PyData.depthAll (dI x)+1) (PyData.depthAll (a.map cQ))<=1;rw[d];lia
theorem ON(a:List (List Int)):PySem.SeqAt.shaped (.tuple (a.map cQ))=true:=by
 obtain⟨b,c⟩:=NF a;show(PyData.canLayAll0 (a.map cQ)&&decide (PyData.depthAll (a.map cQ)+1<=64))=true;rw[b,bH '!'];rfl
theorem On:∀{a:List Bool}{c:List Value},aq (a.map V.bl) c->c=a.map Value.bool
 |[],_,.nil=>rfl
 |b::a,_,.cons r t=>by
  rw[show _=Value.bool b from r,On t]
  rfl
theorem KB(c:List Bool):((List.range c.length).all λi=>c.getD i false)=c.all id:=by
 rw[kR];simp only[dL,gq];constructor
 ·intro h b d;obtain⟨i,a,rfl⟩:=kx d;have:=h i a;rw[ie,bQ a] at this;exact this
 ·intro h i a;rw[ie,bQ a];exact h _ (h8 a)
def xg(K:Fg) (b:Bool):List V->Hp->VK->Prop:=λc H Q=>∃(l:Addr) (a:List Bool),c=[.ref l]/\cp K H l (a.map V.bl)/\Q (.bl (if b then a.all id else a.any id)) H
theorem QP(c:List Bool):TruthOf prog w A (λi v=>(c.map Value.bool).toArray[i]?=some v) (λi=>c.getD i false):=λi v s Q E f d=>by
 have a:(c.map Value.bool)[i]?=some v:=by simpa using f
 rw[dm] at a;cases e:c[i]? with
 |none=>rw[e] at a;cases a
 |some b=>
  rw[e] at a;cases a;dsimp only at d;rw[ie,e] at d;exact pq d
section
variable {X:Cx}
theorem HK(t:X.calm=true){m:List (Addr×Obj)}{q:St}{H:Hp}{s:Shared}{l:Addr}{c:List Bool}{R:Bool->Prop}(I:Inv X m q H s)(y:cp X.K H l (c.map V.bl)){Q:Value->Shared->Prop}{F:(Nat->Bool)->Nat->Bool}
  (u:∀r,Inv X m q H r->Q (.bool (F (λi=>c.getD i false) c.length)) r):
  wpAny (model X.prog X.w) X.A.in1 (pyIter (.ref l)) (λC a=>∃I x p n P St k,C=.ref I/\Walks X.prog X.w X.A.in1 I x p n P St/\St 0 a.heap/\TruthOf X.prog X.w X.A.in1 P k /\
   ∀d g,(∀b o,b∉p->a.heap.get? b=some o->d.get? b=some o)->Q (.bool (F k n)) {a with heap:=d,toks:=g}) X.xe s:=by
 obtain⟨G,w,h,S⟩:=I.list y;have e:=On w;subst e;have f:l<s.heap.objs.size:=by obtain⟨o,n,e,_⟩:=h;exact bR e
 refine zN h.isList ?_;refine⟨s.heap.objs.size,_,[s.heap.objs.size],_,_,_,_,rfl,Walks.list (A:=X.A.in1) (I.ok.hd t) _ l (ef f) (c.map Value.bool).toArray,⟨⟨_,dD _ rfl,rfl,rfl⟩,h.isList.push _⟩,QP c,λd g v=>?_⟩;have J:(c.map Value.bool).toArray.size=c.length:=by simp
 rw[J];refine u _ ?_;refine I.kept (t':=g) λb o e=>v b o ?_ (bL _ e)
 intro z;have E:b=s.heap.objs.size:=by simpa using z
 have j:=bR e;rw[E] at j;exact absurd j (nX _)
theorem p8(b:X.calm=true):bu X (.builtin "all") (xg X.K true):=by
 intro o s g H k j Q I r h;obtain⟨l,a,rfl,f,q⟩:=h;obtain⟨u,rfl,d⟩:=vals1 r;cases d;refine call_all_walk (HK (R:=λ_=>True) b I f (F:=λe n=>(List.range n).all e) λm c=>⟨.bl ((List.range a.length).all λi=>a.getD i false),H,c,rfl,?_⟩);rw[KB];exact q
end
end L2
namespace Dct
open PySem.W PyProof.Rows
noncomputable def kZ(h:Heap) (d:Addr) (b:Array DictEntry) (c:Nat):Prop:=∃a,h.get? d=some a/\a.ExactDict/\a.data=.dict b c
theorem kZ.kept{b:Heap}(x:kZ h d es ep)(k:∀a,h.get? d=some a->b.get? d=some a):kZ b d es ep:=
 let ⟨a,e,r⟩:=x;⟨a,k a e,r⟩
theorem kZ.lt(x:kZ h d es ep):d<h.objs.size:=let ⟨_,e,_⟩:=x;bR e
theorem kZ.is{a:Shared}(x:kZ a.heap d es ep):a.TypeIs (.ref d) "dict":=let ⟨ob,e,c,_⟩:=x; ⟨ob,e,c.1⟩
noncomputable def oF(d:Addr) (n a:Nat):Obj:={ cls:=.type "dict_keyiterator",data:=.fields #[.ref d,.int 0 0,.int n 0,.int a 0] }
theorem Nl{au:Shared}{W:Value->Shared->Prop}(g:(d==sysModules)=false)(x:kZ au.heap d es ep)(a:W (.ref au.heap.objs.size) {au with heap:=au.heap.push (oF d es.size ep)}):wpAny (model P w) B (pyIter (.ref d)) W E au:=by
 obtain⟨h,e,c,f⟩:=id x;have b:=x.is;refine wpAny_pyIter_slot b F.slot_dict_iter (lG F.slot_dict_iter b F.entry_dict_iter ?body (F.args_dict_iter_1 _))
 case body=>
  unfold Builtin.«dict.__iter__» Builtin.Dict.dictSlotNone Builtin.Dict.showsAll;refine am (am (wpAny_notOrdered_dict b (ba ?_)));show wpAny _ _ ((if(d==sysModules)=true then _ else _) >>= _) _ _ au;rw[if_neg (λz=>qY (g.symm.trans z))];refine am (ba (am (K8 e f (am (wpAny_dictEpoch e f (am (lI (ba ⟨_,rfl, "dict_keyiterator",_,⟨_,dD _ rfl,rfl⟩,wO.lookup,?_⟩))))))))
  exact a
theorem Nn{au:Shared}{a:Array DictEntry}{W:Option Value->Shared->Prop}(b:au.heap.IsKeyIter it d k a.size ep)(x:kZ au.heap d a ep)(l:a[k]?=some en)
  (j:∀g:Heap,g.IsKeyIter it d (k+1) a.size ep->Heap.SameBut it au.heap g->W (some en.key) {au with heap:=g}):wpAny (model P w) B (pyNext (.ref it)) W E au:=by
 obtain⟨oi,i,n,h⟩:=id b;obtain⟨p,e,c,m⟩:=id x;have lt:k<a.size:=(wM.mp l).1;unfold pyNext;refine am (wn (wpAny_callSpecial?_slot (name:=Str.ofString "__next__") b.typeIs wO (lG wO b.typeIs F.entry_dict_keyiterator_next ?body (F.args_dict_keyiterator_next_1 _))))
 case body=>
  refine am (ba (am (am (am (Ap b.typeIs (ba (am (wpAny_fieldsOf i h ?_))))))));simp only[show Builtin.Dict_items.ownsTuple "dict_keyiterator"=false from by decide,ku,ite_false]
  show wpAny _ _ (if(Value.ref d==Value.none)=true then _ else _) _ _ au;have o:¬ (Value.ref d==Value.none)=true:=qY;rw[if_neg o];refine am (ba (am (K8 e m ?_)));rw[if_neg '&'];refine am (ba (am (wpAny_dictEpoch e m ?_)));rw[if_neg '&'];refine ba ?_;simp only[show ¬ ((k:Int)<0) from by lia,ite_false,kT,l];refine am (am (Ap b.typeIs (ba (am (wpAny_isOneOf_keyiter b.typeIs ?_)))));show wpAny _ _ (setField (.ref it) 1 (rawInt ((k:Int)+1)) >>= _) _ _ au;refine am (nZ i h '&' ?_);have f:(au.heap.update it (Obj.mapFields (·.setIfInBounds 1 (rawInt ((k:Int)+1))))).IsKeyIter it d (k+1) a.size ep:=
   ⟨_,wI _ i (Ad (om h _)),(Le ..).trans n,by rw[om h];simp[rawInt]⟩
  refine am (nV (am (wpAny_isOneOf_keyiter (s:={au with heap:=au.heap.update it (Obj.mapFields (·.setIfInBounds 1 (rawInt ((k:Int)+1))))}) f.typeIs ?_)));show wpAny _ _ (pure en.key) _ _ _;exact ba (ba ⟨_,rfl,ba (j _ f (wF ..))⟩)
theorem wa{B:Around}{au:Shared}{h:Array DictEntry}{W:Option Value->Shared->Prop}(q:B.handled=none)(f:au.heap.IsKeyIter it d k h.size ep)(x:kZ au.heap d h ep)(p:h.size<=k)
  (i:∀g:Heap,Heap.ExtBut it au.heap g->W none {au with heap:=g}):wpAny (model P w) B (pyNext (.ref it)) W E au:=by
 obtain⟨oi,l,s,j⟩:=id f;obtain⟨r,e,c,n⟩:=id x;unfold pyNext;refine am (wn (wpAny_callSpecial?_slot (name:=Str.ofString "__next__") f.typeIs wO (lG wO f.typeIs F.entry_dict_keyiterator_next ?body (F.args_dict_keyiterator_next_1 _))))
 case body=>
  refine am (ba (am (am (am (Ap f.typeIs (ba (am (wpAny_fieldsOf l j ?_))))))));simp only[show Builtin.Dict_items.ownsTuple "dict_keyiterator"=false from by decide,ku,ite_false]
  show wpAny _ _ (if(Value.ref d==Value.none)=true then _ else _) _ _ au;have o:¬ (Value.ref d==Value.none)=true:=qY;rw[if_neg o];refine am (ba (am (K8 e n ?_)));rw[if_neg '&'];refine am (ba (am (wpAny_dictEpoch e n ?_)));rw[if_neg '&'];refine ba ?_;simp only[show ¬ ((k:Int)<0) from by lia,ite_false,kT,Array.getElem?_eq_none p];refine am (am (Ap f.typeIs (ba ?_)));show wpAny _ _ (setField (.ref it) 0 .none >>= _) _ _ au;refine am (nZ l j '&' ?_);show wpAny _ _ (newExc (.type "StopIteration") [] >>= _) _ _ _
  refine am ?_;simp only[newExc,newTuple];refine am (lI (am (m:=firstArgMember _ _) (wpAny_of_eq (a:=Value.none) (by first|rfl|(simp only[firstArgMember];rfl)) (lI ?_ (by size_fits)))) (by size_fits));simp only[raiseNew];refine am (wpAny_handled ?_);rw[show B.in1.handled=none from q];refine am (ba (wpAny_throw ?_));refine am (wpAny_isInstance (T:="StopIteration") (b:=true) ?_ isSubtype_stop (ba (i _ (((wF ..).extBut.push _).push _))))
  exact⟨_,dD _ rfl,rfl⟩
theorem KC{B:Around}(y:B.handled=none)(s:d≠it)(f:Array DictEntry)(m:Nat):
  Walks P w B it [it,d] [it] f.size (λi v=>∃n,f[i]?=some n/\v=n.key) (λi h=>h.IsKeyIter it d i f.size m/\kZ h d f m) where
 sub:=λb u=>ce.mpr (.inl (bX.mp u))
 frame:=λ_ _ _ z p=>⟨z.1.at λo e=>p it f6 o e,z.2.kept λo e=>p d (gZ _ (bX.mpr rfl)) o e⟩
 item:=λi l t A x z j=>by
  have r:f[i]?=some f[i]:=LJ x;exact Nn z.1 z.2 r λg a b=>j f[i].key g l.toks ⟨_,r,rfl⟩ ⟨a,z.2.kept λo e=>b.extBut d o s e⟩ λc o k e=>b.extBut c o (λq=>k (bX.mpr q)) e
 done:=λl t A z j=>wa y z.1 z.2 (bi _) λg b=>j g l.toks λc o k e=>b c o (λq=>k (bX.mpr q)) e
 self:=λ_ _ _ _ z j=>wpAny_pyIter_keyiter z.1 j
theorem Hn(j:(d==sysModules)=false)(a:Array DictEntry)(c:Nat):KdlSrc P w "dict" d d a.size (λi v=>∃ f,a[i]?=some f/\v=f.key) (λh=>kZ h d a c) where
 type:=λ_ x=>x.is
 there:=λ_ x=>⟨x.lt,x.lt⟩
 keep:=λ_ _ x g=>x.kept λo e=>g d (.inl rfl) o e
 notList:=by decide
 notTuple:=by decide
 hint:=λ_ _ _ _ x b=>kdl_hint_dict x.is b
 iter:=λ_ l k x=>⟨_,_,λ_ _ b=>Nl j x b,KC k (ef x.lt) a c,⟨⟨_,dD _ rfl,rfl,rfl⟩,x.kept λo e=>bL _ e⟩⟩
end Dct
namespace Srt
open PySem.W PyProof.Rows
end Srt
namespace L2
open Spec PyProof.Rows
theorem aE.ob(x:aE P w H h a o):∃ob,h.get? a=some ob:=by
 cases o with
 |lst xs=>obtain⟨_,_,_,_,e⟩:=x;exact⟨_,e⟩
 |tup xs=>obtain⟨_,_,_,ob,e,_⟩:=x;exact⟨_,e⟩
 |dK kvs=>obtain⟨_,_,_,_,ob,_,_,e,_⟩:=x;exact⟨_,e⟩
 |dT kvs=>obtain⟨_,_,_,_,ob,_,_,e,_⟩:=x;exact⟨_,e⟩
 |set S n=>obtain⟨ob,_,_,_,e,_⟩:=x;exact⟨_,e⟩
 |ins C dx fs=>obtain⟨_,_,_,e,_⟩:=x;exact⟨_,e⟩
 |own y=>obtain⟨_,e⟩:=x;exact⟨_,e⟩
 |xd fs=>obtain⟨_,⟨_,_,_,e,_⟩,_⟩:=x;exact⟨_,e⟩
 |rng lo hi=>obtain⟨_,_,_,e⟩:=x;exact⟨_,e⟩
 |frz ob u=>obtain⟨e,_⟩:=x;exact⟨_,e⟩
 |tbl ps=>exact⟨_,(show h.get? a=some _ from x)⟩
 |met f y=>exact⟨_,(show h.get? a=some _ from x)⟩
 |ext φ=>obtain⟨_,⟨_,e⟩,_⟩:=x;exact⟨_,e⟩
theorem Inv.away(I:Inv X aW σ H s) (c:∀b a,s.heap.get? b=some a->b≠q):H q=none:=by
 cases e:H q with
 |none=>rfl
 |some o=>
  obtain⟨a,z⟩:=(I.hok q o e).ob;exact absurd rfl (c q a z)
theorem Inv.laidN{g:Heap}(I:Inv X aW σ H s)(k:∀b u,s.heap.get? b=some u->g.get? b=some u)(f:∀b h,s.heap.get? b=some h->b≠q)(d:aE X.prog X.w (aD H q o) g q o):
  Inv X aW σ (aD H q o) {s with heap:=g,toks:=t'}:=by
 have j:=I.away f;have a:∀{b:Addr}{u:HO},H b=some u->aD H q o b=some u:=λ{b u} e=>by rw[ca (zx e j)];exact e
 refine I.un ⟨λb u e _ _ _=>k b u e,λb u e _ _ _=>⟨u.slots,k b u e⟩,λb u e n _=>by rw[ca (f b u e)];exact n,λb u e _=>⟨u,k b u e⟩,λb i e=>a e,λb h u e=>a e,λb l e=>⟨#[],by rw[a e];simp⟩⟩ λb u e=>?_
 by_cases hb:b=q
 ·subst hb;rw[fh] at e;cases e;exact d
 ·rw[ca hb] at e;exact(I.hok b u e).stay (λc v _ z=>k c v z) (λc z=>a z) λc i z=>a z
theorem vQ(a:List Int):(a.map (Sum.inl:Int->cN)).map kV=a.map V.int:=by rw[hZ];rfl
theorem N5{P:Program}{w:World}{H:Hp}{a:List (List cN×V)}:∀{c:List (List Int)}{f:List (List cN×Addr×Value)},
  Paired (λ(p:List cN×V) (q:List cN×Addr×Value)=>p.1=q.1/\H q.2.1=some (.tup (p.1.map kV))/\RelV p.2 q.2.2) a f->a.map (·.1)=c.map (λh=>h.map Sum.inl) ->
   ∃d:List (Addr×List Int),d.map (·.2)=c/\(∀p∈d,H p.1=some (.tup (p.2.map V.int)))/\f.map (λq=>(entryOfKey (tupleKind (br P w)) q).key)=d.map λp=>Value.ref p.1:=by
 induction a with
 |nil=>
  intro c f r e;cases r;cases c with
  |nil=>exact⟨[],rfl,λp g=>(nomatch g),rfl⟩
  |cons x c=>cases e
 |cons kv a ih=>
  intro c f r e;cases r with
  |cons r rs=>
   cases c with
   |nil=>cases e
   |cons h c=>
    rw[dr,dr] at e;injection e with k m
    obtain⟨d,l,n,j⟩:=ih rs m;rename_i b _;obtain⟨s,i,o⟩:=r;refine⟨(b.2.1,h)::d,by rw[dr,l],λp g=>?_,by rw[dr,dr,j];rfl⟩;rcases ce.mp g with z|z
    ·subst z;rw[k,vQ] at i;exact i
    ·exact n p z
open PySem.W in
theorem HJ{sg:Shared}{a:List (Addr×List Int)}(h2:2<=a.length)
  (b:∀(i:Nat) (p:Addr×List Int),a[i]?=some p->∃(m:List Value) (o:Obj) (n:Nat),IntsAre m p.2/\sg.heap.get? p.1=some o/\o.cls=.type "tuple"/\o.data=.seq m.toArray n/\p.2≠[]):
  Srt.Answers P w B (Srt.fo (a.map (·.2))) (a.map λp=>Value.ref p.1) sg:=by
 refine⟨tuples' true,λR hq=>?_,λi j C e A I=>?_⟩
 ·have X:∀(l:List (Addr×List Int)),(∀p∈l,∃i:Nat,a[i]?=some p)->∃c:List Value,KatTups sg.heap (l.map λp=>Value.ref p.1) c/\c.length=l.length/\∀v∈c,∃i t,v=Value.int i t:=λl=>by
   induction l with
   |nil=>intro _;exact⟨[],KatTups.nil,rfl,λv d=>(nomatch d)⟩
   |cons p l ih=>
    intro k;obtain⟨c,G,J,y⟩:=ih λp' s=>k p' (gZ _ s)
    obtain⟨i,e⟩:=k p f6;obtain⟨m,o,n,f,g,E,h,H⟩:=b i p e;obtain⟨pa,pn⟩:=p;dsimp only at f g E h H;cases f with
    |nil=>exact absurd rfl H
    |cons x t r=>exact⟨Value.int x t::c,KatTups.cons g E h rfl G,by rw[d5,d5,J],λv d=>(ce.mp d).elim (λz=>⟨x,t,z⟩) (y v)⟩
  obtain⟨c,G,J,y⟩:=X a λp k=>List.mem_iff_getElem?.mp k
  exact kat_kind (T:=.type "int") G '!' (λv d=>by
   obtain⟨i,t,rfl⟩:=y v d
   exact Looks.of_pure rfl) rfl hq
 ·rw[ax] at e A;have q:a[i]?=some a[i]:=bQ e;have u:a[j]?=some a[j]:=bQ A;obtain⟨m,o,n,f,g,E,h,H⟩:=b i _ q;obtain⟨U,o2,n2,Q,S,c3,Y,c5⟩:=b j _ u;unfold kas_ask;rw[jW (λp:Addr×List Int=>Value.ref p.1) _ q,jW (λp:Addr×List Int=>Value.ref p.1) _ u];refine kat_lt g h S Y (Srt.M7 0 f Q ?_);rw[Srt.AV (by rw[ax];exact e) (by rw[ax];exact A),jW (λp:Addr×List Int=>p.2) _ q,jW (λp:Addr×List Int=>p.2) _ u] at I;exact I
theorem Nf{ps:List (Addr×List Int)}{p:Array Nat}(l:p.Perm (List.toArray (List.range ps.length)))(Q:Srt.Up (Srt.fo (ps.map (·.2))) p ps.length):
  ∃m:List (Addr×List Int),m.Perm ps/\(m.map (·.2)).Pairwise (λx y=>HT.lexLt y x=false)/\Srt.cK (ps.map λp=>Value.ref p.1) p=(m.map λp=>Value.ref p.1).toArray:=by
 have H:p.size=ps.length:=by rw[l.size_eq];simp
 have n:∀i∈p.toList,i<ps.length:=λi b=>by
  have I:=(l.mem_iff (a:=i)).mp (by rw[←Array.mem_toList_iff];exact b);exact gq.mp (List.mem_toArray.mp I)
 refine⟨p.toList.map λi=>ps.getD i (0,[]),?_,?_,?_⟩
 ·have P:p.toList.Perm (List.range ps.length):=by
   have:=wL.mp l
   simpa using this
  have A:=P.map λi=>ps.getD i (0,[])
  have J:((List.range ps.length).map λi=>ps.getD i (0,[]))=ps:=by
   apply List.ext_getElem
   ·simp
   ·intro i R G;simp[ie,G]
  rw[J] at A;exact A
 ·rw[hZ,Ao];intro i j b d o;rw[List.getElem_map,List.getElem_map];rw[ax] at b d;have C:i<p.size:=by simpa using b
  have E:j<p.size:=by simpa using d
  have u:=Q i j (cX o) '!';have g:∀k,(c:k<p.toList.length)->p.getD k 0=p.toList[k]:=λk c=>by
   have q:k<p.size:=by simpa using c
   rw[Array.getD_eq_getD_getElem?,LJ q];simp
  have s:=n _ (h8 b);have w:=n _ (h8 d);have h:=Srt.AV (ks:=ps.map (·.2)) (i:=p.toList[j]) (j:=p.toList[i]) (by rw[ax];exact w) (by rw[ax];exact s);have f:Srt.lt (Srt.fo (ps.map (·.2))) p.toList[j] p.toList[i]=false:=by
   refine bM λz=>?_
   unfold Srt.At at u;rw[g i b,g j d] at u;lia
  rw[f] at h;have v:∀k,k<ps.length->(ps.map (·.2)).getD k []=(ps.getD k (0,[])).2:=λk c=>by
   have t:ps[k]?=some ps[k]:=bQ c;rw[jW (λp:Addr×List Int=>p.2) _ t,ie,t]
   rfl
  rw[v _ w,v _ s] at h;exact h.symm
 ·unfold Srt.cK;rw[hZ]
  congr 1
  refine zX λi b=>?_
  have e:=n i b;have r:ps[i]?=some ps[i]:=bQ e;rw[jW (λp:Addr×List Int=>Value.ref p.1) _ r];show _=Value.ref (ps.getD i (0,[])).1;rw[ie,r]
  rfl
theorem Inv.freeze(I:Inv X aW σ H s)(h:H a=some (.dT kvs))(e:s.heap.get? a=some ob):Inv X aW σ (aD H a (.frz ob (.dT kvs))) s:=by
 have d:∀{b:Addr}{u:HO},H b=some u->(∀l,u≠.dT l)->aD H a (.frz ob (.dT kvs)) b=some u:=λ{b u} q n=>by
  rw[ca (by rintro rfl;rw[h] at q;cases q;exact n _ rfl)];exact q
 have z:=I.un (h':=s.heap) (t':=s.toks) (H':=aD H a (.frz ob (.dT kvs))) ⟨λb u q _ _ _=>q,λb u q _ _ _=>⟨u.slots,q⟩,λb u q n _=>by
   rw[ca (by rintro rfl;rw[h] at n;cases n)];exact n,λb u q _=>⟨u,q⟩,λb f q=>d q (λl z=>by cases z),λb o u q=>d q (λl z=>by cases z),λb g q=>⟨#[],by rw[d q (λl z=>by cases z)];simp⟩⟩ (λb u q=>by
   by_cases hb:b=a
   ·subst hb;rw[fh] at q;cases q;exact⟨e,(I.hok b _ h).stay (λc v _ r=>r) (λc r=>d r (λl z=>by cases z)) λc f r=>d r (λl z=>by cases z)⟩
   ·rw[ca hb] at q
    exact(I.hok b u q).stay (λc v _ r=>r) (λc r=>d r (λl z=>by cases z)) λc f r=>d r (λl z=>by cases z))
 exact z
def PY(a:Addr) (d:Obj) (b:List (List cN×V)) (c:List (Addr×List Int)):It:=
 ⟨λi H=>i<c.length/\H a=some (.frz d (.dT b)),λi H x e=>e=H/\∃p,c[i]?=some p/\x=.ref p.1,λi H=>c.length<=i/\H a=some (.frz d (.dT b))⟩
theorem KH{P:Program}{w:World}{K:Fg}{tg:Expr}{a it:Addr}{t:Obj}{n:List (List cN×V)}{f:List (Addr×List Int)}{m:Array DictEntry}{ep:Nat}(ex:t.ExactDict)(dt:t.data=.dict m ep)
  (T:m.toList.map (·.key)=f.map λp=>Value.ref p.1):iK P w K tg (PY a t n f) [it] it (λi h=>h.IsKeyIter it a i m.size ep) where
 mem:=bX.mpr rfl
 obj:=λi h j b r=>by
  have e:b=it:=bX.mp r;subst e;obtain⟨o,e,c,d⟩:=j;exact⟨o,e,λv z=>by rw[d] at z;cases z⟩
 keep:=λi h h' j k=>j.at λo e=>k it (bX.mpr rfl) o e
 item:=by
  intro Y J hw S hc i aW s σ H E I C j U;subst J hw S;obtain⟨hi,X⟩:=U;have a0:m.size=f.length:=by
   have:=congrArg List.length T
   rwa [ax,ax,gL] at this
  obtain⟨eo,_⟩:=(show aE Y.prog Y.w H s.heap a (.frz t (.dT n)) from I.hok a _ X)
  obtain⟨R,f1,f2,f3,G,Q⟩:=C it (bX.mpr rfl);have x:m[i]?=some m[i]:=LJ '!';have y:f[i]?=some f[i]:=bQ hi;have A:m[i].key=Value.ref f[i].1:=by
   have q:=congrArg (λl=>l[i]?) T;simp only[dm,gj,x,y] at q;exact eg q
  refine Dct.Nn j ⟨t,eo,ex,dt⟩ x λg u sb=>?_
  have I1:Inv Y aW σ H {s with heap:=g}:=I.turned (t':=s.toks) (λb o r e=>sb.extBut b o r e) R f1 f3 G Q;obtain⟨o,e,c,d⟩:=id u;exact⟨_,rfl,lm (s:={s with heap:=g}) e c d '"' ⟨.ref f[i].1,H,I1,A,⟨rfl,f[i],y,rfl⟩,u,λb r=>(C b r).1⟩⟩
 done:=by
  intro Y J hw S hc i aW s σ H E I C j U;subst J hw S;obtain⟨hi,X⟩:=U;have a0:m.size=f.length:=by
   have:=congrArg List.length T
   rwa [ax,ax,gL] at this
  obtain⟨eo,_⟩:=(show aE Y.prog Y.w H s.heap a (.frz t (.dT n)) from I.hok a _ X)
  obtain⟨R,f1,f2,f3,G,Q⟩:=C it (bX.mpr rfl);exact Dct.wa (I.ok.hd hc) j ⟨t,eo,ex,dt⟩ '!' λg eb=>⟨rfl,I.turned (t':=s.toks) (λb o r e=>eb b o r e) R f1 f3 G Q⟩
 self:=λ_ _ _ _ _ j h=>wpAny_pyIter_keyiter j h
def Mq(g:TE):TI:=λf H R=>g f H λx H1=>∃(a:Addr) (b:List (List cN×V)) (d:List (List Int)),x=.ref a/\H1 a=some (.dT b)/\b.map (·.1)=d.map (λh=>h.map Sum.inl) /\
 ∀(e:Obj) (c:List (Addr×List Int)),c.map (·.2)=d->(∀p∈c,H1 p.1=some (.tup (p.2.map V.int)))->R (PY a e b c) (aD H1 a (.frz e (.dT b)))
theorem Hd{X:Cx}{J l:Expr}{m:TE}(hl:PE X l m):PI X J l (Mq m):=by
 intro C s T H R I h;refine bp (hl C s T H _ I h) λv c f=>?_
 obtain⟨x,H1,t,U,Y⟩:=f;obtain⟨a,g,ks,rfl,k,Q,q⟩:=Y;cases U;obtain⟨z,ns,ys,i,r,es,ep,y,A,u,e4,e5⟩:=(show aE X.prog X.w H1 c.heap a (.dT g) from t.hok a _ k)
 obtain⟨n,E,G,a3⟩:=N5 (P:=X.prog) (w:=X.w) i Q;have d:es.toList.map (·.key)=n.map λp=>Value.ref p.1:=by rw[e4,hZ];exact a3
 refine Dct.Nl ns ⟨r,y,A,u⟩ ?_;have j:=t.freeze k y;refine⟨c.heap.objs.size,[c.heap.objs.size],_,_,_,rfl,j.kept (t':=c.toks) λb o e=>bL _ e,KH A u d,⟨_,dD _ rfl,rfl,rfl⟩,λb S=>?_,q r n E G⟩;have e:b=c.heap.objs.size:=bX.mp S;subst e;exact j.fpOk (bi _) (j.hok.fresh (bi _))
end L2
namespace L2
open Spec PyProof.Rows PySem.W
noncomputable def fB(g:Heap) (b:List (Addr×List Int)):Prop:=∀ p∈b,∃(a:List Value) (o:Obj) (n:Nat),IntsAre a p.2/\g.get? p.1=some o/\o.cls=.type "tuple"/\o.data=.seq a.toArray n
theorem NG{b:Shared}:∀{ps:List (Addr×List Int)},fB b.heap ps->∃a:List (Option Value),a.map Option.isSome=ps.map (λp=>!p.2.isEmpty)/\∀(W:List (Option Value)->Shared->Prop),W a b->wpAny (model P w) B ((ps.map λp=>Value.ref p.1).mapM firstOfTuple') W E b
 |[],_=>⟨[],rfl,λW h=>by rw[zC,List.mapM_nil];exact ba h⟩
 |p::ps,h=>by
  obtain⟨a,k,m⟩:=NG (ps:=ps) λq g=>h q (gZ _ g)
  obtain⟨f,o,n,c,d,i,j⟩:=h p f6;refine⟨f.toArray[0]?::a,?_,λW e=>?_⟩
  ·rw[dr,dr,k]
   congr 1
   obtain⟨u,s⟩:=p;dsimp only at c ⊢;cases c with
   |nil=>rfl
   |cons x t r=>rfl
  ·rw[dr,List.mapM_cons];have l:Looks (model P w) b.heap (typeOf (.ref p.1)) o.cls:=(Looks.ld d).andThen .now;refine am ?_;rw[kas_first_eq];refine am (Looks.here l ?_);rw[i,if_neg (by first|decide|simp)];exact am (listItems_at d j (ba (am (m _ (ba e)))))
theorem Qe(x y:Value):keyLt' general' x y=oneLt' false x y:=rfl
theorem HM{B:Around}{sg:Shared}(k:κ=general'\/κ=oneType')(t:B.units<cLine) (G:fB sg.heap [a])(A:fB sg.heap [b]) (q:C (HT.lexLt a.2 b.2) sg):
  wpAny (model P w) B (keyLt' κ (.ref a.1) (.ref b.1)) C E sg:=by
 obtain⟨u,o,n,l,d,e,g⟩:=G a f6;obtain⟨c,m,p,x,s,f,h⟩:=A b f6;rcases k with rfl|rfl
 ·rw[Qe];exact kat_one _ _ (HT.Oc (items:=u.toArray) (items2:=c.toArray) ⟨o,d,e,n,g⟩ ⟨m,s,f,p,h⟩ l x t q)
 ·rw[keyLt'_oneType,oneLt'_eq];simp only[ite_true];refine am (wpAny_cRoomFor t (am (wpAny_callSpecialIfBound?_slot (T:="tuple") ⟨o,d,e⟩ Ly ?_)))
  obtain⟨y,H,r,z⟩:=o;obtain⟨v,j,data2,i⟩:=m;dsimp only at e g f h;subst e g f h;exact mO Ly ⟨_,d,rfl⟩ F.entry_tuple_lt (F.args_tuple_lt_2 _ _) (HT.O7 a.1 b.1 u.toArray c.toArray n p H j z i a.2 b.2 l x) ⟨d,s,pq q⟩
theorem HI{B:Around}{sg:Shared}(hu:B.units<cLine)(c:fB sg.heap a)(h:∃p∈a,p.2=[]):Srt.Answers P w B (Srt.fo (a.map (·.2))) (a.map λp=>Value.ref p.1) sg:=by
 obtain⟨A,f1,X⟩:=NG (P:=P) (w:=w) (B:=B) (E:=λ_ _=>False) c;have b:¬ (A.toArray.all λx=>x.isSome)=true:=λz=>by
  have z':A.all (λx=>x.isSome)=true:=by simpa using z
  obtain⟨p,l,he⟩:=h;have m:(!p.2.isEmpty)∈A.map Option.isSome:=by rw[f1];exact List.mem_map_of_mem (f:=λp:Addr×List Int=>!p.2.isEmpty) l
  obtain⟨o,ho,e⟩:=de.mp m;have:=dL.mp z' o ho;rw[e,he] at this;cases this
 have s:∀{G:SortKind},G=general'\/G=oneType'->∀i j C,i<(a.map λp=>Value.ref p.1).length->j<(a.map λp=>Value.ref p.1).length->C (Srt.lt (Srt.fo (a.map (·.2))) i j) sg->kas_ask P w B G (a.map λp=>Value.ref p.1) i j C sg:=λ{G} I i j C u y U=>by
  rw[ax] at u y;have J:a[i]?=some a[i]:=bQ u;have S:a[j]?=some a[j]:=bQ y;unfold kas_ask;rw[jW (λp:Addr×List Int=>Value.ref p.1) _ J,jW (λp:Addr×List Int=>Value.ref p.1) _ S];rw[Srt.AV (by rw[ax];exact u) (by rw[ax];exact y),jW (λp:Addr×List Int=>p.2) _ J,jW (λp:Addr×List Int=>p.2) _ S] at U;have t:∀k,(T:k<a.length)->fB sg.heap [a[k]]:=λk T q hq=>by
   rw[bX.mp hq];exact c _ (h8 T)
  exact HM I hu (t i u) (t j y) U
 by_cases fst:(A.toArray[0]?.bind id).isSome=true
 ·refine⟨general',λR H=>?_,s (.inl rfl)⟩;rw[kat_kind_eq,Ld,K3];refine am (am (X _ (ba ?_)));rw[if_neg b,if_pos fst];exact ba H
 ·refine⟨oneType',λR H=>?_,s (.inr rfl)⟩;rw[kat_kind_eq,Ld,K3];refine am (am (X _ (ba ?_)));rw[if_neg b,if_neg fst,oneTypeOnly'_eq,Ld,K3];have ty:∀ v∈(a.map λp=>Value.ref p.1),∀ W:Value->Shared->Prop,W (.type "tuple") sg->wpAny (model P w) B (typeOf v) W (λ_ _=>False) sg:=λv Y W hW=>by
   obtain⟨p,l,rfl⟩:=de.mp Y;obtain⟨us,o,n,a1,a2,a3,a4⟩:=c p l;have Q:Looks (model P w) sg.heap (typeOf (.ref p.1)) o.cls:=(Looks.ld a2).andThen .now;rw[a3] at Q;exact Q.here hW
  refine am (am (am (kas_mapM (r:=Value.type "tuple") _ ty (ba ?_))))
  obtain⟨p,l,_⟩:=h;obtain⟨d,rest,rfl⟩:∃d rest,a=d::rest:=by
   cases a with
   |nil=>exact nomatch l
   |cons d rest=>exact⟨d,rest,rfl⟩
  have all:((List.map (λ_=>Value.type "tuple") ((d::rest).map λp=>Value.ref p.1)).toArray.all λx=>x==Value.type "tuple")=true:=by
   rw[List.all_toArray,dL];intro x hx;obtain⟨_,_,rfl⟩:=de.mp hx
   rfl
  have g:(List.map (λ_=>Value.type "tuple") ((d::rest).map λp=>Value.ref p.1)).toArray[0]?=some (Value.type "tuple"):=by simp
  rw[g];simp only[all,ite_true];exact ba (ba H)
theorem vr{B:Around}{sg:Shared}{a:List (Addr×List Int)}(k:B.units<cLine)(g:2<=a.length)(b:fB sg.heap a):Srt.Answers P w B (Srt.fo (a.map (·.2))) (a.map λp=>Value.ref p.1) sg:=by
 by_cases c:∃p∈a,p.2=[]
 ·exact HI k b c
 ·refine HJ g λi p j=>?_
  have d:=fj j;obtain⟨e,o,n,l,m,f,h⟩:=b p d;exact⟨e,o,n,l,m,f,h,λz=>c ⟨p,d,z⟩⟩
theorem O2(z:List (Addr×List Int)):aq (z.map λp=>V.ref p.1) (z.map λp=>Value.ref p.1):=by
 induction z with
 |nil=>exact .nil
 |cons x z ih=>exact .cons rfl ih
end L2
namespace TS
open PyProof.Rows
noncomputable def kA(R:Keyed->Nat) (a:Array Keyed) (i:Nat):Nat:=match a[i]? with
 |some p=>R p
 |none=>0
theorem nu{R:Keyed->Nat}(h:xs[i]?=ys[j]?):kA R xs i=kA R ys j:=by unfold kA;rw[h]
theorem iO{R:Keyed->Nat}(h:xs[i]?=some x):kA R xs i=R x:=by unfold kA;rw[h]
def eF(R:Keyed->Nat) (c:Array Keyed) (a b:Nat):Prop:=∀i j,a<=i->i<=j->j<b->kA R c i<=kA R c j
def rT(R:Keyed->Nat) (c:Array Keyed) (a b:Nat):Prop:=∀i j,a<=i->i<=j->j<b->kA R c j<=kA R c i
noncomputable def kb(b:Program) (w:World) (A:Around) (s:Shared) (c:SortKind) (a:Array Keyed) (R:Keyed->Nat):Prop:=
 ∀x,x∈a.toList->∀y,y∈a.toList->∀(C:Bool->Shared->Prop),C (decide (R x<R y)) s->wpAny (model b w) A (keyLt' c x.1 y.1) C (λ_ _=>False) s
structure B (κ:SortKind) (a₀:Array Keyed) (au:SortSt):Prop where
 perm:(arrOf au).Perm a₀
 kind:kindOf au=κ
 failed:failedOf au=none
section
variable {κ:SortKind}{a₀:Array Keyed}
theorem B.size{a:SortSt}(h:B κ a₀ a):(arrOf a).size=a₀.size:=h.perm.size_eq
theorem B.set{a:SortSt}(h:B κ a₀ a){b:Array Keyed}(c:b.Perm (arrOf a)):B κ a₀ (setArr a b):=⟨c.trans h.perm,h.kind,h.failed⟩
theorem B.mem{a:SortSt}(h:B κ a₀ a){i:Nat}(c:i<a₀.size):∃x,(arrOf a)[i]?=some x/\x∈a₀.toList:=by
 have b:i<(arrOf a).size:=by rw[h.size];exact c
 exact⟨_,getElem?_pos _ i b,(wL.mp h.perm).mem_iff.mp '&'⟩
end
section
variable {prog:Program}{w:World}{A:Around}{E:Value->Shared->Prop}{s:Shared}{κ:SortKind}{a₀:Array Keyed}{R:Keyed->Nat}
theorem w_lt{x y:Keyed}{au:SortSt}{Q:Option Bool->SortSt->Prop}(O:kb prog w A s κ a₀ R)(c:kindOf au=κ)(e:x∈a₀.toList)(g:y∈a₀.toList)(h:Q (some (decide (R x<R y))) au):wpS (model prog w) A E s (lt' x y) Q au:=by
 rw[lt'_eq];refine aZ (kr ?_);rw[c];refine aZ (pd (wn (hX (O x e y g (λb a=>a=s/\b=decide (R x<R y)) ⟨rfl,rfl⟩) (λb a d=>?_) λ_ _ f=>f.elim)));obtain⟨rfl,rfl⟩:=d;exact⟨rfl,bn h⟩
end
section
variable {prog:Program}{w:World}{A:Around}{E:Value->Shared->Prop}{s:Shared}
theorem o0{a:Array Keyed}{i:Nat}{x:Keyed}{au:SortSt}{Q:Keyed->SortSt->Prop}(e:a[i]?=some x)(h:Q x au):wpS (model prog w) A E s (elem' a i) Q au:=by
 rw[elem'_eq,e];exact bn h
end
section
variable {prog:Program}{w:World}{A:Around}{E:Value->Shared->Prop}{s:Shared}{κ:SortKind}{a₀:Array Keyed}{R:Keyed->Nat}
theorem pX{i j:Nat}{au:SortSt}{Q:Option Bool->SortSt->Prop}(O:kb prog w A s κ a₀ R)(b:B κ a₀ au)(e:i<a₀.size)(f:j<a₀.size)(h:Q (some (decide (kA R (arrOf au) i<kA R (arrOf au) j))) au):wpS (model prog w) A E s (ltAt' i j) Q au:=by
 obtain⟨x,a,d⟩:=b.mem e;obtain⟨y,c,g⟩:=b.mem f;rw[iO a,iO c] at h;rw[ltAt'_eq];exact aZ (kr (aZ (o0 a (aZ (o0 c (w_lt O b.kind d g h))))))
end
section
variable {prog:Program}{w:World}{A:Around}{E:Value->Shared->Prop}{s:Shared}
theorem ix{i j:Nat}{au:SortSt}{Q:Unit->SortSt->Prop}(h:Q () (setArr au (mirror (arrOf au) i j ((j-i)/2)))):wpS (model prog w) A E s (reverseSlice' i j) Q au:=by
 rw[reverseSlice'_eq];exact lB h
theorem FW{i j:Nat}{au:SortSt}{Q:Unit->SortSt->Prop}(h:Q () (setArr au (bubble (arrOf au) i (i-j)))):wpS (model prog w) A E s (moveDown' i j) Q au:=by
 rw[moveDown'_eq];exact lB h
end
theorem kl{lo x n N:Nat}(h:x<n)(a:lo+n<=N):lo+x<N:=cD (mT h lo) a
theorem km{lo x n N:Nat}(h:x<n)(a:lo+n<=N):lo+x-1<N:=jw (lC _ _) (kl h a)
theorem AJ{lo n:Nat}(h:1<=n):lo+n-1<lo+n:=nU (cD h (K1 _ _)) Nat.one_pos
theorem nG{j lo n:Nat}(h:j<lo+(n+1))(e:¬j=lo+n):j<lo+n:=jE (ju h) e
theorem uW(a:k<j):i<=i+j-1-k:=Nat.le_sub_of_add_le (ky (mT a i))
theorem uV(a:i<=k)(b:k<j):i+j-1-k<j:=jw (wE a _) (by rw[Nat.sub_right_comm,kW];exact nU (zS b) Nat.one_pos)
theorem BJ{R:Keyed->Nat}{a:Array Keyed}(b:j<=a.size)(k:Nat):kA R (mirror a i j ((j-i)/2)) k=if i<=k/\k<j then kA R a (i+j-1-k) else kA R a k:=by
 have e:=getElem?_mirror_all (i:=i) b k;split
 ·rename_i c;rw[if_pos c] at e;exact nu e
 ·rename_i c;rw[if_neg c] at e;exact nu e
noncomputable def cV(c d:Array Keyed) (a b:Nat):Prop:=∀k,k<a\/b<=k->c[k]?=d[k]?
theorem cV.refl(c:Array Keyed)(a b:Nat):cV c c a b:=λ_ _=>rfl
theorem cV.trans(e:cV xs ys a b)(d:cV ys zs a b):cV xs zs a b:=λk c=>(e k c).trans (d k c)
theorem cV.mirror{c:Array Keyed}(f:j<=c.size)(e:a<=i)(g:j<=b):cV (mirror c i j ((j-i)/2)) c a b:=λk d=>by
 rw[getElem?_mirror_all (i:=i) f k,if_neg λz=>d.elim (λh=>lH (aT e z.1) h) λh=>lH (aT g h) z.2]
theorem cV.bubble{c:Array Keyed}(j:src<c.size)(i:d<=src)(e:a<=src-d)(g:src<b):cV (bubble c src d) c a b:=λk f=>by
 rw[getElem?_bubble j d i k,if_neg λz=>f.elim (λh=>lH (aT e (gV z.symm)) h) λh=>lH h (jw (aT (gV z) (lC _ _)) g),if_neg λz=>f.elim (λh=>lH (aT e (cX z.1)) h) λh=>lH h (jw z.2 g)]
structure Sm (au st':SortSt) (a b:Nat):Prop where
 out:cV (arrOf st') (arrOf au) a b
 pend:pendingOf st'=pendingOf au
section
variable {prog:Program}{w:World}{A:Around}{E:Value->Shared->Prop}{s:Shared}{κ:SortKind}{a₀:Array Keyed}{R:Keyed->Nat}
theorem lw{lo a d:Nat}{au:SortSt}{Q:Option (Option Nat)×Nat->SortSt->Prop}(O:kb prog w A s κ a₀ R)(b:B κ a₀ au)(q:lo+d<=a₀.size)(t:1<=a)(l:a<=d)(u:eF R (arrOf au) lo (lo+a))
  (h:∀n,a<=n->n<=d->eF R (arrOf au) lo (lo+n)->(n=d\/kA R (arrOf au) (lo+n)<kA R (arrOf au) (lo+n-1))->Q (none,n) au):
  wpS (model prog w) A E s (forIn [a:d] ((none,a):Option (Option Nat)×Nat) λ_ r=>do
   let x ←ltAt' (lo+r.2) (lo+r.2-1)
   match x with
   |some smaller=>if smaller=true then pure (ForInStep.done (none,r.2)) else pure (ForInStep.yield (none,r.2+1))
   |_=>pure (ForInStep.done (some none,r.2))) Q au:=by
 refine iA (I:=λx c f=>f=au/\c=(none,x)/\eF R (arrOf au) lo (lo+x)) ?_ ?_ ⟨rfl,rfl,u⟩
 ·rintro x c f p m ⟨rfl,rfl,g⟩;dsimp only;refine aZ (pX O b (kl m q) (km m q) ?_);by_cases c:kA R (arrOf f) (lo+x)<kA R (arrOf f) (lo+x-1)
  ·simp only[c,ph,f5];exact bn (h x p (cX m) g (.inr c))
  ·simp only[c,qO,ku,gS];refine bn ⟨rfl,rfl,λi j o k v=>?_⟩;by_cases e:j=lo+x
   ·subst e;by_cases e2:i=lo+x
    ·rw[e2];exact bi _
    ·exact aT (g i (lo+x-1) o (ky (jE k e2)) (AJ (aT t p))) (fF c)
   ·exact g i j o k (nG v e)
 ·rintro c f ⟨rfl,rfl,g⟩;rw[K7 l] at g ⊢;exact h d l (bi _) g (.inl rfl)
end
theorem OP{R:Keyed->Nat}{xs:Array Keyed}{i j:Nat}(b:j<=xs.size)(a:∀k,i<=k->k<j->kA R xs k=kA R xs (j-1))(k:Nat):kA R (mirror xs i j ((j-i)/2)) k=kA R xs k:=by
 rw[BJ b];split
 ·rename_i c;rw[a _ (uW c.2) (uV c.1 c.2),a k c.1 c.2]
 ·rfl
structure Fl (κ:SortKind) (a₀:Array Keyed) (R:Keyed->Nat) (st₀ au:SortSt) (lo n neq b:Nat):Prop where
 base:B κ a₀ au
 same:Sm st₀ au lo b
 dn:rT R (arrOf au) lo (lo+n)
 hq:neq+1<=n
 eqs:∀i,lo+n-(neq+1)<=i->i<lo+n->kA R (arrOf au) i=kA R (arrOf au) (lo+n-1)
section
variable {κ:SortKind}{a₀:Array Keyed}{R:Keyed->Nat}
theorem Fl.turn{c d:SortSt}{lo n a b:Nat}(h:Fl κ a₀ R c d lo n a b)(m:lo+n<=b)(q:b<=a₀.size):
  Fl κ a₀ R c (setArr d (mirror (arrOf d) (lo+n-(a+1)) (lo+n) ((lo+n-(lo+n-(a+1)))/2))) lo n a b/\∀k,kA R (mirror (arrOf d) (lo+n-(a+1)) (lo+n) ((lo+n-(lo+n-(a+1)))/2)) k=kA R (arrOf d) k:=by
 have r:=h.base.size;have p:=h.hq;have f:lo+n<=(arrOf d).size:=by rw[r];exact aT m q
 have e:=OP (R:=R) (xs:=arrOf d) (i:=lo+n-(a+1)) (j:=lo+n) f h.eqs;refine⟨⟨h.base.set (mirror_perm _ _ _ _),⟨(cV.mirror f (Nat.le_sub_of_add_le (gY p lo)) m).trans h.same.out,h.same.pend⟩,λi j l g o=>?_,h.hq,λi l g=>?_⟩,e⟩
 ·show kA R (mirror _ _ _ _) j<=kA R (mirror _ _ _ _) i;rw[e,e];exact h.dn i j l g o
 ·show kA R (mirror _ _ _ _) i=kA R (mirror _ _ _ _) _;rw[e,e];exact h.eqs i l g
theorem Fl.less{a f:SortSt}{lo n d b:Nat}(h:Fl κ a₀ R a f lo n d b)(c:kA R (arrOf f) (lo+n)<=kA R (arrOf f) (lo+n-1)):rT R (arrOf f) lo (lo+(n+1)):=λi j g k l=>by
 have m:=h.hq;by_cases e:j=lo+n
 ·subst e;by_cases e2:i=lo+n
  ·rw[e2];exact bi _
  ·exact aT c (h.dn i (lo+n-1) g (ky (jE k e2)) (AJ (aT (K1 1 d) m)))
 ·exact h.dn i j g k (nG l e)
theorem Fl.fresh{a d:SortSt}{lo n e b:Nat}(h:Fl κ a₀ R a d lo n e b)(c:kA R (arrOf d) (lo+n)<=kA R (arrOf d) (lo+n-1)):Fl κ a₀ R a d lo (n+1) 0 b:=⟨h.base,h.same,h.less c,oh (eJ _),λi g f=>by
 have:i=lo+(n+1)-1:=j0 (ju f) g
 rw[this]⟩
theorem Fl.more{a f:SortSt}{lo n d b:Nat}(h:Fl κ a₀ R a f lo n d b)(c:kA R (arrOf f) (lo+n)=kA R (arrOf f) (lo+n-1)):Fl κ a₀ R a f lo (n+1) (d+1) b:=by
 have j:=h.hq;refine⟨h.base,h.same,h.less (gV c),oh j,λi k g=>?_⟩;rw[show lo+(n+1)-1=lo+n from rfl];by_cases e:i=lo+n
 ·rw[e]
 ·rw[c];exact h.eqs i (aT (gV (Nat.succ_sub_succ (lo+n) (d+1)).symm) k) (nG g e)
end
section
variable {prog:Program}{w:World}{A:Around}{E:Value->Shared->Prop}{s:Shared}{κ:SortKind}{a₀:Array Keyed}{R:Keyed->Nat}
theorem HD{lo nrem:Nat}{au:SortSt}{Q:Option Nat->SortSt->Prop}(O:kb prog w A s κ a₀ R)(b:B κ a₀ au)(p:lo+nrem<=a₀.size)(h1:1<=nrem)
  (h:∀m a,1<=m->m<=nrem->B κ a₀ a->Sm au a lo (lo+nrem)->eF R (arrOf a) lo (lo+m)->Q (some m) a):wpS (model prog w) A E s (countRun' lo nrem) Q au:=by
 have Y:Sm au au lo (lo+nrem):=⟨cV.refl _ _ _,rfl⟩
 have a7:∀G:Array Keyed,eF R G lo (lo+1):=λG i j l g P=>by
  have:i=j:=j0 g (aT (ju P) l);subst this;exact bi _
 have a8:∀G:Array Keyed,rT R G lo (lo+1):=λG i j l g P=>by
  have:i=j:=j0 g (aT (ju P) l);subst this;exact bi _
 rw[countRun'_eq];dsimp only;refine aZ (lw O b p (bi _) h1 (a7 _) λn n1 n2 hu a0=>?_);dsimp only;split
 ·exact bn (h n au n1 n2 b Y hu)
 rename_i a6;have T:n≠nrem:=λz=>a6 (by simp[z])
 have y:n<nrem:=jE n2 T;have hl:kA R (arrOf au) (lo+n)<kA R (arrOf au) (lo+n-1):=by
  rcases a0 with z|z
  ·exact absurd z T
  ·exact z
 have hz:=b.size;have J:∀(n:Nat) (o:SortSt),B κ a₀ o->Sm au o lo (lo+nrem)->1<=n->n<=nrem->rT R (arrOf o) lo (lo+n) ->
   B κ a₀ (setArr o (mirror (arrOf o) lo (lo+n) ((lo+n-lo)/2)))/\Sm au (setArr o (mirror (arrOf o) lo (lo+n) ((lo+n-lo)/2))) lo (lo+nrem)/\eF R (mirror (arrOf o) lo (lo+n) ((lo+n-lo)/2)) lo (lo+n):=λn o b1 r U S t=>by
  have hz:=b1.size;have hm:=gY S lo;have u:lo+n<=(arrOf o).size:=by rw[hz];exact aT hm p
  refine⟨b1.set (mirror_perm _ _ _ _),⟨(cV.mirror u (bi _) hm).trans r.out,r.pend⟩,λi j l g P=>?_⟩;have hi:=jw g P;rw[BJ u,BJ u,if_pos ⟨l,hi⟩,if_pos ⟨aT l g,P⟩];exact t _ _ (uW P) (wE g _) (uV l hi)
 have H:¬ kA R (arrOf au) lo<kA R (arrOf au) (lo+n-1)->∀k,lo<=k->k<lo+n->kA R (arrOf au) k=kA R (arrOf au) (lo+n-1):=λc k k1 k2=>by
  have g1:=hu lo k (bi _) k1 k2;have g2:=hu k (lo+n-1) k1 (ky k2) (AJ n1);exact j0 g2 (aT (fF c) g1)
 have a4:∀G:Array Keyed,(∀k,kA R G k=kA R (arrOf au) k)->¬ kA R (arrOf au) lo<kA R (arrOf au) (lo+n-1)->rT R G lo (lo+(n+1)):=λG e c i j l g P=>by
  rw[e,e];by_cases e2:j=lo+n
  ·subst e2;by_cases e3:i=lo+n
   ·rw[e3];exact bi _
   ·rw[H c i l (jE g e3)];exact cX hl
  ·have jn:=nG P e2;rw[H c i l (jw g jn),H c j (aT l g) jn];exact bi _
 split
 ·have u:lo+n<=(arrOf au).size:=by rw[hz];exact aT (gY n2 lo) p
  refine aZ (pX O b (cD (Al h1) p) (km y p) ?_);by_cases c:kA R (arrOf au) lo<kA R (arrOf au) (lo+n-1)
  ·simp only[c,ph,f5];exact bn (h n au n1 n2 b Y hu)
  ·simp only[c,qO,ku,gS];refine aZ (ix ?_);have b1:B κ a₀ (setArr au (mirror (arrOf au) lo (lo+n) ((lo+n-lo)/2))):=b.set (mirror_perm _ _ _ _);have r:Sm au (setArr au (mirror (arrOf au) lo (lo+n) ((lo+n-lo)/2))) lo (lo+nrem):=⟨cV.mirror u (bi _) (gY n2 lo),rfl⟩
   have t:rT R (arrOf (setArr au (mirror (arrOf au) lo (lo+n) ((lo+n-lo)/2)))) lo (lo+(n+1)):=a4 _ (OP u (H c)) c;generalize (setArr au (mirror (arrOf au) lo (lo+n) ((lo+n-lo)/2)))=o at b1 r t ⊢;refine aZ (pd (kt ⟨rfl,?_⟩));refine aZ (iP (iA (I:=λx c a=>∃d,c=(none,x,d)/\Fl κ a₀ R au a lo x d (lo+nrem)) (Q:=λc a=>∃m d,c=(none,m,d)/\n+1<=m/\m<=nrem/\Fl κ a₀ R au a lo m d (lo+nrem)) ?_ ?_ ?_) ?_)
   ·rintro x c a l g ⟨d,rfl,f⟩;dsimp only;refine aZ (pX O f.base (kl g p) (km g p) ?_);by_cases c:kA R (arrOf a) (lo+x)<kA R (arrOf a) (lo+x-1)
    ·simp only[c,ph,f5];split
     ·obtain⟨C,e⟩:=f.turn (gY (cX g) lo) p;refine aZ (ix (bn ⟨0,rfl,C.fresh ?_⟩));refine cX (?_:kA R (mirror _ _ _ _) _<kA R (mirror _ _ _ _) _);rw[e,e];exact c
     ·exact bn ⟨0,rfl,f.fresh (cX c)⟩
    ·simp only[c,qO,ku,gS];refine aZ (pX O f.base (km g p) (kl g p) ?_);by_cases c2:kA R (arrOf a) (lo+x-1)<kA R (arrOf a) (lo+x)
     ·simp only[c2,ph,f5];exact bn ⟨x,d,rfl,l,cX g,f⟩
     ·simp only[c2,qO,ku,gS];exact bn ⟨d+1,rfl,f.more (j0 (fF c2) (fF c))⟩
   ·rintro c a ⟨d,rfl,f⟩;rw[K7 y] at f ⊢;exact⟨nrem,d,rfl,y,bi _,f⟩
   ·exact⟨0,rfl,b1,r,t,oh (eJ _),λi g1 g2=>by
     have:i=lo+(n+1)-1:=j0 (ju g2) g1
     rw[this]⟩
   ·rintro c a ⟨m,d,rfl,l,g,f⟩;dsimp only;split
    ·obtain⟨C,e⟩:=f.turn (gY g lo) p;refine aZ (ix (aZ (ix ?_)));obtain⟨v,s3,X⟩:=J m _ C.base C.same (kU l) g C.dn;exact aZ (lw O v p (kU l) g X λm' U S q _=>bn (h m' _ (aT (kU l) U) S v s3 q))
    ·refine aZ (ix ?_);obtain⟨v,s3,X⟩:=J m _ f.base f.same (kU l) g f.dn;exact aZ (lw O v p (kU l) g X λm' U S q _=>bn (h m' _ (aT (kU l) U) S v s3 q))
 ·rename_i a5;have b1:=b;have r:=Y
  have t:rT R (arrOf au) lo (lo+(n+1)):=a4 _ (λ_=>rfl) (by
   have:n=1:=j0 (fF a5) n1;subst this
   simp)
  refine aZ (pd (kt ⟨rfl,?_⟩));refine aZ (iP (iA (I:=λx c a=>∃d,c=(none,x,d)/\Fl κ a₀ R au a lo x d (lo+nrem)) (Q:=λc a=>∃m d,c=(none,m,d)/\n+1<=m/\m<=nrem/\Fl κ a₀ R au a lo m d (lo+nrem)) ?_ ?_ ?_) ?_)
  ·rintro x c a l g ⟨d,rfl,f⟩;dsimp only;refine aZ (pX O f.base (kl g p) (km g p) ?_);by_cases c:kA R (arrOf a) (lo+x)<kA R (arrOf a) (lo+x-1)
   ·simp only[c,ph,f5];split
    ·obtain⟨C,e⟩:=f.turn (gY (cX g) lo) p;refine aZ (ix (bn ⟨0,rfl,C.fresh ?_⟩));refine cX (?_:kA R (mirror _ _ _ _) _<kA R (mirror _ _ _ _) _);rw[e,e];exact c
    ·exact bn ⟨0,rfl,f.fresh (cX c)⟩
   ·simp only[c,qO,ku,gS];refine aZ (pX O f.base (km g p) (kl g p) ?_);by_cases c2:kA R (arrOf a) (lo+x-1)<kA R (arrOf a) (lo+x)
    ·simp only[c2,ph,f5];exact bn ⟨x,d,rfl,l,cX g,f⟩
    ·simp only[c2,qO,ku,gS];exact bn ⟨d+1,rfl,f.more (j0 (fF c2) (fF c))⟩
  ·rintro c a ⟨d,rfl,f⟩;rw[K7 y] at f ⊢;exact⟨nrem,d,rfl,y,bi _,f⟩
  ·exact⟨0,rfl,b1,r,t,oh (eJ _),λi g1 g2=>by
    have:i=lo+(n+1)-1:=j0 (ju g2) g1
    rw[this]⟩
  ·rintro c a ⟨m,d,rfl,l,g,f⟩;dsimp only;split
   ·obtain⟨C,e⟩:=f.turn (gY g lo) p;refine aZ (ix (aZ (ix ?_)));obtain⟨v,s3,X⟩:=J m _ C.base C.same (kU l) g C.dn;exact aZ (lw O v p (kU l) g X λm' U S q _=>bn (h m' _ (aT (kU l) U) S v s3 q))
   ·refine aZ (ix ?_);obtain⟨v,s3,X⟩:=J m _ f.base f.same (kU l) g f.dn;exact aZ (lw O v p (kU l) g X λm' U S q _=>bn (h m' _ (aT (kU l) U) S v s3 q))
end
theorem NI{R:Keyed->Nat}{a:Array Keyed}(g:src<a.size)(f:d<=src)(k:Nat):kA R (bubble a src d) k=if k=src-d then kA R a src else if src-d<k/\k<=src then kA R a (k-1) else kA R a k:=by
 have e:=getElem?_bubble g d f k;split
 ·rename_i c;rw[if_pos c] at e;exact nu e
 ·rename_i c;rw[if_neg c] at e;split
  ·rename_i b;rw[if_pos b] at e;exact nu e
  ·rename_i b;rw[if_neg b] at e;exact nu e
theorem BK(c:a<=b)(h:b-a<=n-max 0 n):b=a:=by
 rw[Nat.zero_max,kQ] at h;exact j0 (Nat.le_of_sub_eq_zero (Nat.le_zero.mp h)) c
theorem qm(h:¬l ≥ r):l<=(l+r)/2:=(Nat.le_div_iff_mul_le zB).mpr (by rw[Nat.mul_two];exact gY (cX (pk h)) l)
theorem nE(h:¬l ≥ r):(l+r)/2<r:=(Nat.div_lt_iff_lt_mul zB).mpr (by rw[Nat.mul_two];exact Nat.add_lt_add_right (pk h) r)
theorem Ms(h:¬l ≥ r)(g:r-l<=k-x):(l+r)/2-l<=k-(x+1):=aT (ky (oq (qm h) (nE h))) (q7 g 1)
theorem Mr(h:¬l ≥ r)(g:r-l<=k-x):r-((l+r)/2+1)<=k-(x+1):=aT (wE (oh (qm h)) r) (q7 g 1)
theorem qG(h:p<j)(a:j<=q):j-1<q:=cD (nU (zS h) Nat.one_pos) a
section
variable {prog:Program}{w:World}{A:Around}{E:Value->Shared->Prop}{s:Shared}{κ:SortKind}{a₀:Array Keyed}{R:Keyed->Nat}
theorem D8{lo n G:Nat}{au:SortSt}{Q:Bool->SortSt->Prop}(O:kb prog w A s κ a₀ R)(b:B κ a₀ au)(hn:lo+n<=a₀.size)(h1:1<=G)(h2:G<=n)(up:eF R (arrOf au) lo (lo+G))
  (h:∀a,B κ a₀ a->Sm au a lo (lo+n)->eF R (arrOf a) lo (lo+n)->Q true a):wpS (model prog w) A E s (binarySort' lo n G) Q au:=by
 rw[binarySort'_eq]
 refine aZ (iP (iA (I:=λk c a=>c=(none,())/\B κ a₀ a/\Sm au a lo (lo+n)/\eF R (arrOf a) lo (lo+min k n))
  (Q:=λc a=>c=(none,())/\B κ a₀ a/\Sm au a lo (lo+n)/\eF R (arrOf a) lo (lo+n)) ?_ ?_ ?_) ?_)
 ·rintro k c a k1 J ⟨rfl,t,f,up1⟩;rw[jZ (cX J)] at up1;have hz:=t.size;have T:lo+k<a₀.size:=cD (mT J lo) hn
  refine aZ (iP (iA (I:=λx c d=>d=a/\∃l r,c=(none,l,r)/\l<=r/\r<=k/\r-l<=k-x/\(∀i,i<l->kA R (arrOf a) (lo+i)<=kA R (arrOf a) (lo+k))/\(∀i,r<=i->i<k->kA R (arrOf a) (lo+k)<=kA R (arrOf a) (lo+i)))
   (Q:=λc d=>d=a/\∃l r,c=(none,l,r)/\l<=k/\(∀i,i<l->kA R (arrOf a) (lo+i)<=kA R (arrOf a) (lo+k))/\(∀i,l<=i->i<k->kA R (arrOf a) (lo+k)<=kA R (arrOf a) (lo+i))) ?_ ?_ ?_) ?_)
  ·rintro x c d x1 x2 ⟨rfl,l,r,rfl,y,o,v,H,S⟩;dsimp only;by_cases hge:l ≥ r
   ·rw[if_pos hge];have e:l=r:=j0 y hge;subst e;exact bn ⟨rfl,l,l,rfl,o,H,S⟩
   ·have hm:lo+(l+r)/2<lo+k:=mT (cD (nE hge) o) lo;rw[if_neg hge];refine aZ (pX O t T (qQ hm T) ?_);by_cases c:kA R (arrOf d) (lo+k)<kA R (arrOf d) (lo+(l+r)/2)
    ·simp only[c,ph,f5];exact bn ⟨rfl,l,(l+r)/2,rfl,qm hge,aT (cX (nE hge)) o,Ms hge v,H,λi g m=>aT (cX c) (up1 _ _ (eK _ _) (gY g lo) (mT m lo))⟩
    ·simp only[c,qO,ku,gS];exact bn ⟨rfl,(l+r)/2+1,r,rfl,nE hge,o,Mr hge v,λi g=>aT (up1 (lo+i) (lo+(l+r)/2) (eK _ _) (gY (ju g) lo) hm) (fF c),S⟩
  ·rintro c d ⟨rfl,l,r,rfl,y,o,v,H,S⟩;have e:=BK y v;subst e;exact⟨rfl,_,_,rfl,o,H,S⟩
  ·exact⟨rfl,0,k,rfl,eJ _,bi _,bi _,λi hi=>absurd hi (Nat.not_lt_zero _),λi g m=>absurd m (lH g)⟩
  ·rintro c d ⟨rfl,l,r,rfl,y,o,v⟩;dsimp only;have hd:lo+k-(lo+k-(lo+l))=lo+l:=Nat.sub_sub_self (gY y lo);have Y:lo+k<(arrOf d).size:=by rw[hz];exact T
   refine aZ (FW (bn ⟨rfl,t.set (bubble_perm _ _ _),⟨(cV.bubble Y (lC _ _) (by rw[hd];exact eK _ _) (mT J lo)).trans f.out,f.pend⟩,λi j g m P=>?_⟩));show kA R (bubble (arrOf d) (lo+k) (lo+k-(lo+l))) i<=kA R (bubble (arrOf d) (lo+k) (lo+k-(lo+l))) j;rw[NI Y (lC _ _),NI Y (lC _ _),hd];rw[jZ J] at P;have p:j<=lo+k:=ju P;have X:∀q,lo<=q->q<lo+l->kA R (arrOf d) q<=kA R (arrOf d) (lo+k):=λq C q2=>by
    have:=o (q-lo) (ow C q2);rw[ic C] at this;exact this
   have U:∀q,lo+l<=q->q<lo+k->kA R (arrOf d) (lo+k)<=kA R (arrOf d) q:=λq C q2=>by
    have q0:=aT (eK _ _) C;have:=v (q-lo) (pC C) (ow q0 q2);rw[ic q0] at this;exact this
   by_cases i1:i=lo+l
   ·rw[if_pos i1];by_cases j1:j=lo+l
    ·rw[if_pos j1];exact bi _
    ·have u:=jE (i1 ▸ m) (cb j1);rw[if_neg j1,if_pos ⟨u,p⟩];exact U _ (ky u) (qG u p)
   ·rw[if_neg i1];by_cases i2:lo+l<i/\i<=lo+k
    ·have u:=cD i2.1 m;rw[if_pos i2,if_neg (mP u),if_pos ⟨u,p⟩];exact up1 _ _ (aT (eK lo l) (ky i2.1)) (q7 m 1) (qG u p)
    ·have il:i<lo+l:=jE (fF λz=>i2 ⟨z,aT m p⟩) i1;rw[if_neg i2];by_cases j1:j=lo+l
     ·rw[if_pos j1];exact X i g il
     ·rw[if_neg j1];by_cases j2:lo+l<j/\j<=lo+k
      ·rw[if_pos j2];exact up1 _ _ g (ky (qQ il j2.1)) (qG j2.1 p)
      ·rw[if_neg j2];exact up1 _ _ g m (cD (jE (fF λz=>j2 ⟨z,p⟩) j1) (gY y lo))
 ·rintro c a ⟨rfl,t,f,up1⟩;rw[qU (Nat.le_max_right _ _)] at up1;exact⟨rfl,t,f,up1⟩
 ·refine⟨rfl,b,⟨cV.refl _ _ _,rfl⟩,λi j g m P=>up i j g m (cD P (gY (aT (pj _ _) (gV (Nat.max_eq_left h1))) lo))⟩
 ·rintro c a ⟨rfl,t,f,up1⟩;exact bn (h a t f up1)
end
noncomputable def oG:Bool->Keyed->Array Keyed->Nat->Nat->Nat->StateT SortSt Sem (Option Nat):=sortPriv% PySem.Builtin.gallop
def m9(left:Bool) (R:Keyed->Nat) (a:Keyed) (b:Array Keyed) (base n h:Nat):Prop:=h<=n/\(∀i,i<h->if left then kA R b (base+i)<R a else kA R b (base+i)<=R a)/\(∀i,h<=i->i<n->if left then R a<=kA R b (base+i) else R a<kA R b (base+i))
def bg(left:Bool) (R:Keyed->Nat) (a:Keyed) (b:Array Keyed) (base i:Nat):Bool:=if left then decide (kA R b (base+i)<R a) else decide (kA R b (base+i)<=R a)
section
variable {prog:Program}{w:World}{A:Around}{E:Value->Shared->Prop}{s:Shared}{κ:SortKind}{a₀:Array Keyed}{R:Keyed->Nat}
theorem tQ{left:Bool}{a:Keyed}{b:Array Keyed}{base i:Nat}{au:SortSt}{Q:Option Bool->SortSt->Prop}(O:kb prog w A s κ a₀ R)(d:kindOf au=κ)(f:a∈a₀.toList)(g:∃x,b[base+i]?=some x/\x∈a₀.toList)(h:Q (some (bg left R a b base i)) au):
  wpS (model prog w) A E s (do
   let x ←elem' b (base+i)
   if left=true then lt' x a else do
    let y ←lt' a x
    pure (Option.map (λx=>!x) y)) Q au:=by
 obtain⟨x,e,m⟩:=g;refine aZ (o0 e ?_);unfold bg at h;rw[iO e] at h;cases left with
 |true=>
  rw[if_pos rfl] at h ⊢;exact w_lt O d m f h
 |false=>
  rw[if_neg '"'] at h ⊢;refine aZ (w_lt O d f m (bn ?_));have q:(!decide (R a<R x))=decide (R x<=R a):=by
   by_cases c:R a<R x
   ·rw[bH c,bM (Nat.not_le_of_lt c)];rfl
   ·rw[bM c,bH (fF c)];rfl
  show Q (some (!decide (R a<R x))) au;rw[q];exact h
end
theorem P0{R:Keyed->Nat}(b:eF R arr base (base+n))(a:i<=j)(c:j<n)(h:bg left R key arr base j=true):bg left R key arr base i=true:=by
 have:=b (base+i) (base+j) (eK _ _) (gY a _) (mT c _);unfold bg at h ⊢;cases left with
 |true=>rw[if_pos rfl] at h ⊢;exact bH (jw this (gX h))
 |false=>rw[if_neg '"'] at h ⊢;exact bH (aT this (gX h))
theorem uG{R:Keyed->Nat}(b:h<=n)(d:∀i,i<h->bg left R key arr base i=true)(a:∀i,h<=i->i<n->bg left R key arr base i=false):m9 left R key arr base n h:=by
 refine⟨b,λi c=>?_,λi e f=>?_⟩
 ·have:=d i c;unfold bg at this;cases left with
  |true=>rw[if_pos rfl] at this ⊢;exact gX this
  |false=>rw[if_neg '"'] at this ⊢;exact gX this
 ·have:=a i e f;unfold bg at this;cases left with
  |true=>rw[if_pos rfl] at this ⊢;exact fF (of_decide_eq_false this)
  |false=>rw[if_neg '"'] at this ⊢;exact pk (of_decide_eq_false this)
theorem vM(c:¬a ≥ b):(b-a)/2<b-a:=Nat.div_lt_self (px (pk c)) (bi 2)
theorem qp(c:¬a ≥ b):a+(b-a)/2<b:=mV (vM c)
theorem kn(c:¬a ≥ b)(h:b<=n):a+(b-a)/2<n:=cD (qp c) h
theorem uT(h:b-a<=n-x):b-(a+(b-a)/2+1)<=n-(x+1):=aT (wE (oh (eK a _)) b) (q7 h 1)
theorem uU(c:¬a ≥ b)(h:b-a<=n-x):a+(b-a)/2-a<=n-(x+1):=by
 rw[kW];exact aT (ky (vM c)) (q7 h 1)
theorem uL(o:Nat):o<2*o+1:=Nat.lt_succ_of_le (Nat.le_mul_of_pos_left o zB)
theorem uK(h:x+1<=o):x+1+1<=2*o+1:=oh (aT h (Nat.le_mul_of_pos_left o zB))
theorem vh{a b n:Nat}(h:a+b<n):b<n-a:=Nat.lt_sub_of_add_lt (Nat.add_comm a b ▸ h)
inductive GI (f:Nat->Bool) (n:Nat) (au:SortSt) (x:Nat):Option (Option Nat)×Nat×Nat->SortSt->Prop where
 |mk {a b:Nat}(q1:a<=b) (q2:b<=n) (q3:b-a<=n-x) (q4:∀i,i<a->f i=true) (q5:∀i,b<=i->i<n->f i=false):GI f n au x (none,a,b) au
inductive GE (f:Nat->Bool) (n:Nat) (au:SortSt):Option (Option Nat)×Nat×Nat->SortSt->Prop where
 |mk {b:Nat}(q2:b<=n) (q4:∀i,i<b->f i=true) (q5:∀i,b<=i->i<n->f i=false):GE f n au (none,b,b) au
inductive GU (f:Nat->Bool) (n hint:Nat) (P:Nat->Prop) (au:SortSt):Option (Option Nat)×Nat×Nat->SortSt->Prop where
 |mk {l o:Nat}(g1:l<o) (g2:hint+l<n) (g3:f (hint+l)=true) (g4:P o):GU f n hint P au (none,l,o) au
inductive GD (f:Nat->Bool) (hint:Nat) (P:Nat->Prop) (au:SortSt):Option (Option Nat)×Nat×Nat->SortSt->Prop where
 |mk {l o:Nat}(g1:l<o) (g2:l<=hint) (g3:f (hint-l)=false) (g4:P o):GD f hint P au (none,l,o) au
section
variable {prog:Program}{w:World}{A:Around}{E:Value->Shared->Prop}{s:Shared}{κ:SortKind}{a₀:Array Keyed}{R:Keyed->Nat}
theorem su{left:Bool}{m:Keyed}{f:Array Keyed}{base n d:Nat}{au:SortSt}{Q:Option Nat->SortSt->Prop}(O:kb prog w A s κ a₀ R)(hk:kindOf au=κ)(p:m∈a₀.toList)(ma:∀i,i<n->∃x,f[base+i]?=some x/\x∈a₀.toList)(X:d<n)
  (up:eF R f base (base+n))(h:∀k,m9 left R m f base n k->Q (some k) au):wpS (model prog w) A E s (oG left m f base n d) Q au:=by
 have t:∀i j,i<=j->j<n->bg left R m f base j=true->bg left R m f base i=true:=λi j u J=>P0 up u J
 have q:∀i j,i<=j->j<n->bg left R m f base i=false->bg left R m f base j=false:=λi j u J e=>by
  cases c:bg left R m f base j with
  |false=>rfl
  |true=>rw[t i j u J c] at e;cases e
 refine aZ (tQ O hk p (ma d X) ?_);dsimp only;cases hr:bg left R m f base d with
 |true=>
  rw[if_pos rfl];refine aZ (iP (iA (I:=λx=>GU (bg left R m f base) n d (x+1<=·) au) (Q:=GU (bg left R m f base) n d (λo=>n-d<=o\/(d+o<n/\bg left R m f base (d+o)=false)) au) ?_ ?_ ?_) ?_)
  ·rintro x c S x1 x2 @⟨l,o,G,v,C,z⟩;dsimp only;by_cases c:o ≥ n-d
   ·rw[if_pos c];exact bn (.mk G v C (.inl c))
   ·have c3:d+o<n:=mV (pk c);rw[if_neg c];refine aZ (tQ O hk p (ma (d+o) c3) ?_);dsimp only;cases c2:bg left R m f base (d+o) with
    |true=>exact bn (.mk (uL o) c3 c2 (uK z))
    |false=>exact bn (.mk G v C (.inr ⟨c3,c2⟩))
  ·rintro c S @⟨l,o,G,v,C,z⟩;rw[Nat.zero_max] at z;exact .mk G v C (.inl (aT (lC _ _) (jD z)))
  ·exact .mk Nat.one_pos X hr (bi _)
  ·rintro c S @⟨l,o,G,v,C,z⟩;dsimp only;have f1:∀i,i<d+l+1->bg left R m f base i=true:=λi P=>t i (d+l) (ju P) v C
   have f2:∀i,d+min o (n-d)<=i->i<n->bg left R m f base i=false:=λi u J=>by
    rcases z with g|⟨ga,gb⟩
    ·rw[qU g,ic (cX X)] at u;exact absurd J (lH u)
    ·rw[jZ (cX (vh ga))] at u;exact q (d+o) i u J gb
   have f3:d+l+1<=d+min o (n-d):=gY (Nat.le_min.mpr ⟨G,vh v⟩) d;have Y:d+min o (n-d)<=n:=aT (gY (zM _ _) d) (gV (ic (cX X)));generalize d+l+1=lo at f1 f3 ⊢;generalize d+min o (n-d)=P at f2 f3 Y ⊢;refine aZ (iP (iA (I:=GI (bg left R m f base) n au) (Q:=GE (bg left R m f base) n au) ?_ ?_ (.mk f3 Y (aT (lC _ _) Y) f1 f2)) ?_)
   ·rintro x c T x1 x2 @⟨a,b,q1,r,U,y,H⟩;dsimp only;by_cases c:a ≥ b
    ·rw[if_pos c];have e:b=a:=j0 c q1;subst e;exact bn (.mk r y H)
    ·rw[if_neg c];refine aZ (tQ O hk p (ma (a+(b-a)/2) (kn c r)) ?_);dsimp only;cases c2:bg left R m f base (a+(b-a)/2) with
     |true=>exact bn (.mk (qp c) r (uT U) (λi P=>t i (a+(b-a)/2) (ju P) (kn c r) c2) H)
     |false=>exact bn (.mk (eK _ _) (cX (kn c r)) (uU c U) y λi u J=>q (a+(b-a)/2) i u J c2)
   ·rintro c T @⟨a,b,q1,r,U,y,H⟩;have e:=BK q1 U;subst e;exact .mk r y H
   ·rintro c T @⟨b,r,y,H⟩;exact bn (h b (uG r y H))
 |false=>
  rw[if_neg '"'];refine aZ (iP (iA (I:=λx=>GD (bg left R m f base) d (x+1<=·) au) (Q:=GD (bg left R m f base) d (λo=>d+1<=o\/(o<=d/\bg left R m f base (d-o)=true)) au) ?_ ?_ ?_) ?_)
  ·rintro x c S x1 x2 @⟨l,o,G,v,C,z⟩;dsimp only;by_cases c:o ≥ d+1
   ·rw[if_pos c];exact bn (.mk G v C (.inl c))
   ·rw[if_neg c];refine aZ (tQ O hk p (ma (d-o) (jw (lC _ _) X)) ?_);dsimp only;cases c2:bg left R m f base (d-o) with
    |true=>exact bn (.mk G v C (.inr ⟨ju (pk c),c2⟩))
    |false=>exact bn (.mk (uL o) (ju (pk c)) c2 (uK z))
  ·rintro c S @⟨l,o,G,v,C,z⟩;rw[Nat.zero_max] at z;exact .mk G v C (.inl (aT X (jD z)))
  ·exact .mk Nat.one_pos (eJ _) hr (bi _)
  ·rintro c S @⟨l,o,G,v,C,z⟩;dsimp only;have f1:∀i,i<d+1-min o (d+1)->bg left R m f base i=true:=λi P=>by
    rcases z with g|⟨ga,gb⟩
    ·rw[qU g,kQ] at P;exact absurd P (Nat.not_lt_zero _)
    ·rw[jZ (qW ga),Nat.succ_sub ga] at P;exact t i (d-o) (ju P) (jw (lC _ _) X) gb
   have f2:∀i,d-l<=i->i<n->bg left R m f base i=false:=λi u J=>q (d-l) i u J C
   have f3:d+1-min o (d+1)<=d-l:=aT (wE (Nat.le_min.mpr ⟨G,oh v⟩) _) (gV (Nat.succ_sub_succ d l));have Y:d-l<=n:=aT (lC _ _) (cX X);generalize d+1-min o (d+1)=lo at f1 f3 ⊢;generalize d-l=P at f2 f3 Y ⊢;refine aZ (iP (iA (I:=GI (bg left R m f base) n au) (Q:=GE (bg left R m f base) n au) ?_ ?_ (.mk f3 Y (aT (lC _ _) Y) f1 f2)) ?_)
   ·rintro x c T x1 x2 @⟨a,b,q1,r,U,y,H⟩;dsimp only;by_cases c:a ≥ b
    ·rw[if_pos c];have e:b=a:=j0 c q1;subst e;exact bn (.mk r y H)
    ·rw[if_neg c];refine aZ (tQ O hk p (ma (a+(b-a)/2) (kn c r)) ?_);dsimp only;cases c2:bg left R m f base (a+(b-a)/2) with
     |true=>exact bn (.mk (qp c) r (uT U) (λi P=>t i (a+(b-a)/2) (ju P) (kn c r) c2) H)
     |false=>exact bn (.mk (eK _ _) (cX (kn c r)) (uU c U) y λi u J=>q (a+(b-a)/2) i u J c2)
   ·rintro c T @⟨a,b,q1,r,U,y,H⟩;have e:=BK q1 U;subst e;exact .mk r y H
   ·rintro c T @⟨b,r,y,H⟩;exact bn (h b (uG r y H))
end
noncomputable abbrev Ord(R:Keyed->Nat) (l:List Keyed):Prop:=l.Pairwise λx y=>R x<=R y
structure jk (au st':SortSt):Prop where
 arr:arrOf st'=arrOf au
 pend:pendingOf st'=pendingOf au
 kind:kindOf st'=kindOf au
 failed:failedOf st'=failedOf au
theorem jk.refl(au:SortSt):jk au au:=⟨rfl,rfl,rfl,rfl⟩
theorem jk.trans(x:jk a b)(y:jk b c):jk a c:=⟨y.arr.trans x.arr,y.pend.trans x.pend,y.kind.trans x.kind,y.failed.trans x.failed⟩
noncomputable def l0:Array Keyed->Array Keyed->StateT SortSt Sem (Array Keyed):=sortPriv% PySem.Builtin.mergeLo
noncomputable def l4:Array Keyed->Array Keyed->StateT SortSt Sem (Array Keyed):=sortPriv% PySem.Builtin.mergeHi
structure ML (R:Keyed->Nat) (all out rest:List Keyed):Prop where
 perm:(out++rest).Perm all
 ord:Ord R out
 le:∀x∈out,∀y∈rest,R x<=R y
theorem ML.grow{R:Keyed->Nat}{a:List Keyed}(m:ML R all out a)(p:a.Perm (c++rest'))(o:Ord R c)(h:∀x∈c,∀y∈rest',R x<=R y):ML R all (out++c) rest':=by
 refine⟨?_,sT.mpr ⟨m.ord,o,λx hx y b=>m.le x hx y (p.mem_iff.mpr (ra _ b))⟩,λx hx y b=>?_⟩
 ·rw[eu];exact(wH out p.symm).trans m.perm
 ·rcases cM.mp hx with hx|hx
  ·exact m.le x hx y (p.mem_iff.mpr (j3 _ b))
  ·exact h x hx y b
theorem ML.fin{R:Keyed->Nat}{b a:List Keyed}(m:ML R all out b)(p:a.Perm b)(o:Ord R a):(out++a).Perm all/\Ord R (out++a):=
 ⟨(wH out p).trans m.perm,sT.mpr ⟨m.ord,o,λx c y d=>m.le x c y (p.mem_iff.mp d)⟩⟩
theorem Ord.at{R:Keyed->Nat}(h:Ord R l){i j:Nat}(f:l[i]?=some x)(g:l[j]?=some y)(a:i<=j):R x<=R y:=by
 obtain⟨k,b⟩:=du.mp f;obtain⟨e,d⟩:=du.mp g;by_cases c:i=j
 ·subst c;rw[←b,←d];exact bi _
 ·rw[←b,←d];exact Ao.mp h i j k e (jE a c)
theorem Ord.drop{R:Keyed->Nat}(h:Ord R l)(n:Nat):Ord R (l.drop n):=List.Pairwise.sublist (List.drop_sublist _ _) h
theorem Ord.take{R:Keyed->Nat}(h:Ord R l)(n:Nat):Ord R (l.take n):=List.Pairwise.sublist (List.take_sublist _ _) h
theorem nA{l:List Keyed}(h:y∈l.drop n):∃j,n<=j/\l[j]?=some y:=by
 obtain⟨i,a,e⟩:=kx h;refine⟨n+i,eK _ _,?_⟩;rw[←e,Lc];exact bQ _
theorem jV{l:List Keyed}(h:y∈l.take n):∃j,j<n/\l[j]?=some y:=by
 obtain⟨i,b,e⟩:=kx h;have a:i<n/\i<l.length:=by rw[iY] at b;exact Nat.lt_min.mp b
 refine⟨i,a.1,?_⟩;rw[←e,List.getElem_take];exact bQ _
theorem OO{l:List Keyed}{i:Nat}{x:Keyed}(h:l[i]?=some x):l.drop i=x::l.drop (i+1):=by
 obtain⟨a,rfl⟩:=du.mp h;exact sV a
theorem N6(l:List Keyed)(i k:Nat):l.drop i=(l.drop i).take k++l.drop (i+k):=by
 rw[←lE,mU]
structure rH (R:Keyed->Nat) (la lb:List Keyed):Prop where
 oa:Ord R la
 ob:Ord R lb
 last:∀x,la[la.length-1]?=some x->∀y∈lb,R y<=R x
def Fin(R:Keyed->Nat) (b a:List Keyed) (r:Array Keyed):Prop:=r.toList.Perm (b++a)/\Ord R r.toList
section
variable {la:List Keyed}{lb:List Keyed}{out:Array Keyed}{ia:Nat}{ib:Nat}
theorem ML.pushB{R:Keyed->Nat}{all:List Keyed}(T:rH R la lb)(m:ML R all out.toList (la.drop ia++lb.drop ib)){y:Keyed}(b:lb[ib]?=some y)(h:∀z∈la.drop ia,R y<=R z):ML R all (out.push y).toList (la.drop ia++lb.drop (ib+1)):=by
 rw[pu];refine m.grow ?_ (LD _ _) λx a z hz=>?_
 ·rw[OO b];exact List.perm_middle
 ·simp at a;subst a
  rcases cM.mp hz with hz|hz
  ·exact h z hz
  ·obtain⟨j,c,e⟩:=nA hz;exact T.ob.at b e (jD c)
end
section
variable {w:World}{la:List Keyed}{lb:List Keyed}{out:Array Keyed}{ia:Nat}{ib:Nat}
theorem ML.pushA{R:Keyed->Nat}{all:List Keyed}(T:rH R la lb)(m:ML R all out.toList (la.drop ia++lb.drop ib)){x:Keyed}(a:la[ia]?=some x)(h:∀z∈lb.drop ib,R x<=R z):ML R all (out.push x).toList (la.drop (ia+1)++lb.drop ib):=by
 rw[pu];refine m.grow ?_ (LD _ _) λw b z hz=>?_
 ·rw[OO a];exact .refl _
 ·simp at b;subst b
  rcases cM.mp hz with hz|hz
  ·obtain⟨j,c,e⟩:=nA hz;exact T.oa.at a e (jD c)
  ·exact h z hz
end
theorem ki(a:Array Keyed)(i j:Nat):(a.extract i j).toList=(a.toList.drop i).take (j-i):=by
 rw[Array.toList_extract,List.extract_eq_take_drop]
theorem xU(a:Array Keyed)(i:Nat):(a.extract i).toList=a.toList.drop i:=by
 rw[ki];exact lL '&'
theorem iw{R:Keyed->Nat}{a:Array Keyed}(h:a.toList[i]?=some x):kA R a i=R x:=iO (by rw[←gj];exact h)
section
variable {R:Keyed->Nat}{a:Array Keyed}{b:Array Keyed}{out:Array Keyed}{ia:Nat}{ib:Nat}{k:Nat}
theorem ML.galA(T:rH R a.toList b.toList)(m:ML R all out.toList (a.toList.drop ia++b.toList.drop ib))(o:b.toList[ib]?=some y)(c:m9 false R y a ia (a.size-ia) k):ML R all (out++a.extract ia (ia+k)).toList (a.toList.drop (ia+k)++b.toList.drop ib)/\∀z∈a.toList.drop (ia+k),R y<=R z:=by
 have l:∀z∈a.toList.drop (ia+k),R y<=R z:=λz f=>by
  obtain⟨j,d,e⟩:=nA f;have i:j<a.size:=by have:=(du.mp e).1;simpa using this
  have n:=aT (eK _ _) d;have:=c.2.2 (j-ia) (pC d) (oq n i);rw[ic n,iw e] at this;exact cX this
 have g:∀z∈(a.toList.drop ia).take k,R z<=R y:=λz f=>by
  obtain⟨j,d,e⟩:=jV f;rw[lJ] at e;have:=c.2.1 j d;rw[iw e] at this;exact this
 refine⟨?_,l⟩;rw[iC,ki,kW];refine m.grow ?_ ((T.oa.drop ia).take k) λz f v hv=>?_
 ·conv=>lhs;rw[N6 a.toList ia k]
  rw[eu]
 ·rcases cM.mp hv with hv|hv
  ·exact aT (g z f) (l v hv)
  ·obtain⟨j,d,e⟩:=nA hv;exact aT (g z f) (T.ob.at o e d)
theorem ML.galB(T:rH R a.toList b.toList)(m:ML R all out.toList (a.toList.drop ia++b.toList.drop ib))(o:a.toList[ia]?=some x)(c:m9 true R x b ib (b.size-ib) k):ML R all (out++b.extract ib (ib+k)).toList (a.toList.drop ia++b.toList.drop (ib+k))/\∀z∈b.toList.drop (ib+k),R x<=R z:=by
 have l:∀z∈b.toList.drop (ib+k),R x<=R z:=λz f=>by
  obtain⟨j,d,e⟩:=nA f;have i:j<b.size:=by have:=(du.mp e).1;simpa using this
  have n:=aT (eK _ _) d;have:=c.2.2 (j-ib) (pC d) (oq n i);rw[ic n,iw e] at this;exact this
 have g:∀z∈(b.toList.drop ib).take k,R z<=R x:=λz f=>by
  obtain⟨j,d,e⟩:=jV f;rw[lJ] at e;have:=c.2.1 j d;rw[iw e] at this;exact cX this
 refine⟨?_,l⟩;rw[iC,ki,kW];refine m.grow ?_ ((T.ob.drop ib).take k) λz f v hv=>?_
 ·conv=>lhs;rw[N6 b.toList ib k]
  rw[←eu,←eu];exact Ak _ wG
 ·rcases cM.mp hv with hv|hv
  ·obtain⟨j,d,e⟩:=nA hv;exact aT (g z f) (T.oa.at o e d)
  ·exact aT (g z f) (l v hv)
end
theorem ML.done{R:Keyed->Nat}{a:Array Keyed}{b:Array Keyed}{c:Array Keyed}{e:Nat}{d:Nat}(T:rH R a.toList b.toList)(m:ML R (a.toList++b.toList) c.toList (a.toList.drop e++b.toList.drop d))(h:e=a.size\/d=b.size):Fin R a.toList b.toList (c++a.extract e++b.extract d):=by
 unfold Fin;rw[iC,iC,xU,xU,eu];refine m.fin (.refl _) ?_;rcases h with rfl|rfl
 ·rw[Ai '&',K0];exact T.ob.drop _
 ·rw[Ai (as:=b.toList) '&',fE];exact T.oa.drop _
theorem ML.lastA{R:Keyed->Nat}{a:Array Keyed}{b:Array Keyed}{c:Array Keyed}{f:Nat}{g:Nat}(T:rH R a.toList b.toList)(m:ML R (a.toList++b.toList) c.toList (a.toList.drop f++b.toList.drop g))(h:f+1=a.size):Fin R a.toList b.toList (c++b.extract g++a.extract f):=by
 unfold Fin;rw[iC,iC,xU,xU,eu];refine m.fin wG (sT.mpr ⟨T.ob.drop _,T.oa.drop _,λv i z l=>?_⟩);obtain⟨j,k,e⟩:=nA l;have d:j<a.size:=by have:=(du.mp e).1;simpa using this
 have:j=a.toList.length-1:=j0 (ky (by rw[gL];exact d)) (by rw[gL,←h];exact k);subst this;exact T.last z e v (lK i)
noncomputable def wW:Nat->StateT SortSt Sem Unit:=sortPriv% PySem.Builtin.setMinGallop
section
variable {prog:Program}{w:World}{A:Around}{E:Value->Shared->Prop}{s:Shared}
theorem nQ{g:Nat}{au:SortSt}{Q:Unit->SortSt->Prop}(h:∀a,jk au a->Q () a):wpS (model prog w) A E s (wW g) Q au:=
 lB (h _ ⟨rfl,rfl,rfl,rfl⟩)
end
section
variable {prog:Program}{w:World}{A:Around}{E:Value->Shared->Prop}{s:Shared}{y:Keyed}{x:Keyed}
theorem uz{a:Type}{K:Nat->StateT SortSt Sem a}{Q:a->SortSt->Prop}{au:SortSt}(h:∀v,wpS (model prog w) A E s (K v) Q au):∀y x:Nat,wpS (model prog w) A E s (if y > 1 then K x else K y) Q au:=λy x=>by
 by_cases e:y > 1
 ·rw[if_pos e];exact h x
 ·rw[if_neg e];exact h y
end
section
variable {prog:Program}{w:World}{A:Around}{E:Value->Shared->Prop}{s:Shared}
theorem ux{f:Type}{c a:Prop}[Decidable c][Decidable a]{X Y b:StateT SortSt Sem f}{Q:f->SortSt->Prop}{au:SortSt}(g:¬c->b=Y)(h:c->a->wpS (model prog w) A E s X Q au)(d:(c->¬a)->wpS (model prog w) A E s Y Q au):wpS (model prog w) A E s (if c then(if a then X else Y) else b) Q au:=by
 by_cases e:c
 ·rw[if_pos e];by_cases e2:a
  ·rw[if_pos e2];exact h e e2
  ·rw[if_neg e2];exact d λ_=>e2
 ·rw[if_neg e,g e];exact d λz=>absurd z e
theorem vk{h:Type}{c a b:Prop}[Decidable c][Decidable a][Decidable b]{X f Y d:StateT SortSt Sem h}{Q:h->SortSt->Prop}{au:SortSt}(i:¬c->d=Y)(j:c->a->wpS (model prog w) A E s X Q au)(k:c->b->wpS (model prog w) A E s f Q au)(g:(c->¬a/\¬b)->wpS (model prog w) A E s Y Q au):wpS (model prog w) A E s (if c then(if a then X else if b then f else Y) else d) Q au:=by
 by_cases e:c
 ·rw[if_pos e];by_cases e2:a
  ·rw[if_pos e2];exact j e e2
  ·rw[if_neg e2];by_cases e3:b
   ·rw[if_pos e3];exact k e e3
   ·rw[if_neg e3];exact g λ_=>⟨e2,e3⟩
 ·rw[if_neg e,i e];exact g λz=>absurd z e
theorem uy{b:Type}{c a:Prop}[Decidable c][Decidable a]{X d Y:StateT SortSt Sem b}{Q:b->SortSt->Prop}{au:SortSt}(g:c->wpS (model prog w) A E s X Q au)(f:a->wpS (model prog w) A E s d Q au)(h:¬c->¬a->wpS (model prog w) A E s Y Q au):wpS (model prog w) A E s (if c then X else if a then d else Y) Q au:=by
 by_cases e:c
 ·rw[if_pos e];exact g e
 ·rw[if_neg e];by_cases e2:a
  ·rw[if_pos e2];exact f e2
  ·rw[if_neg e2];exact h e e2
theorem fk{a:Type}{c:Prop}[Decidable c]{X Y:StateT SortSt Sem a}{Q:a->SortSt->Prop}{au:SortSt}(d:c->wpS (model prog w) A E s X Q au)(b:¬c->wpS (model prog w) A E s Y Q au):wpS (model prog w) A E s (if c then X else Y) Q au:=by
 by_cases e:c
 ·rw[if_pos e];exact d e
 ·rw[if_neg e];exact b e
theorem ew{b:Type}{a:Array Keyed}{i:Nat}{x:Keyed}{f:Keyed->StateT SortSt Sem b}{Q:b->SortSt->Prop}{au:SortSt}(e:a[i]?=some x)(h:wpS (model prog w) A E s (f x) Q au):wpS (model prog w) A E s (elem' a i >>= f) Q au:=aZ (o0 e h)
end
section
variable {prog:Program}{w:World}{A:Around}{E:Value->Shared->Prop}{s:Shared}{κ:SortKind}{a₀:Array Keyed}{R:Keyed->Nat}
theorem vm{a:Type}{x y:Keyed}{f:Option Bool->StateT SortSt Sem a}{Q:a->SortSt->Prop}{au:SortSt}(O:kb prog w A s κ a₀ R)(d:kindOf au=κ)(g:x∈a₀.toList)(h:y∈a₀.toList)(e:R x<R y->wpS (model prog w) A E s (f (some true)) Q au)(b:R y<=R x->wpS (model prog w) A E s (f (some false)) Q au):wpS (model prog w) A E s (lt' x y >>= f) Q au:=by
 refine aZ (w_lt O d g h ?_);by_cases c:R x<R y
 ·rw[bH c];exact e c
 ·rw[bM c];exact b (fF c)
end
inductive Dn {β:Type}(R:Keyed->Nat) (a b:Array Keyed) (au:SortSt):Option (Array Keyed)×β->SortSt->Prop where
 |mk {r:Array Keyed}{z:β}{st':SortSt}(sm:jk au st') (f:Fin R a.toList b.toList r):Dn R a b au (some r,z) st'
section
variable {out:Array Keyed}{ia:Nat}{ib:Nat}
inductive L1 (R:Keyed->Nat) (a b:Array Keyed) (au:SortSt) (x:Nat):Option (Array Keyed)×Array Keyed×Nat×Nat×Nat->SortSt->Prop where
 |mk {out:Array Keyed}{ia ib g:Nat}{st':SortSt}(sm:jk au st') (m:ML R (a.toList++b.toList) out.toList (a.toList.drop ia++b.toList.drop ib)) (ha:ia+1<a.size) (hb:ib<b.size) (hx:x<ia+ib):L1 R a b au x (none,out,ia,ib,g) st'
inductive MM (R:Keyed->Nat) (a b:Array Keyed) (au:SortSt) (x:Nat):Option (Array Keyed)×Array Keyed×Nat×Nat×Nat×Nat->SortSt->Prop where
 |mk {out:Array Keyed}{ia ib ac bc:Nat}{st':SortSt}(sm:jk au st') (m:ML R (a.toList++b.toList) out.toList (a.toList.drop ia++b.toList.drop ib)) (ha:ia+1<a.size) (hb:ib<b.size) (hx:x<=ia+ib):MM R a b au x (none,out,ia,ib,ac,bc) st'
inductive L3 (R:Keyed->Nat) (a b:Array Keyed) (au:SortSt) (x:Nat):Option (Array Keyed)×Array Keyed×Nat×Nat×Nat×Nat×Nat->SortSt->Prop where
 |mk {out:Array Keyed}{ia ib g ac bc:Nat}{st':SortSt}(sm:jk au st') (m:ML R (a.toList++b.toList) out.toList (a.toList.drop ia++b.toList.drop ib)) (ha:ia+1<a.size) (hb:ib<b.size) (hx:x<=ia+ib):L3 R a b au x (none,out,ia,ib,g,ac,bc) st'
end
section
variable {prog:Program}{w:World}{A:Around}{E:Value->Shared->Prop}{s:Shared}{κ:SortKind}{a₀:Array Keyed}{R:Keyed->Nat}{a:Array Keyed}{b:Array Keyed}{out:Array Keyed}{ia:Nat}{ib:Nat}{k:Nat}{y:Keyed}{x:Keyed}
theorem KO{au:SortSt}{Q:Array Keyed->SortSt->Prop}(O:kb prog w A s κ a₀ R)(hk:kindOf au=κ)(ma:∀x∈a.toList,x∈a₀.toList)(mb:∀x∈b.toList,x∈a₀.toList)(T:rH R a.toList b.toList)(ha:1<=a.size)(hb:1<=b.size)
  (b8:∀y,b.toList[0]?=some y->∀x∈a.toList,R y<=R x)(h:∀r C,jk au C->Fin R a.toList b.toList r->Q r C):wpS (model prog w) A E s (l0 a b) Q au:=by
 have u:∀(i:Nat) (P:i<a.size),a[i]?=some a[i]/\a.toList[i]?=some a[i]/\a[i]∈a₀.toList:=λi P=>⟨getElem?_pos a i P,by rw[gj];exact getElem?_pos a i P,ma _ '&'⟩
 have o:∀(i:Nat) (P:i<b.size),b[i]?=some b[i]/\b.toList[i]?=some b[i]/\b[i]∈a₀.toList:=λi P=>⟨getElem?_pos b i P,by rw[gj];exact getElem?_pos b i P,mb _ '&'⟩
 have b9:∀i,eF R a i (i+(a.size-i)):=λi p q a1 a2 a3=>by
  have hq:q<a.size:=by lia
  have e1:=(u p '!').2.1;have e2:=(u q hq).2.1;rw[iw e1,iw e2];exact T.oa.at e1 e2 a2
 have b6:∀i,eF R b i (i+(b.size-i)):=λi p q a1 a2 a3=>by
  have hq:q<b.size:=by lia
  have e1:=(o p '!').2.1;have e2:=(o q hq).2.1;rw[iw e1,iw e2];exact T.ob.at e1 e2 a2
 obtain⟨y0,f0,f1⟩:∃x,b[0]?=some x/\b.toList[0]?=some x:=⟨_,(o 0 hb).1,(o 0 hb).2.1⟩
 have start:ML R (a.toList++b.toList) (#[y0]:Array Keyed).toList (a.toList.drop 0++b.toList.drop 1):=by
  have z:ML R (a.toList++b.toList) (#[]:Array Keyed).toList (a.toList.drop 0++b.toList.drop 0):=⟨by simp,List.Pairwise.nil,by simp⟩
  exact z.pushB T f1 λx hx=>b8 y0 f1 x (lK hx)
 refine aZ (pd (kt ⟨rfl,aZ (o0 f0 (uy (λc1=>?_) (λc2=>?_) λc1 c2=>?_))⟩))
 ·exact bn (h _ _ (.refl _) (start.done T (.inr (by simpa using c1))))
 ·exact bn (h _ _ (.refl _) (start.lastA T (by simpa using c2)))
 simp only[jX] at c1 c2;refine aZ (kr ?_);refine aZ (iP (iA (I:=L1 R a b au) (Q:=Dn R a b au) ?_ ?_ (.mk (.refl _) start '!' '!' '!')) ?_)
 ·rintro x c a4 x1 x2 @⟨out,ia,ib,g,a4,a5,m,b4,b2,hx⟩;dsimp only;refine aZ (iP (iA (I:=λ_=>MM R a b au (ia+ib)) (Q:=λc C=>Dn R a b au c C\/MM R a b au (ia+ib) c C) ?_ ?_ (.mk a5 m b4 b2 (bi _))) ?_)
  ·rintro x' c a0 _ _ @⟨out,l,ib',ac,bc,a0,t,m,n,d,hp⟩;dsimp only;have ea:=(u l (ol n)).1;have J:=(u l (ol n)).2.1;have a6:=(u l (ol n)).2.2;have eb:=(o ib' d).1;have H:=(o ib' d).2.1;have a8:=(o ib' d).2.2;refine ew eb (ew ea (vm O (t.kind.trans hk) a8 a6 (λcw=>ew eb ?_) λcw=>ew ea ?_))
   ·skip
    have m2:=m.pushB T H λz hz=>by
     obtain⟨j,hj,e⟩:=nA hz;exact aT (cX cw) (T.oa.at J e hj)
    refine fk (λc5=>bn (.inl (.mk t (m2.done T (.inr (eq_of_beq c5)))))) λc5=>?_
    rw[jX] at c5;have a9:ib'+1<b.size:=jE d c5;have S:ia+ib<=l+(ib'+1):=qW hp;exact fk (λ_=>bn (.inr (.mk t m2 n a9 S))) λ_=>bn (.mk t m2 n a9 S)
   ·skip
    have m2:=m.pushA T J λz hz=>by
     obtain⟨j,hj,e⟩:=nA hz;exact aT cw (T.ob.at H e hj)
    refine fk (λc5=>bn (.inl (.mk t (m2.lastA T (eq_of_beq c5))))) λc5=>?_
    rw[jX] at c5;have b0:l+1+1<a.size:=jE n c5;have S:ia+ib<=l+1+ib':=Nat.succ_add l ib' ▸ qW hp
    exact fk (λ_=>bn (.inr (.mk t m2 b0 d S))) λ_=>bn (.mk t m2 b0 d S)
  ·exact λc a0 k=>.inr k
  ·rintro c a0 (⟨t,f⟩|@⟨out,l,ib',ac,bc,a0,t,m,n,d,hp⟩)
   ·exact bn (.mk t f)
   ·dsimp only;refine aZ (pd (kt ⟨rfl,?_⟩));refine aZ (iP (iA (I:=λx'=>L3 R a b au (ia+ib+x')) (Q:=λc C=>Dn R a b au c C\/L3 R a b au (ia+ib+1) c C) ?_ ?_ (.mk t m n d hp)) ?_)
    ·rintro x' c a7 _ c3 @⟨out,l,ib',g',ac,bc,a7,G,m,n,d,hp⟩;dsimp only;have eb:=(o ib' d).1;have H:=(o ib' d).2.1;have a8:=(o ib' d).2.2;generalize g'-1=g1;generalize g'=y;revert g1;revert y
     refine uz ?_;intro gg;refine aZ (nQ λc0 sg=>?_);have v:=G.trans sg;refine ew eb (aZ (su O (v.kind.trans hk) a8 (λi P=>⟨_,(u (l+i) (mV P)).1,(u (l+i) (mV P)).2.2⟩) (px (ol n)) (b9 l) λk1 Y=>?_));have m5:=(m.galA T H Y).1;have u5:=(m.galA T H Y).2;have d1:=Y.1;dsimp only;refine vk (λc6=>?_) (λc6 c7=>?_) (λc6 c8=>?_) λhh=>?_
     ·have z:k1=0:=Nat.le_zero.mp (fF c6);subst z;simp only[wm,LL (pj _ _),zW]
     ·exact bn (.inl (.mk v (m5.lastA T (eq_of_beq c7))))
     ·exact bn (.inl (.mk v (m5.done T (.inl (eq_of_beq c8)))))
     have X:l+k1+1<a.size:=by
      by_cases c6:k1 > 0
      ·have:=hh c6;simp at this;lia
      ·lia
     have b7:ia+ib+x'<=l+k1+ib':=aT hp (Nat.add_le_add_right (eK _ _) _);clear hh;generalize l+k1=ia5 at m5 u5 X b7 ⊢;generalize out++a.extract l ia5=out5 at m5 ⊢;have m6:=m5.pushB T H u5;have ea:=(u _ (ol X)).1;have J:=(u _ (ol X)).2.1;have a6:=(u _ (ol X)).2.2;refine ew eb (fk (λc9=>bn (.inl (.mk v (m6.done T (.inr (eq_of_beq c9)))))) λc9=>ew ea ?_);rw[jX] at c9;refine aZ (su O (v.kind.trans hk) a6 (λi P=>⟨_,(o (ib'+1+i) (mV P)).1,(o (ib'+1+i) (mV P)).2.2⟩) (px (jE d c9)) (b6 (ib'+1)) λk2 U=>?_);have m7:=(m6.galB T J U).1;have u7:=(m6.galB T J U).2;have c4:=U.1;dsimp only;refine ux (λd6=>?_) (λd6 d7=>?_) λhh=>?_
     ·have z2:k2=0:=Nat.le_zero.mp (fF d6);subst z2;simp only[wm,LL (pj _ _),zW]
     ·exact bn (.inl (.mk v (m7.done T (.inr (eq_of_beq d7)))))
     have d0:ib'+1+k2≠b.size:=by
      by_cases d6:k2 > 0
      ·have:=hh d6;simp at this;lia
      ·lia
     have m8:=m7.pushA T J u7;refine ew ea (fk (λd8=>bn (.inl (.mk v (m8.lastA T (eq_of_beq d8))))) λd8=>?_);rw[jX] at d8;have b5:ia5+1+1<a.size:=jE X d8;have b3:ib'+1+k2<b.size:=by lia
     have b1:ia+ib+(x'+1)<=ia5+1+(ib'+1+k2):=by lia
     exact fk (λ_=>bn (.inr (.mk v m8 b5 b3 (aT (gY (K1 1 x') _) b1)))) λ_=>bn (.mk v m8 b5 b3 b1)
    ·rintro c a7 ⟨G,m,n,d,hp⟩;exact .inr (.mk G m n d '!')
    ·rintro c a7 (⟨G,f⟩|⟨G,m,n,d,hp⟩)
     ·exact bn (.mk G f)
     ·exact aZ (nQ λc0 sg=>bn (.mk (G.trans sg) m n d (cD (Nat.succ_lt_succ hx) hp)))
 ·rintro c a4 ⟨a5,m,b4,b2,hx⟩;lia
 ·rintro c a4 ⟨a5,f⟩;exact bn (h _ a4 a5 f)
end
structure MH (R:Keyed->Nat) (all out rest:List Keyed):Prop where
 perm:(rest++out.reverse).Perm all
 ord:Ord R out.reverse
 le:∀x∈rest,∀y∈out,R x<=R y
theorem MH.grow{R:Keyed->Nat}{a c:List Keyed}(m:MH R all out a)(p:a.Perm (rest'++c.reverse))(o:Ord R c.reverse)(h:∀x∈rest',∀y∈c,R x<=R y):MH R all (out++c) rest':=by
 refine⟨?_,?_,λx b y hy=>?_⟩
 ·rw[List.reverse_append,←eu];exact(Ak _ p.symm).trans m.perm
 ·rw[List.reverse_append];exact sT.mpr ⟨o,m.ord,λx b y hy=>m.le x (p.mem_iff.mpr (j3 _ b)) y (zL.mp hy)⟩
 ·rcases cM.mp hy with hy|hy
  ·exact m.le x (p.mem_iff.mpr (ra _ b)) y hy
  ·exact h x b y hy
theorem MH.fin{R:Keyed->Nat}{b a:List Keyed}(m:MH R all out b)(p:a.Perm b)(o:Ord R a):(a++out.reverse).Perm all/\Ord R (a++out.reverse):=
 ⟨(Ak _ p).trans m.perm,sT.mpr ⟨o,m.ord,λx c y d=>m.le x (p.mem_iff.mp c) y (zL.mp d)⟩⟩
theorem O1{l:List Keyed}{i:Nat}{x:Keyed}(h:l[i]?=some x):l.take (i+1)=l.take i++[x]:=by
 obtain⟨a,rfl⟩:=du.mp h;exact LN a
structure jM (R:Keyed->Nat) (la lb:List Keyed):Prop where
 oa:Ord R la
 ob:Ord R lb
 first:∀y,lb[0]?=some y->∀x∈la,R y<=R x
section
variable {R:Keyed->Nat}{la:List Keyed}{lb:List Keyed}{all:List Keyed}{out:Array Keyed}{na:Nat}{nb:Nat}
theorem MH.pushB(T:jM R la lb)(m:MH R all out.toList (la.take na++lb.take (nb+1))){y:Keyed}(b:lb[nb]?=some y)(h:∀z∈la.take na,R z<=R y):MH R all (out.push y).toList (la.take na++lb.take nb):=by
 rw[pu];refine m.grow ?_ '&' λz hz w a=>?_
 ·rw[O1 b];simp
 ·simp at a;subst a
  rcases cM.mp hz with hz|hz
  ·exact h z hz
  ·obtain⟨j,c,e⟩:=jV hz;exact T.ob.at e b '!'
theorem MH.pushA(T:jM R la lb)(m:MH R all out.toList (la.take (na+1)++lb.take nb)){x:Keyed}(a:la[na]?=some x)(h:∀z∈lb.take nb,R z<=R x):MH R all (out.push x).toList (la.take na++lb.take nb):=by
 rw[pu];refine m.grow ?_ '&' λz hz w b=>?_
 ·rw[O1 a];simp only[List.reverse_singleton,eu];exact wH _ wG
 ·simp at b;subst b
  rcases cM.mp hz with hz|hz
  ·obtain⟨j,c,e⟩:=jV hz;exact T.oa.at e a '!'
  ·exact h z hz
end
theorem MY(l:List Keyed) (h:k<=n):l.take n=l.take k++(l.drop k).take (n-k):=by
 conv=>lhs;rw[show n=k+(n-k) by lia,List.take_add]
section
variable {R:Keyed->Nat}{a:Array Keyed}{b:Array Keyed}{out:Array Keyed}{na:Nat}{nb:Nat}{k:Nat}
theorem MH.galA(T:jM R a.toList b.toList)(m:MH R all out.toList (a.toList.take na++b.toList.take (nb+1)))(l:b.toList[nb]?=some y)(n:na<=a.size)(c:m9 false R y a 0 na k):MH R all (out++(a.extract k na).reverse).toList (a.toList.take k++b.toList.take (nb+1))/\∀z∈a.toList.take k,R z<=R y:=by
 have f:∀z∈a.toList.take k,R z<=R y:=λz d=>by
  obtain⟨j,h,e⟩:=jV d;have:=c.2.1 j h;rw[iW,iw e] at this;exact this
 have i:∀z∈(a.toList.drop k).take (na-k),R y<=R z:=λz d=>by
  obtain⟨j,h,e⟩:=jV d;rw[lJ] at e;have:=c.2.2 (k+j) '!' '!';rw[iW,iw e] at this;exact cX this
 refine⟨?_,f⟩;rw[iC,Ab,ki];refine m.grow ?_ (by rw[Aa];exact(T.oa.drop k).take _) λv hv z d=>?_
 ·rw[Aa,MY a.toList c.1,eu,eu];exact wH _ wG
 ·have d:=i z (zL.mp d);rcases cM.mp hv with hv|hv
  ·exact aT (f v hv) d
  ·obtain⟨j,h,e⟩:=jV hv;exact aT (T.ob.at e l '!') d
theorem MH.galB(T:jM R a.toList b.toList)(m:MH R all out.toList (a.toList.take (na+1)++b.toList.take nb))(i:a.toList[na]?=some x)(n:nb<=b.size)(c:m9 true R x b 0 nb k):MH R all (out++(b.extract k nb).reverse).toList (a.toList.take (na+1)++b.toList.take k)/\∀z∈b.toList.take k,R z<=R x:=by
 have f:∀z∈b.toList.take k,R z<=R x:=λz d=>by
  obtain⟨j,h,e⟩:=jV d;have:=c.2.1 j h;rw[iW,iw e] at this;exact cX this
 have l:∀z∈(b.toList.drop k).take (nb-k),R x<=R z:=λz d=>by
  obtain⟨j,h,e⟩:=jV d;rw[lJ] at e;have:=c.2.2 (k+j) '!' '!';rw[iW,iw e] at this;exact this
 refine⟨?_,f⟩;rw[iC,Ab,ki];refine m.grow ?_ (by rw[Aa];exact(T.ob.drop k).take _) λv hv z d=>?_
 ·rw[Aa,MY b.toList c.1,eu]
 ·have d:=l z (zL.mp d);rcases cM.mp hv with hv|hv
  ·obtain⟨j,h,e⟩:=jV hv;exact aT (T.oa.at e i '!') d
  ·exact aT (f v hv) d
end
theorem yj(a:Array Keyed)(n:Nat):(a.extract 0 n).toList=a.toList.take n:=by
 rw[ki,KZ,Nat.sub_zero]
theorem MH.done{R:Keyed->Nat}{a:Array Keyed}{b:Array Keyed}{c:Array Keyed}{d:Nat}{nb:Nat}(T:jM R a.toList b.toList)(m:MH R (a.toList++b.toList) c.toList (a.toList.take d++b.toList.take nb))(h:d=0\/nb=0):Fin R a.toList b.toList (a.extract 0 d++b.extract 0 nb++c.reverse):=by
 unfold Fin;rw[iC,iC,yj,yj,Ab];refine m.fin (.refl _) ?_;rcases h with rfl|rfl
 ·rw[List.take_zero,K0];exact T.ob.take _
 ·rw[List.take_zero,fE];exact T.oa.take _
theorem MH.firstB{R:Keyed->Nat}{a:Array Keyed}{b:Array Keyed}{c:Array Keyed}{d:Nat}{nb:Nat}(T:jM R a.toList b.toList)(m:MH R (a.toList++b.toList) c.toList (a.toList.take d++b.toList.take nb))(h:nb=1):Fin R a.toList b.toList (b.extract 0 nb++a.extract 0 d++c.reverse):=by
 unfold Fin;rw[iC,iC,yj,yj,Ab];refine m.fin wG (sT.mpr ⟨T.ob.take _,T.oa.take _,λv f z g=>?_⟩);obtain⟨j,i,e⟩:=jV f;have:j=0:=by lia
 subst this;exact T.first v e z (pA g)
section
variable {out:Array Keyed}{na:Nat}{nb:Nat}
inductive H1 (R:Keyed->Nat) (a b:Array Keyed) (au:SortSt) (x:Nat):Option (Array Keyed)×Nat×Nat×Array Keyed×Nat->SortSt->Prop where
 |mk {na nb:Nat}{out:Array Keyed}{g:Nat}{st':SortSt}(sm:jk au st') (m:MH R (a.toList++b.toList) out.toList (a.toList.take na++b.toList.take nb)) (a1:1<=na) (a2:na<=a.size) (b1:2<=nb) (b2:nb<=b.size) (hx:x+na+nb<a.size+b.size):H1 R a b au x (none,na,nb,out,g) st'
inductive H2 (R:Keyed->Nat) (a b:Array Keyed) (au:SortSt) (x:Nat):Option (Array Keyed)×Nat×Nat×Array Keyed×Nat×Nat->SortSt->Prop where
 |mk {na nb:Nat}{out:Array Keyed}{ac bc:Nat}{st':SortSt}(sm:jk au st') (m:MH R (a.toList++b.toList) out.toList (a.toList.take na++b.toList.take nb)) (a1:1<=na) (a2:na<=a.size) (b1:2<=nb) (b2:nb<=b.size) (hx:na+nb<=x):H2 R a b au x (none,na,nb,out,ac,bc) st'
inductive H3 (R:Keyed->Nat) (a b:Array Keyed) (au:SortSt) (x y:Nat):Option (Array Keyed)×Nat×Nat×Array Keyed×Nat×Nat×Nat->SortSt->Prop where
 |mk {na nb:Nat}{out:Array Keyed}{g ac bc:Nat}{st':SortSt}(sm:jk au st') (m:MH R (a.toList++b.toList) out.toList (a.toList.take na++b.toList.take nb)) (a1:1<=na) (a2:na<=a.size) (b1:2<=nb) (b2:nb<=b.size) (hx:y+na+nb<=x):H3 R a b au x y (none,na,nb,out,g,ac,bc) st'
end
section
variable {prog:Program}{w:World}{A:Around}{E:Value->Shared->Prop}{s:Shared}{κ:SortKind}{a₀:Array Keyed}{R:Keyed->Nat}{a:Array Keyed}{b:Array Keyed}{out:Array Keyed}{na:Nat}{nb:Nat}{k:Nat}{y:Keyed}{x:Keyed}
theorem KN{au:SortSt}{Q:Array Keyed->SortSt->Prop}(O:kb prog w A s κ a₀ R)(hk:kindOf au=κ)(ma:∀x∈a.toList,x∈a₀.toList)(mb:∀x∈b.toList,x∈a₀.toList)(T:jM R a.toList b.toList)(ha:1<=a.size)(hb:1<=b.size)
  (b8:∀x,a.toList[a.size-1]?=some x->∀y∈b.toList,R y<=R x)(h:∀r C,jk au C->Fin R a.toList b.toList r->Q r C):wpS (model prog w) A E s (l4 a b) Q au:=by
 have d:∀(i:Nat) (hi:i<a.size),a[i]?=some a[i]/\a.toList[i]?=some a[i]/\a[i]∈a₀.toList:=λi hi=>⟨getElem?_pos a i hi,by rw[gj];exact getElem?_pos a i hi,ma _ '&'⟩
 have o:∀(i:Nat) (hi:i<b.size),b[i]?=some b[i]/\b.toList[i]?=some b[i]/\b[i]∈a₀.toList:=λi hi=>⟨getElem?_pos b i hi,by rw[gj];exact getElem?_pos b i hi,mb _ '&'⟩
 have b9:∀n,n<=a.size->eF R a 0 (0+n):=λn hn p q a1 a2 U=>by
  have hq:q<a.size:=cD U (aT (gV (iW n)) hn);have e1:=(d p (jw a2 hq)).2.1;have e2:=(d q hq).2.1;rw[iw e1,iw e2];exact T.oa.at e1 e2 a2
 have b7:∀n,n<=b.size->eF R b 0 (0+n):=λn hn p q a1 a2 U=>by
  have hq:q<b.size:=cD U (aT (gV (iW n)) hn);have e1:=(o p (jw a2 hq)).2.1;have e2:=(o q hq).2.1;rw[iw e1,iw e2];exact T.ob.at e1 e2 a2
 obtain⟨x0,f0,f1⟩:∃x,a[a.size-1]?=some x/\a.toList[a.size-1]?=some x:=⟨_,(d (a.size-1) (nU ha Nat.one_pos)).1,(d (a.size-1) (nU ha Nat.one_pos)).2.1⟩
 have start:MH R (a.toList++b.toList) (#[x0]:Array Keyed).toList (a.toList.take (a.size-1)++b.toList.take b.size):=by
  have z:MH R (a.toList++b.toList) (#[]:Array Keyed).toList (a.toList.take (a.size-1+1)++b.toList.take b.size):=by
   refine⟨?_,List.Pairwise.nil,by simp⟩;rw[sP ha,lL '&',lL '&'];simp
  exact z.pushA T f1 λy hy=>b8 x0 f1 y (pA hy)
 refine aZ (pd (kt ⟨rfl,aZ (o0 f0 (uy (λc1=>?_) (λc2=>?_) λc1 c2=>?_))⟩))
 ·exact bn (h _ _ (.refl _) (start.done T (.inl (by simpa using c1))))
 ·exact bn (h _ _ (.refl _) (start.firstB T (by simpa using c2)))
 simp only[jX] at c1 c2;refine aZ (kr ?_);refine aZ (iP (iA (I:=H1 R a b au) (Q:=Dn R a b au) ?_ ?_ (.mk (.refl _) start '!' '!' '!' (bi _) '!')) ?_)
 ·rintro x c a9 x1 x2 @⟨na,nb,out,g,a9,b0,m,a1,a2,b1,b2,hx⟩;dsimp only;refine aZ (iP (iA (I:=λ_=>H2 R a b au (na+nb)) (Q:=λc C=>Dn R a b au c C\/H2 R a b au (na+nb) c C) ?_ ?_ (.mk b0 m a1 a2 b1 b2 (bi _))) ?_)
  ·rintro x' c a7 _ _ @⟨na',v,out,ac,bc,a7,l,m,X,G,Y,t,hp⟩;obtain⟨p,rfl⟩:∃p,na'=p+1:=⟨na'-1,(sP X).symm⟩
   obtain⟨q,rfl⟩:∃q,v=q+1:=⟨v-1,(sP (jD Y)).symm⟩
   dsimp only;have ea:=(d p G).1;have S:=(d p G).2.1;have b3:=(d p G).2.2;have eb:=(o q t).1;have P:=(o q t).2.1;have b4:=(o q t).2.2;refine ew eb (ew ea (vm O (l.kind.trans hk) b4 b3 (λcw=>ew ea ?_) λcw=>ew eb ?_))
   ·skip
    have m2:=m.pushA T S λz hz=>by
     obtain⟨j,hj,e⟩:=jV hz;exact aT (T.ob.at e P (ju hj)) (cX cw)
    refine fk (λc5=>bn (.inl (.mk l (m2.done T (.inl (eq_of_beq c5)))))) λc5=>?_
    rw[jX] at c5;have U:1<=p:=Lm c5;have a4:p<=a.size:=jD G;have a5:p+(q+1)<=na+nb:=aT (Nat.add_le_add_right (Nat.le_succ p) _) hp;exact fk (λ_=>bn (.inr (.mk l m2 U a4 Y t a5))) λ_=>bn (.mk l m2 U a4 Y t a5)
   ·skip
    have m2:=m.pushB T P λz hz=>by
     obtain⟨j,hj,e⟩:=jV hz;exact aT (T.oa.at e S (ju hj)) cw
    refine fk (λc5=>bn (.inl (.mk l (m2.firstB T (eq_of_beq c5))))) λc5=>?_
    rw[jX] at c5;have U:2<=q:=jE (Nat.le_of_succ_le_succ Y) (cb c5);have a4:q<=b.size:=jD t;have a5:p+1+q<=na+nb:=jD hp;exact fk (λ_=>bn (.inr (.mk l m2 X G U a4 a5))) λ_=>bn (.mk l m2 X G U a4 a5)
  ·exact λc a7 k=>.inr k
  ·rintro c a7 (⟨l,f⟩|@⟨na',v,out,ac,bc,a7,l,m,X,G,Y,t,hp⟩)
   ·exact bn (.mk l f)
   ·dsimp only;refine aZ (pd (kt ⟨rfl,?_⟩));refine aZ (iP (iA (I:=H3 R a b au (na+nb)) (Q:=λc C=>Dn R a b au c C\/H3 R a b au (na+nb) 1 c C) ?_ ?_ (.mk l m X G Y t (by rw[iW];exact hp))) ?_)
    ·rintro x' c a8 _ c8 @⟨na',v,out,g',ac,bc,a8,H,m,X,G,Y,t,hp⟩;obtain⟨q,rfl⟩:∃q,v=q+1:=⟨v-1,(sP (jD Y)).symm⟩
     dsimp only;have eb:=(o q t).1;have P:=(o q t).2.1;have b4:=(o q t).2.2;generalize g'-1=X;generalize g'=y;revert X;revert y
     refine uz ?_;intro gg;refine aZ (nQ λc3 sg=>?_);have u:=H.trans sg;refine ew eb (aZ (su O (u.kind.trans hk) b4 (λi hi=>⟨_,(d (0+i) '!').1,(d (0+i) '!').2.2⟩) '!' (b9 na' G) λk1 J=>?_));have m5:=(m.galA T P G J).1;have u5:=(m.galA T P G J).2;have b6:=J.1;dsimp only;refine ux (λc6=>?_) (λc6 c7=>?_) λhh=>?_
     ·have z:k1=na':=by lia
      subst z;rw[show out++(a.extract k1 k1).reverse=out by simp[pj]]
     ·exact bn (.inl (.mk u (m5.done T (.inl (eq_of_beq c7)))))
     have g5:1<=k1:=by
      by_cases c6:na'-k1 > 0
      ·have:=hh c6;simp at this;lia
      ·lia
     have g6:k1<=a.size:=aT b6 G;have c4:x'+k1+(q+1)<=na+nb:=by lia
     clear hh b6 J;generalize out++(a.extract k1 na').reverse=out5 at m5 ⊢;obtain⟨p,rfl⟩:∃p,k1=p+1:=⟨k1-1,(sP g5).symm⟩
     simp only[Nat.add_sub_cancel];have m6:=m5.pushB T P u5;have ea:=(d p g6).1;have S:=(d p g6).2.1;have b3:=(d p g6).2.2;refine ew eb (fk (λc9=>bn (.inl (.mk u (m6.firstB T (eq_of_beq c9))))) λc9=>ew ea ?_);rw[jX] at c9;refine aZ (su O (u.kind.trans hk) b3 (λi hi=>⟨_,(o (0+i) '!').1,(o (0+i) '!').2.2⟩) '!' (b7 q (jD t)) λk2 a0=>?_);have m7:=(m6.galB T S (jD t) a0).1;have u7:=(m6.galB T S (jD t) a0).2;have c0:=a0.1;dsimp only;refine vk (λd6=>?_) (λd6 d7=>?_) (λd6 d9=>?_) λhh=>?_
     ·have z2:k2=q:=by lia
      subst z2;simp only[LL (aT (pj _ _) (bi _)),Array.reverse_empty,zW]
     ·exact bn (.inl (.mk u (m7.firstB T (eq_of_beq d7))))
     ·exact bn (.inl (.mk u (m7.done T (.inr (eq_of_beq d9)))))
     have b5:2<=k2:=by
      by_cases d6:q-k2 > 0
      ·have:=hh d6;simp at this;lia
      ·lia
     have m8:=m7.pushA T S u7;refine ew ea (fk (λd8=>bn (.inl (.mk u (m8.done T (.inl (eq_of_beq d8)))))) λd8=>?_);rw[jX] at d8;have U:1<=p:=Lm d8;have a4:p<=a.size:=jD g6;have a5:k2<=b.size:=aT c0 (jD t);have a6:x'+1+p+k2<=na+nb:=by lia
     exact fk (λ_=>bn (.inr (.mk u m8 U a4 b5 a5 '!'))) λ_=>bn (.mk u m8 U a4 b5 a5 a6)
    ·rintro c a8 ⟨H,m,X,G,Y,t,hp⟩;exact .inr (.mk H m X G Y t '!')
    ·rintro c a8 (⟨H,f⟩|@⟨na',v,out,g',ac,bc,a8,H,m,X,G,Y,t,hp⟩)
     ·exact bn (.mk H f)
     ·have h9:x+1+na'+v<a.size+b.size:=by lia
      exact aZ (nQ λc3 sg=>bn (.mk (H.trans sg) m X G Y t h9))
 ·rintro c a9 ⟨b0,m,a1,a2,b1,b2,hx⟩;lia
 ·rintro c a9 ⟨b0,f⟩;exact bn (h _ a9 b0 f)
end
theorem AU:∀(l:List Keyed) (n b:Nat) (d:Array Keyed),b+n+l.length<=d.size->∀i,((l.zipIdx n).foldl (λa p=>a.setIfInBounds (b+p.2) p.1) d)[i]?=if b+n<=i/\i<b+n+l.length then l[i-(b+n)]? else d[i]?
 |[],n,b,d,h,i=>by
  rw[if_neg '&']
  rfl
 |x::l,n,b,d,h,i=>by
  rw[K6,zG];rw[d5] at h;have e:b+(n+1)+l.length=b+n+(l.length+1):=Nat.succ_add_eq_add_succ (b+n) l.length;rw[AU l (n+1) b _ (by rw[Array.size_setIfInBounds];exact aT (gV e) h) i];rw[d5];by_cases c:b+(n+1)<=i/\i<b+(n+1)+l.length
  ·rw[if_pos c,if_pos ⟨jD c.1,qX c.2 e⟩,show i-(b+n)=i-(b+(n+1))+1 from(sP (px c.1)).symm,LC]
  ·rw[if_neg c];by_cases c2:i=b+n
   ·rw[if_pos ⟨gV c2.symm,jw (gV c2) (Al (Nat.succ_pos _))⟩,c2,kQ,List.getElem?_cons_zero];exact Array.getElem?_setIfInBounds_self_of_lt (cD (Al (Nat.succ_pos l.length)) h)
   ·rw[if_neg λz=>c ⟨jE z.1 (cb c2),qX z.2 e.symm⟩];exact PL (λz=>c2 z.symm)
theorem Jb{m b:Array Keyed}(h:off+m.size<=b.size):(m.toList.zipIdx.foldl (λa p=>a.setIfInBounds (off+p.2) p.1) b).toList=b.toList.take off++m.toList++b.toList.drop (off+m.size):=by
 apply wC;intro i;rw[gj,AU m.toList 0 off b (by simpa using h) i];simp only[wm,gL];have d:(b.toList.take off).length=off:=by rw[iY,gL];exact jZ (aT (eK _ _) h)
 by_cases c:off<=i/\i<off+m.size
 ·rw[if_pos c,eu,iE (aT (gV d) c.1),d,f7 (by rw[gL];exact ow c.1 c.2)]
 ·rw[if_neg c];by_cases c2:i<off
  ·rw[eu,f7 (qX c2 d.symm),Ll,if_pos c2,gj]
  ·have e:off+m.size<=i:=fF λz=>c ⟨fF c2,z⟩
   rw[iE (by rw[cq,d,gL];exact e),lJ];simp only[cq,d,gL];rw[ic e,gj]
theorem vU{R:Keyed->Nat}(d:eF R xs i j)(e:j<=xs.size):Ord R (xs.extract i j).toList:=by
 rw[ki];refine Ao.mpr λp q c a b=>?_
 simp only[iY,gr,gL] at c a;simp only[List.getElem_take,Lc,Array.getElem_toList];have:=d (i+p) (i+q) (eK _ _) (gY (cX b) i) (mV (cD a (pj _ _)));rw[iO (getElem?_pos xs (i+p) (mV (cD c (zM _ _)))),iO (getElem?_pos xs (i+q) (mV (cD a (zM _ _))))] at this;exact this
theorem r9{a:Array Keyed}(h:x∈(a.extract i j).toList):∃q,i<=q/\q<j/\a[q]?=some x:=by
 rw[ki] at h;obtain⟨q,b,e⟩:=jV h;rw[lJ,gj] at e;exact⟨i+q,eK _ _,mV b,e⟩
theorem uN{a:Array Keyed}(h:q<j-i):(a.extract i j).toList[q]?=a[i+q]?:=by
 rw[ki,Ll,if_pos h,lJ,gj]
structure Mg (R:Keyed->Nat) (xs ys:Array Keyed) (lo hi:Nat):Prop where
 perm:ys.Perm xs
 out:cV ys xs lo hi
 up:eF R ys lo hi
theorem Kh{R:Keyed->Nat}{d:Array Keyed}{b sb ea k nb':Nat}(a6:sb<=ea)(s:ea<=d.size)(w:b+k<sb)(n:sb+nb'<=ea)(a7:1<=nb')(C:eF R d b sb)(I:eF R d sb ea)
  (e0:d[sb]?=some y0)(el:d[sb-1]?=some xl)(S:m9 false R y0 d b (sb-b) k)(c2:m9 true R xl d sb (ea-sb) nb')
  (f:Fin R (d.extract (b+k) sb).toList (d.extract sb (sb+nb')).toList m):Mg R d (m.toList.zipIdx.foldl (λa p=>a.setIfInBounds (b+k+p.2) p.1) d) b ea:=by
 have lx:(d.extract (b+k) sb).toList.length=sb-(b+k):=by rw[ki,iY,gr,gL];exact jZ (q7 (aT a6 s) _)
 have ly:(d.extract sb (sb+nb')).toList.length=nb':=by rw[ki,iY,gr,gL,kW];exact jZ (pC (aT n s))
 have P:m.size=sb+nb'-(b+k):=by
  have:=f.1.length_eq;rw[cq,lx,ly,gL] at this;exact this.trans (Nat.sub_add_comm (cX w)).symm
 have Y:b+k+m.size=sb+nb':=by rw[P];exact ic (aT (cX w) (eK _ _))
 have E:b+k+m.size<=d.size:=by rw[Y];exact aT n s
 have J:=ky w;have s1:sb-1<sb:=nU (zS w) Nat.one_pos;have g:∀i,(m.toList.zipIdx.foldl (λa p=>a.setIfInBounds (b+k+p.2) p.1) d)[i]?=if b+k<=i/\i<sb+nb' then m.toList[i-(b+k)]? else d[i]?:=λi=>by
  have:=AU m.toList 0 (b+k) d (by simpa using E) i;simp only[wm,gL] at this;rw[Y] at this;exact this
 have A:∀v∈m.toList,R y0<=R v/\R v<=R xl:=λv hv=>by
  rcases cM.mp (f.1.mem_iff.mp hv) with hv|hv
  ·obtain⟨q,x,H,e⟩:=r9 hv;have T:=aT (eK _ _) x;have r:=S.2.2 (q-b) (pC x) (oq T H);rw[ic T,iO e] at r;have t:=C q (sb-1) T (ky H) s1;rw[iO e,iO el] at t;have a5:R y0<R v:=r;exact⟨cX a5,t⟩
  ·obtain⟨q,x,H,e⟩:=r9 hv;have r:=I sb q (bi _) x (cD H n);rw[iO e,iO e0] at r;have t:=c2.2.1 (q-sb) (ow x H);rw[ic x,iO e] at t;have a0:R v<R xl:=t;exact⟨r,cX a0⟩
 have a4:∀i,b<=i->i<b+k->kA R d i<=R y0:=λi o l=>by
  have:=S.2.1 (i-b) (ow o l);rw[ic o] at this;exact this
 have G:∀i,sb+nb'<=i->i<ea->R xl<=kA R d i:=λi o l=>by
  have i0:=aT (eK _ _) o;have:=c2.2.2 (i-sb) (pC o) (oq i0 l);rw[ic i0] at this;exact this
 have kk:∀i,kA R (m.toList.zipIdx.foldl (λa p=>a.setIfInBounds (b+k+p.2) p.1) d) i=if b+k<=i/\i<sb+nb' then kA R m (i-(b+k)) else kA R d i:=λi=>by
  have:=g i;split
  ·rename_i c;rw[if_pos c,gj] at this;exact nu this
  ·rename_i c;rw[if_neg c] at this;exact nu this
 have U:∀i,i<m.size->∃v,m.toList[i]?=some v/\v∈m.toList:=λi X=>⟨m.toList[i]'(by simpa using X),bQ _,h8 _⟩
 refine⟨?_,λi X=>?_,λi j o l a3=>?_⟩
 ·refine wL.mpr ?_;rw[Jb E,Y];have split:d.toList=d.toList.take (b+k)++((d.extract (b+k) sb).toList++(d.extract sb (sb+nb')).toList)++d.toList.drop (sb+nb'):=by
   rw[ki,ki];rw[kW]
   conv=>lhs;rw[←mU (b+k) d.toList,←mU (sb-(b+k)) (d.toList.drop (b+k)),lE,ic (cX w),←mU nb' (d.toList.drop sb),lE]
   simp only[eu]
  conv=>rhs;rw[split]
  exact Ak _ (wH _ f.1)
 ·rw[g i,if_neg λz=>X.elim (λh=>lH (aT (eK b k) z.1) h) λh=>lH h (cD z.2 n)]
 ·rw[kk,kk];by_cases ci:b+k<=i/\i<sb+nb'
  ·rw[if_pos ci];obtain⟨v,ev,mv⟩:=U (i-(b+k)) (by rw[P];exact oq ci.1 ci.2);rw[iw ev];by_cases cj:b+k<=j/\j<sb+nb'
   ·rw[if_pos cj];obtain⟨u,Q,mu⟩:=U (j-(b+k)) (by rw[P];exact oq cj.1 cj.2);rw[iw Q];exact f.2.at ev Q (q7 l _)
   ·rw[if_neg cj];exact aT (A v mv).2 (G j (fF λz=>cj ⟨aT ci.1 l,z⟩) a3)
  ·rw[if_neg ci];by_cases ci2:i<b+k
   ·have r:=a4 i o ci2;by_cases cj:b+k<=j/\j<sb+nb'
    ·rw[if_pos cj];obtain⟨u,Q,mu⟩:=U (j-(b+k)) (by rw[P];exact oq cj.1 cj.2);rw[iw Q];exact aT r (A u mu).1
    ·rw[if_neg cj];by_cases cj2:j<b+k
     ·exact C i j o l (qQ cj2 w)
     ·have t:=G j (fF λz=>cj ⟨fF cj2,z⟩) a3;have h3:R y0<=R xl:=by
       have s0:=aT (eK _ _) J;have h4:=S.2.2 (sb-1-b) (pC J) (oq s0 s1);rw[ic s0,iO el] at h4;exact cX h4
      exact aT r (aT h3 t)
   ·have y:sb+nb'<=i:=fF λz=>ci ⟨fF ci2,z⟩
    rw[if_neg λz=>lH (aT y l) z.2];exact I i j (aT (eK _ _) y) l a3
section
variable {prog:Program}{w:World}{A:Around}{E:Value->Shared->Prop}{s:Shared}
theorem D9{x au:SortSt}{Q:Unit->SortSt->Prop}(h:Q () x):wpS (model prog w) A E s (set x:StateT SortSt Sem PUnit) Q au:=by
 unfold wpS;rw[StateT.run_set];exact ba ⟨rfl,h⟩
end
section
variable {prog:Program}{w:World}{A:Around}{E:Value->Shared->Prop}{s:Shared}{κ:SortKind}{a₀:Array Keyed}{R:Keyed->Nat}
theorem KM{i d S pw sb nb b4:Nat}{au:SortSt}{Q:Bool->SortSt->Prop}(O:kb prog w A s κ a₀ R)(b:B κ a₀ au)(p1:(pendingOf au)[i]?=some (d,S,pw))(p2:(pendingOf au)[i+1]?=some (sb,nb,b4))(l:sb=d+S)(b2:1<=S)(a6:1<=nb)(hz:sb+nb<=a₀.size)
  (o:eF R (arrOf au) d sb)(t:eF R (arrOf au) sb (sb+nb))
  (h:∀v,B κ a₀ v->pendingOf v=((pendingOf au).setIfInBounds i (d,S+nb,pw)).eraseIdxIfInBounds (i+1)->cV (arrOf v) (arrOf au) d (sb+nb)->eF R (arrOf v) d (sb+nb)->Q true v):wpS (model prog w) A E s (mergeAt' i) Q au:=by
 have a5:=b.size;have bs:sb<a₀.size:=cD (Al a6) hz;refine aZ (kr ?_);dsimp only;have J:(sortPriv% PySem.Builtin.SortState.pending) au=pendingOf au:=rfl;rw[J,p1,p2];dsimp only;refine aZ (D9 ?_);obtain⟨y0,e0,b0⟩:=b.mem (i:=sb) bs;have C:∀q,q<a₀.size->∃x,(arrOf au)[q]?=some x/\x∈a₀.toList:=λq hq=>b.mem hq
 refine aZ (o0 e0 ?_);refine aZ (su O b.kind b0 (λq hq=>C (d+q) (qQ (qX (mT hq d) l.symm) bs)) b2 (by rw[←l];exact o) λk c1=>?_);dsimp only;have hk:=c1.1;have a9:m9 false R y0 (arrOf au) d (sb-d) k:=by rw[show sb-d=S from by rw[l,kW]];exact c1
 by_cases d1:S-k=0
 ·rw[if_pos (by simpa using d1)];refine bn (h _ ⟨b.perm,b.kind,b.failed⟩ rfl (cV.refl _ _ _) λp q G r P=>?_);by_cases z1:q<sb
  ·exact o p q G r z1
  ·by_cases z2:p<sb
   ·have h1:=c1.2.1 (p-d) (cD (ow G (qX z2 l)) (Nat.le_of_sub_eq_zero d1));rw[ic G] at h1;have h2:=t sb q (bi _) (fF z1) P;rw[iO e0] at h2;exact aT h1 h2
   ·exact t p q (fF z2) r P
 ·rw[if_neg (by simpa using d1)];have j:d+k<sb:=qX (mT (pk λz=>d1 (Nat.sub_eq_zero_of_le z)) d) l.symm;have s1:sb-1<sb:=nU (zS j) Nat.one_pos;obtain⟨xl,el,a8⟩:=C (sb-1) (qQ s1 bs);have b3:(arrOf au)[d+k+(S-k)-1]?=some xl:=by rw[Nat.add_assoc,ic hk,←l];exact el
  refine aZ (o0 b3 ?_);refine aZ (su O b.kind a8 (λq hq=>C (sb+q) (cD (mT hq sb) hz)) (nU a6 Nat.one_pos) t λnb' c2=>?_);dsimp only;have b5:=c2.1;have b1:m9 true R xl (arrOf au) sb (sb+nb-sb) nb':=by rw[kW];exact c2
  by_cases d2:nb'=0
  ·rw[if_pos (by simpa using d2)];refine bn (h _ ⟨b.perm,b.kind,b.failed⟩ rfl (cV.refl _ _ _) λp q G r P=>?_);subst d2;by_cases z1:q<sb
   ·exact o p q G r z1
   ·by_cases z2:p<sb
    ·have h1:=o p (sb-1) G (ky z2) s1;rw[iO el] at h1;have h2:=c2.2.2 (q-sb) (eJ _) (ow (fF z1) P);rw[ic (fF z1)] at h2;exact aT h1 h2
    ·exact t p q (fF z2) r P
  ·rw[if_neg (by simpa using d2)];have H:1<=nb':=Lm d2;have a0:sb<=(arrOf au).size:=by rw[a5];exact cX bs
   have X:sb+nb<=(arrOf au).size:=by rw[a5];exact hz
   have u:sb+nb'<=sb+nb:=gY b5 sb;have oa:Ord R ((arrOf au).extract (d+k) sb).toList:=vU (λp q G r P=>o p q (aT (eK _ _) G) r P) a0;have ob:Ord R ((arrOf au).extract sb (sb+nb')).toList:=vU (λp q G r P=>t p q G r (cD P u)) (aT u X);have ma:∀x∈((arrOf au).extract (d+k) sb).toList,x∈a₀.toList:=λx n=>by
    obtain⟨q,J,Y,e⟩:=r9 n;obtain⟨x',e',m'⟩:=C q (qQ Y bs);rw[e] at e';cases e';exact m'
   have mb:∀x∈((arrOf au).extract sb (sb+nb')).toList,x∈a₀.toList:=λx n=>by
    obtain⟨q,J,Y,e⟩:=r9 n;obtain⟨x',e',m'⟩:=C q (cD Y (aT u hz));rw[e] at e';cases e';exact m'
   have sx:((arrOf au).extract (d+k) sb).size=sb-(d+k):=by rw[Array.size_extract,jZ a0]
   have sy:((arrOf au).extract sb (sb+nb')).size=nb':=by rw[Array.size_extract,jZ (aT u X),kW]
   have a7:∀y,((arrOf au).extract sb (sb+nb')).toList[0]?=some y->∀x∈((arrOf au).extract (d+k) sb).toList,R y<=R x:=λy hy x n=>by
    rw[uN (by rw[kW];exact H),wm,e0] at hy;cases hy;obtain⟨q,J,Y,e⟩:=r9 n;have q0:=aT (eK _ _) J;have:=c1.2.2 (q-d) (pC J) (ow q0 (qX Y l));rw[ic q0,iO e] at this;exact cX this
   have a4:∀x,((arrOf au).extract (d+k) sb).toList[sb-(d+k)-1]?=some x->∀y∈((arrOf au).extract sb (sb+nb')).toList,R y<=R x:=λx n y hy=>by
    rw[uN (nU (px j) Nat.one_pos),show d+k+(sb-(d+k)-1)=sb-1 from by rw[←Nat.add_sub_assoc (px j),ic (cX j)],el] at n;cases n;obtain⟨q,J,Y,e⟩:=r9 hy;have:=c2.2.1 (q-sb) (ow J Y);rw[ic J,iO e] at this;exact cX this
   have T:∀m g,jk au g\/True->Fin R ((arrOf au).extract (d+k) sb).toList ((arrOf au).extract sb (sb+nb')).toList m->Mg R (arrOf au) (m.toList.zipIdx.foldl (λa p=>a.setIfInBounds (d+k+p.2) p.1) (arrOf au)) d (sb+nb):=λm _ _ f=>
    Kh (eK _ _) X j u H o t e0 el a9 b1 f
   by_cases d3:S-k<=nb'
   ·rw[if_pos d3];refine aZ (KO O b.kind ma mb ⟨oa,ob,λx n=>a4 x (by rw[gL,sx] at n;exact n)⟩ (by show 1<=((arrOf au).extract (d+k) sb).size;rw[sx];exact px j) (by show 1<=((arrOf au).extract sb (sb+nb')).size;rw[sy];exact H) a7 λm g I f=>?_);have U:=T m g (.inr trivial) f;refine aZ (lB (aZ (kr ?_)));have r:arrOf g=arrOf au:=I.arr;have f2:failedOf g=none:=I.failed.trans b.failed;refine bn (?_:Q ((failedOf g).isNone) (setArr g (m.toList.zipIdx.foldl (λa p=>a.setIfInBounds (d+k+p.2) p.1) (arrOf g))));rw[f2,r];exact h _ ⟨U.perm.trans b.perm,I.kind.trans b.kind,f2⟩ I.pend U.out U.up
   ·rw[if_neg d3];refine aZ (KN O b.kind ma mb ⟨oa,ob,a7⟩ (by show 1<=((arrOf au).extract (d+k) sb).size;rw[sx];exact px j) (by show 1<=((arrOf au).extract sb (sb+nb')).size;rw[sy];exact H) (λx n=>a4 x (by rw[sx] at n;exact n)) λm g I f=>?_);have U:=T m g (.inr trivial) f;refine aZ (lB (aZ (kr ?_)));have r:arrOf g=arrOf au:=I.arr;have f2:failedOf g=none:=I.failed.trans b.failed;refine bn (?_:Q ((failedOf g).isNone) (setArr g (m.toList.zipIdx.foldl (λa p=>a.setIfInBounds (d+k+p.2) p.1) (arrOf g))));rw[f2,r];exact h _ ⟨U.perm.trans b.perm,I.kind.trans b.kind,f2⟩ I.pend U.out U.up
end
def bo(R:Keyed->Nat) (a:Array Keyed):Nat->List (Nat×Nat×Nat)->Nat->Prop
 |s,[],e=>s=e
 |s,p::r,e=>p.1=s/\1<=p.2.1/\eF R a s (s+p.2.1)/\bo R a (s+p.2.1) r e
theorem bo.le{R:Keyed->Nat}:∀{l:List (Nat×Nat×Nat)}{s e:Nat},bo R xs s l e->s+l.length<=e
 |[],s,e,h=>by cases h;simp
 |p::r,s,e,h=>by
  have:=bo.le h.2.2.2;have:=h.2.1;simp;lia
theorem bo.append{R:Keyed->Nat}:∀{l m:List (Nat×Nat×Nat)}{s e:Nat},bo R xs s (l++m) e↔∃k,bo R xs s l k/\bo R xs k m e
 |[],m,s,e=>⟨λh=>⟨s,rfl,h⟩,λ⟨k,b,a⟩=>by cases b;exact a⟩
 |p::r,m,s,e=>by
  constructor
  ·rintro⟨b,a,d,f⟩;obtain⟨k,g,c⟩:=bo.append.mp f;exact⟨k,⟨b,a,d,g⟩,c⟩
  ·rintro⟨k,⟨b,a,d,f⟩,c⟩;exact⟨b,a,d,bo.append.mpr ⟨k,f,c⟩⟩
theorem eF.same{R:Keyed->Nat}(h:eF R xs a b)(e:∀i,a<=i->i<b->ys[i]?=xs[i]?):eF R ys a b:=λi j f c d=>by
 rw[nu (e i f (jw c d)),nu (e j (aT f c) d)];exact h i j f c d
theorem bo.same{R:Keyed->Nat}:∀{l:List (Nat×Nat×Nat)}{s e:Nat},bo R xs s l e->(∀i,s<=i->i<e->ys[i]?=xs[i]?)->bo R ys s l e
 |[],s,e,h,_=>h
 |p::r,s,e,h,k=>by
  have:=bo.le h.2.2.2;exact⟨h.1,h.2.1,h.2.2.1.same λi b a=>k i b (cD a (aT (eK _ _) this)),bo.same h.2.2.2 λi b a=>k i (aT (eK _ _) b) a⟩
theorem bo.power{R:Keyed->Nat}:∀{l m:List (Nat×Nat×Nat)},l.map (λp=>(p.1,p.2.1))=m.map (λp=>(p.1,p.2.1))->bo R xs s l e->bo R xs s m e:=by
 intro l
 induction l generalizing s with
 |nil=>intro m h k;cases m with
  |nil=>exact k
  |cons=>cases h
 |cons p r ih=>intro m h k;cases m with
  |nil=>cases h
  |cons q t=>
   rw[dr,dr] at h;obtain⟨i,g⟩:=List.cons.inj h;obtain⟨j,d⟩:=Prod.mk.inj i;obtain⟨f,c,b,a⟩:=k;rw[d] at c b a;exact⟨j.symm.trans f,c,b,ih g a⟩
theorem IE{l:List (Nat×Nat×Nat)}(h:i+1<l.length):∃b p q a,l=b++p::q::a/\b.length=i:=by
 refine⟨l.take i,l[i],l[i+1],l.drop (i+2),?_,by rw[iY];exact jZ (cX (ol h))⟩
 conv=>lhs;rw[←mU i l,sV (ol h),sV h]
section
variable {prog:Program}{w:World}{A:Around}{E:Value->Shared->Prop}{s:Shared}{κ:SortKind}{a₀:Array Keyed}{R:Keyed->Nat}
theorem rd{i e:Nat}{au:SortSt}{Q:Bool->SortSt->Prop}(O:kb prog w A s κ a₀ R)(b:B κ a₀ au)(y:bo R (arrOf au) 0 (pendingOf au).toList e)(he:e<=a₀.size)(Y:i+1<(pendingOf au).size)
  (h:∀a,B κ a₀ a->bo R (arrOf a) 0 (pendingOf a).toList e->(pendingOf a).size+1=(pendingOf au).size->(∀k,e<=k->(arrOf a)[k]?=(arrOf au)[k]?)->Q true a):wpS (model prog w) A E s (mergeAt' i) Q au:=by
 obtain⟨o,p,q,post,m,g⟩:=IE (l:=(pendingOf au).toList) (i:=i) (by simpa using Y);obtain⟨d,f,G⟩:=p;obtain⟨t,nb,r⟩:=q;rw[m] at y;obtain⟨k,J,g2⟩:=bo.append.mp y;obtain⟨C,z,H,n,I,v,u⟩:=g2;dsimp only at C z H n I v u;subst C;have l7:=bo.le u;have l1:=bo.le J;have X:(pendingOf au)[i]?=some (d,f,G):=by rw[←gj,m,iE (gV g),g,kQ];rfl
 have p2:(pendingOf au)[i+1]?=some (t,nb,r):=by rw[←gj,m,iE (aT (gV g) (eK i 1)),g,kW];rfl
 refine KM O b X p2 n z I '!' (by rw[n];exact H) (by rw[n];exact v) λa T S ou up=>?_
 have P:(pendingOf a).toList=o++(d,f+nb,G)::post:=by
  rw[S];rw[Array.toList_eraseIdxIfInBounds,Array.toList_setIfInBounds,m];rw[List.set_append_right _ _ (gV g),g,kQ,Lk,List.eraseIdx_append_of_length_le (aT (gV g) (eK i 1)),g,kW]
  rfl
 have c:∀j,j<d\/t+nb<=j->(arrOf a)[j]?=(arrOf au)[j]?:=ou
 refine h a T ?_ ?_ λj hj=>c j (.inr '!')
 ·rw[P];refine bo.append.mpr ⟨d,J.same λj U x=>c j (.inl x),rfl,by show 1<=f+nb;lia,?_,?_⟩
  ·show eF R (arrOf a) d (d+(f+nb));rw[show d+(f+nb)=t+nb by lia];exact up
  ·show bo R (arrOf a) (d+(f+nb)) post e;rw[show d+(f+nb)=d+f+nb by lia];exact u.same λj U x=>c j (.inr '!')
 ·have e1:(pendingOf a).size=(pendingOf a).toList.length:=by simp
  have e2:(pendingOf au).size=(pendingOf au).toList.length:=by simp
  rw[e1,e2,P,m];simp only[cq,d5];lia
end
theorem Fb [Decidable c] (e:a+1<n)(d:b+1<n):(if c then a else b)+1<n:=by split<;>assumption
theorem vS(h:∀x,g (f x)=g x):∀(l:List (Nat×Nat×Nat)) (i:Nat),(l.modify i f).map g=l.map g
 |[],i=>by simp
 |x::l,0=>by simp[h]
 |x::l,i+1=>by simp[vS h l i]
theorem bo.mod{R:Keyed->Nat}(h:bo R xs s l e)(i c:Nat):bo R xs s (l.modify i λx=>(x.1,x.2.1,c)) e:=
 h.power (vS (g:=λp=>(p.1,p.2.1)) (f:=λx=>(x.1,x.2.1,c)) (λ_=>rfl) l i).symm
section
variable {prog:Program}{w:World}{A:Around}{E:Value->Shared->Prop}{s:Shared}{κ:SortKind}{a₀:Array Keyed}{R:Keyed->Nat}
theorem FX{au:SortSt}{Q:Unit->SortSt->Prop}(O:kb prog w A s κ a₀ R)(b:B κ a₀ au)(pe:pendingOf au=#[])(h2:2<=a₀.size)
  (h:∀a,B κ a₀ a->eF R (arrOf a) 0 a₀.size->Q () a):wpS (model prog w) A E s sortRuns' Q au:=by
 have hz:=b.size;rw[sortRuns'_eq];refine aZ (kr ?_);dsimp only;rw[hz]
 refine aZ (iP (iA (I:=λx c a=>∃lo,c=(none,lo)/\B κ a₀ a/\bo R (arrOf a) 0 (pendingOf a).toList lo/\lo<=a₀.size/\x<=lo)
  (Q:=λc a=>c=(none,a₀.size)/\B κ a₀ a/\bo R (arrOf a) 0 (pendingOf a).toList a₀.size) ?_ ?_ ⟨0,rfl,b,by rw[pe];rfl,by lia,by lia⟩) ?_)
 ·rintro x c P x1 x2 ⟨lo,rfl,J,q,H,hx⟩;dsimp only;by_cases c1:lo ≥ a₀.size
  ·rw[if_pos c1];have:lo=a₀.size:=by lia
   subst this;exact bn ⟨rfl,J,q⟩
  rw[if_neg c1];refine aZ (HD O J '!' '!' λm j m1 m2 z U X=>?_);dsimp only;have e:bo R (arrOf j) 0 (pendingOf j).toList lo:=by
   rw[U.pend];exact q.same λi S T=>U.out i (.inl T)
  by_cases c2:m<minRun' a₀.size a₀.size 0
  ·rw[if_pos c2];refine aZ (pd (kt ⟨rfl,?_⟩));refine aZ (D8 O z '!' m1 '!' X λk y G l=>?_);have o:bo R (arrOf k) 0 (pendingOf k).toList lo:=by
    rw[G.pend];exact e.same λi S T=>G.out i (.inl T)
   have t:1<=min (a₀.size-lo) (minRun' a₀.size a₀.size 0):=by lia
   have v:lo+min (a₀.size-lo) (minRun' a₀.size a₀.size 0)<=a₀.size:=by lia
   simp only[Bool.not_true,ku,gS];generalize min (a₀.size-lo) (minRun' a₀.size a₀.size 0)=n at l t v G ⊢;refine aZ (kr ?_);cases hb:(pendingOf k).back? with
   |none=>
    dsimp only;refine aZ (lB (bn ⟨lo+n,rfl,⟨y.perm,y.kind,y.failed⟩,?_,v,by lia⟩));show bo R (arrOf k) 0 ((pendingOf k).push (lo,n,0)).toList (lo+n);rw[pu];exact bo.append.mpr ⟨lo,o,rfl,t,l,rfl⟩
   |some p=>
    obtain⟨s1,n1,p1⟩:=p;dsimp only;refine aZ (iP (iA (I:=λ_ c a=>c=(none,())/\B κ a₀ a/\bo R (arrOf a) 0 (pendingOf a).toList lo/\eF R (arrOf a) lo (lo+n)) (Q:=λc a=>c=(none,())/\B κ a₀ a/\bo R (arrOf a) 0 (pendingOf a).toList lo/\eF R (arrOf a) lo (lo+n)) ?_ (λ_ _ hh=>hh) ⟨rfl,y,o,l⟩) ?_)
    ·rintro x' c d _ _ ⟨rfl,u,g,f⟩;refine aZ (kr ?_);by_cases hs:(pendingOf d).size > 1
     ·rw[if_pos hs,getElem?_pos (pendingOf d) ((pendingOf d).size-2) '!'];obtain⟨s2,n2,p2⟩:=(pendingOf d)[(pendingOf d).size-2]' '!';dsimp only;split
      ·exact bn ⟨rfl,u,g,f⟩
      ·refine aZ (rd O u g H '!' λa3 b5 C _ k5=>?_);exact bn ⟨rfl,b5,C,f.same λi S T=>k5 i S⟩
     ·rw[if_neg hs];exact bn ⟨rfl,u,g,f⟩
    ·rintro c d ⟨rfl,u,g,f⟩;dsimp only;refine aZ (lB (aZ (lB (bn ⟨lo+n,rfl,⟨u.perm,u.kind,u.failed⟩,?_,v,by lia⟩))));refine(?_:bo R (arrOf d) 0 (((pendingOf d).modify ((pendingOf d).size-1) λx=>(x.1,x.2.1,_)).push (lo,n,0)).toList (lo+n));rw[pu,Array.toList_modify];exact bo.append.mpr ⟨lo,g.mod _ _,rfl,t,f,rfl⟩
  ·rw[if_neg c2];have y:=z;have o:=e;have l:=X;have t:=m1;have v:lo+m<=a₀.size:=by lia
   generalize j=k at y o l ⊢;generalize m=n at l t v ⊢;refine aZ (kr ?_);cases hb:(pendingOf k).back? with
   |none=>
    dsimp only;refine aZ (lB (bn ⟨lo+n,rfl,⟨y.perm,y.kind,y.failed⟩,?_,v,by lia⟩));show bo R (arrOf k) 0 ((pendingOf k).push (lo,n,0)).toList (lo+n);rw[pu];exact bo.append.mpr ⟨lo,o,rfl,t,l,rfl⟩
   |some p=>
    obtain⟨s1,n1,p1⟩:=p;dsimp only;refine aZ (iP (iA (I:=λ_ c a=>c=(none,())/\B κ a₀ a/\bo R (arrOf a) 0 (pendingOf a).toList lo/\eF R (arrOf a) lo (lo+n)) (Q:=λc a=>c=(none,())/\B κ a₀ a/\bo R (arrOf a) 0 (pendingOf a).toList lo/\eF R (arrOf a) lo (lo+n)) ?_ (λ_ _ hh=>hh) ⟨rfl,y,o,l⟩) ?_)
    ·rintro x' c d _ _ ⟨rfl,u,g,f⟩;refine aZ (kr ?_);by_cases hs:(pendingOf d).size > 1
     ·rw[if_pos hs,getElem?_pos (pendingOf d) ((pendingOf d).size-2) '!'];obtain⟨s2,n2,p2⟩:=(pendingOf d)[(pendingOf d).size-2]' '!';dsimp only;split
      ·exact bn ⟨rfl,u,g,f⟩
      ·refine aZ (rd O u g H '!' λa3 b5 C _ k5=>?_);exact bn ⟨rfl,b5,C,f.same λi S T=>k5 i S⟩
     ·rw[if_neg hs];exact bn ⟨rfl,u,g,f⟩
    ·rintro c d ⟨rfl,u,g,f⟩;dsimp only;refine aZ (lB (aZ (lB (bn ⟨lo+n,rfl,⟨u.perm,u.kind,u.failed⟩,?_,v,by lia⟩))));refine(?_:bo R (arrOf d) 0 (((pendingOf d).modify ((pendingOf d).size-1) λx=>(x.1,x.2.1,_)).push (lo,n,0)).toList (lo+n));rw[pu,Array.toList_modify];exact bo.append.mpr ⟨lo,g.mod _ _,rfl,t,f,rfl⟩
 ·rintro c P ⟨lo,rfl,J,q,H,hx⟩;have:lo=a₀.size:=by lia
  subst this;exact⟨rfl,J,q⟩
 ·rintro c P ⟨rfl,J,q⟩;dsimp only
  refine aZ (iP (iA (I:=λx c a=>c=(none,())/\B κ a₀ a/\bo R (arrOf a) 0 (pendingOf a).toList a₀.size/\(pendingOf a).size+x<=a₀.size)
   (Q:=λc a=>c=(none,())/\B κ a₀ a/\bo R (arrOf a) 0 (pendingOf a).toList a₀.size/\(pendingOf a).size<=1) ?_ ?_ ⟨rfl,J,q,by have:=q.le;simp at this;lia⟩) ?_)
  ·rintro x c j x1 x2 ⟨rfl,z,e,Y⟩;refine aZ (kr ?_);by_cases c1:(pendingOf j).size<=1
   ·rw[if_pos c1];exact bn ⟨rfl,z,e,c1⟩
   rw[if_neg c1];refine aZ (rd O z e (bi _) ?_ λk y o p3 _=>bn ⟨rfl,y,o,by lia⟩);exact Fb '!' '!'
  ·rintro c j ⟨rfl,z,e,Y⟩;exact⟨rfl,z,e,by lia⟩
  ·rintro c j ⟨rfl,z,e,Y⟩;refine bn (h j z ?_);cases hl:(pendingOf j).toList with
   |nil=>rw[hl] at e;have:0=a₀.size:=e;lia
   |cons p r=>
    have:r=[]:=by
     have e2:(pendingOf j).size=(pendingOf j).toList.length:=by simp
     rw[e2,hl,d5] at Y;exact LB.mp '!'
    subst this;rw[hl] at e;obtain⟨_,_,g3,g4⟩:=e;have a0:0+p.2.1=a₀.size:=g4;rw[a0] at g3;exact g3
end
end TS
namespace Srt
open PySem.W PyProof.Rows
theorem QK{g n:Type}(f:g->n):∀{l d:List n},l.Perm d->∀m:List g,d=m.map f->∃p:List g,p.Perm m/\l=p.map f:=by
 intro l d h
 induction h with
 |nil=>exact λm e=>⟨[],by rw[List.map_eq_nil_iff.mp e.symm],rfl⟩
 |cons x _ ih=>
  intro m e;cases m with
  |nil=>cases e
  |cons y m=>
   rw[dr] at e;injection e with j c
   obtain⟨p,i,k⟩:=ih m c;exact⟨y::p,i.cons y,by rw[dr,←k,j]⟩
 |swap x y l=>
  intro m e
  match m,e with
  |a::b::m,e=>
   rw[dr,dr] at e;injection e with j c
   injection c with c o
   exact⟨b::a::m,.swap _ _ _,by rw[dr,dr,j,c,o]⟩
 |trans _ _ ih1 ih2=>
  intro m e;obtain⟨p,i,k⟩:=ih2 m e;obtain⟨q,s,r⟩:=ih1 p k;exact⟨q,s.trans i,r⟩
noncomputable def tw(r:Nat->Nat) (a:List Value):Prop:=∀i j,i<a.length->j<a.length->a.getD i Value.none=a.getD j Value.none->r i=r j
open Classical in
noncomputable def j5(r:Nat->Nat) (a:List Value) (x:Keyed):Nat:=if h:∃i,i<a.length/\a.getD i Value.none=x.1 then r h.choose else 0
theorem Bs(a:tw r xs) (b:i<xs.length)(e:xs.getD i Value.none=x.1):j5 r xs x=r i:=by
 have h:∃i,i<xs.length/\xs.getD i Value.none=x.1:=⟨i,b,e⟩
 unfold j5;rw[dif_pos h];exact a _ _ h.choose_spec.1 b (h.choose_spec.2.trans e.symm)
theorem Nv(a:List Value):(a.toArray.zip a.toArray).toList=(List.range a.length).map λi=>((a.getD i Value.none,a.getD i Value.none):Keyed):=by
 rw[Array.toList_zip];apply List.ext_getElem
 ·simp
 ·intro i d b;have c:i<a.length:=by simpa using b
  simp[ie,c]
theorem IF{xs:List Value}(J:2<=xs.length)(d:tw r xs)
  (q:∀i j C,i<xs.length->j<xs.length->C (lt r i j) sg->kas_ask P w B κ xs i j C sg):
  wpAny (model P w) B ((sortRuns').run (SortSt.mk' κ (xs.toArray.zip xs.toArray) #[] 7 none)) (λy z=>∃p:Array Nat,(p.Perm (List.toArray (List.range xs.length))/\Up r p xs.length)/\(arrOf y.2).map (·.2)=cK xs p/\failedOf y.2=none/\z=sg) E sg:=by
 have v:(xs.toArray.zip xs.toArray).size=xs.length:=by simp
 have O:TS.kb P w B sg κ (xs.toArray.zip xs.toArray) (j5 r xs):=λx G y A C H=>by
  rw[Nv] at G A;obtain⟨i,o,rfl⟩:=de.mp G;obtain⟨j,g,rfl⟩:=de.mp A;rw[gq] at o g;rw[Bs d o rfl,Bs d g rfl] at H;exact q i j C o g H
 have run:=TS.FX (E:=E) (Q:=λ_ y=>∃p:Array Nat,(p.Perm (List.toArray (List.range xs.length))/\Up r p xs.length)/\(arrOf y).map (·.2)=cK xs p/\failedOf y=none) O (au:=SortSt.mk' κ (xs.toArray.zip xs.toArray) #[] 7 none) ⟨.refl _,rfl,rfl⟩ rfl (by rw[v];exact J) λy b R=>by
  obtain⟨l,m,u⟩:=QK (λi=>((xs.getD i Value.none,xs.getD i Value.none):Keyed)) (wL.mp b.perm) _ (Nv xs);have S:l.length=xs.length:=by rw[m.length_eq,zR]
  have t:∀k,(n:k<l.length)->l[k]<xs.length:=λk n=>gq.mp (m.mem_iff.mp (h8 n))
  have h:∀k,k<xs.length->TS.kA (j5 r xs) (arrOf y) k=At r l.toArray k:=λk n=>by
   have f:k<l.length:=by lia
   have e:(arrOf y)[k]?=some (xs.getD l[k] Value.none,xs.getD l[k] Value.none):=by
    rw[←gj,u,dm,bQ f]
    rfl
   rw[TS.iO e,Bs d (t k f) rfl];unfold At;simp[f]
  refine⟨l.toArray,⟨?_,λi j s g=>?_⟩,?_,b.failed⟩
  ·exact wL.mpr (by simpa using m)
  ·rw[←h i '!',←h j g];exact R i j (eJ _) s (by rw[v];exact g)
  ·unfold cK;apply Array.toList_inj.mp;rw[Array.toList_map,u,hZ]
   rfl
 exact hX run (λy z I=>by
  obtain⟨rfl,p,a,b,c⟩:=I
  exact⟨p,a,b,c,rfl⟩) λ_ _ x=>x
theorem Oj{au:Shared}(r:Nat->Nat) {a:List Value}{W:Fin->Shared->Prop}(s:au.heap.get? d=some (seqObj "list" a.toArray k))(b:a.length<=sizeLine)(l:tw r a)
  (ask:2<=a.length->Answers P w B r a {au with heap:=ed au.heap d a})
  (g:∀p:Array Nat,p.Perm (List.toArray (List.range a.length))->Up r p a.length->W (.done (.ret .none)) {au with heap:=sortedHeap au.heap d a (cK a p)}):
  wpAny (model P w) B (Builtin.«list.sort» ⟨[.ref d],[]⟩) W E au:=by
 obtain⟨c,v⟩:∃ c,(au.heap.update d (Obj.mapSeq λ_=>(#[]:Array Value))).get? d=some (seqObj "list" #[] c):=⟨_,get?_update_seq s λ_=>#[]⟩
 have h:(ed au.heap d a).get? d=some (seqObj "list" #[] c):=bL _ (bL _ v)
 have e:a.toArray.size=a.length:=cC;rw[list_sort_plain];refine am (listItems_at s rfl (am (listUpdate_at s rfl (am (seqEpoch_at v rfl (am (wpAny_newTuple (am (wpAny_newList (nV ?_) (eJ _))) (b))))) (by rw[e];exact b) (eJ _))));show wpAny (model P w) B _ W E {au with heap:=ed au.heap d a};dsimp only;by_cases two:a.toArray.size<2
 ·rw[if_pos two,if_pos two];rw[e] at two;have u:((arrOf (SortSt.mk' general' (a.toArray.zip a.toArray) #[] 7 none)).map (·.2))=cK a (List.toArray (List.range a.length)):=KG two
  refine am (ba (by
   rw[StateT.run_pure];refine am (ba (am (seqEpoch_at h rfl (am (listUpdate_at h rfl ?_ (eJ _) ?_)))))
   ·rw[if_neg '&'];refine ba ?_;rw[u];exact g _ (.refl _) λi j C I=>gV (congrArg (At r _) '!')
   ·rw[u];refine qW (aT (gV ?_) (b));unfold cK
    simp))
 ·rw[if_neg two,if_neg two];rw[e] at two;obtain⟨A,G,o⟩:=ask '!';refine am (hX (G (λf z=>f=A/\z={au with heap:=ed au.heap d a}) ⟨rfl,rfl⟩) (λf z n=>?_) λ_ _ x=>x.elim);obtain⟨rfl,rfl⟩:=n;have run:=IF (E:=E) (r:=r) (xs:=a) (κ:=f) (sg:={au with heap:=ed au.heap d a}) '!' l o;refine am (hX run (λH z n=>?_) λ_ _ x=>x);obtain⟨⟨⟩,y⟩:=H;obtain⟨p,q,m,t,rfl⟩:=n;dsimp only at m t ⊢;refine am (seqEpoch_at h rfl (am (listUpdate_at h rfl ?_ (eJ _) ?_)))
  ·rw[t,if_neg '&',m];exact ba (g p q.1 q.2)
  ·rw[m];refine qW (aT (gV ?_) (b));unfold cK;rw[cC,ax,gL,q.1.size_eq];simp
theorem Ra{B:Around}{au:Shared}(r:Nat->Nat) {a:List Value}{W:Value->Shared->Prop}(l:au.heap.IsList d a.toArray)(c:a.length<=sizeLine)(h:tw r a)
  (ask:2<=a.length->∀g:Heap,(∀b ob,au.heap.get? b=some ob->g.get? b=some ob)->Answers P w B.in1.in1 r a {au with heap:=g})
  (j:∀p:Array Nat,p.Perm (List.toArray (List.range a.length))->Up r p a.length->W (.ref (au.heap.objs.size+1)) {au with heap:=sortedAll au.heap a (cK a p)}):
  wpAny (model P w) B (call (.builtin "sorted") [.ref d]) W E au:=by
 let g0:Heap:=(au.heap.push (seqObj "list" #[] 0)).update au.heap.objs.size (Obj.mapSeq (·++a.toArray))
 have i:g0.objs.size=au.heap.objs.size+1:=(Heap.size_update ..).trans (size_push' _ _);have f:(g0.push (seqObj "list" a.toArray 0)).get? (au.heap.objs.size + 1)=some (seqObj "list" a.toArray 0):=by
  have z:=dD g0 (o:=seqObj "list" a.toArray 0) rfl
  rw[i] at z;exact z
 have k:∀ b ob,au.heap.get? b=some ob->(g0.push (seqObj "list" a.toArray 0)).get? b=some ob:=λb ob e=>by
  have lt:=bR e;exact bL _ ((Heap.get?_update_ne _ _ _ _ (ef lt)).trans (bL _ e))
 have q:argsOk "sorted" ⟨[.ref d],[]⟩:=args_sorted1 _
 refine Calls.call_function_entry kind_sorted plain_sorted entry_sorted q ?_;unfold Builtin.«sorted»;refine am (m:=checkCount "sorted" 1 1 _) (ba (am (collect_list l (am (wpAny_newList ?_ (c))) (c))))
 show wpAny _ _ _ _ _ { au with heap:=g0.push (seqObj "list" a.toArray 0) }
 have t:(Value.ref g0.objs.size)=Value.ref (au.heap.objs.size+1):=by rw[i]
 rw[show((au.heap.push (seqObj "list" #[] 0)).update au.heap.objs.size (Obj.mapSeq (·++a.toArray))).objs.size=au.heap.objs.size + 1 from i]
 refine am (nV (lG slot_list_sort ⟨_,f,rfl⟩ entry_list_sort (Oj r (au:={ au with heap:=g0.push (seqObj "list" a.toArray 0) }) f c h (λtwo=>?_) λp n s=>⟨_,rfl,ba ⟨_,rfl,j p n s⟩⟩) (args_list_sort _)))
 exact ask two _ λb ob e=>Ow (ef (zQ (bR e))) (k b ob e)
theorem QO{B:Around}{au:Shared}{T:String}{It:Nat->Value->Prop}(S:KdlSrc P w T a d n It OK)(J:B.handled=none)(G:OK au.heap)(s:n<=sizeLine){W:Value->Shared->Prop}
  (ask:∀o:List Value,o.length=n->(∀(j:Nat) (v:Value),o[j]?=some v->It j v)->∃r:Nat->Nat,tw r o/\(2<=n->∀(g:Heap) (i:Nat),(∀b ob,au.heap.get? b=some ob->g.get? b=some ob)->Answers P w B.in1.in1 r o {au with heap:=g,toks:=i}) /\
   ∀(p:Array Nat) (q:Addr) (g:Heap) (i c:Nat),p.Perm (List.toArray (List.range o.length))->Up r p o.length->(∀ b ob,au.heap.get? b=some ob->g.get? b=some ob)->(∀ b ob,au.heap.get? b=some ob->b≠q)->g.get? q=some (seqObj "list" (cK o p) c)->W (.ref q) { au with heap:=g,toks:=i }):
  wpAny (model P w) B (call (.builtin "sorted") [.ref a]) W E au:=by
 have H:argsOk "sorted" ⟨[.ref a],[]⟩:=args_sorted1 _
 refine Calls.call_function_entry kind_sorted plain_sorted entry_sorted H ?_;unfold Builtin.«sorted»;refine am (m:=checkCount "sorted" 1 1 _) (ba (am (kdu_collect (A:=B.in1) S J G (s) λg i f k h=>?_)))
 have len:f.toList.length=n:=by rw[gL];exact h.1
 obtain⟨r,u,z,x⟩:=ask f.toList len (λj v e=>h.2 j v (by rw[←gj];exact e));refine am (wpAny_newList ?_ (by rw[len];exact s));have l:(g.push (seqObj "list" f.toList.toArray 0)).get? g.objs.size=some (seqObj "list" f.toList.toArray 0):=dD g rfl
 have t:∀ b ob,au.heap.get? b=some ob->(g.push (seqObj "list" f.toList.toArray 0)).get? b=some ob:=λb ob e=>bL _ (k b ob e)
 have lt:∀b ob,au.heap.get? b=some ob->b≠g.objs.size:=λb ob e=>ef (bR (k b ob e))
 show wpAny _ _ _ _ _ { au with heap:=g.push (seqObj "list" f.toList.toArray 0),toks:=i }
 refine am (nV (lG slot_list_sort ⟨_,l,rfl⟩ entry_list_sort (Oj r (au:={ au with heap:=g.push (seqObj "list" f.toList.toArray 0),toks:=i }) l (by rw[len]; exact s) u (λtwo=>?_) λp C I=>⟨_,rfl,ba ⟨_,rfl,?_⟩⟩) (args_list_sort _)))
 ·exact z '!' _ i λb ob e=>Ow (lt b ob e) (t b ob e)
 ·obtain⟨c,y⟩:=sortedHeap_at (n:=0) (vs:=f.toList) (out:=cK f.toList p) l;refine x p g.objs.size _ i c C I (λb ob e=>?_) ?_ y
  ·rw[sortedHeap_old (lt b ob e) (bR (t b ob e))];exact t b ob e
  ·exact lt
end Srt
namespace L2
open Spec PyProof.Rows PySem.W
theorem dy(h:n<=1000000):n<=sizeLine:=aT h (by rw[hY];lia)
theorem Ou:∀{c:List Value}{a b:List Int},IntsAre c a->IntsAre c b->a=b
 |_,_,_,.nil,.nil=>rfl
 |_,_,_,.cons x t r,.cons _ _ r'=>by rw[Ou r r']
theorem MV(a:fB g ps):Srt.tw (Srt.fo (ps.map (·.2))) (ps.map λp=>Value.ref p.1):=λi j f h e=>by
 rw[ax] at f h;have m:ps[i]?=some ps[i]:=bQ f;have l:ps[j]?=some ps[j]:=bQ h;rw[jW (λp:Addr×List Int=>Value.ref p.1) _ m,jW (λp:Addr×List Int=>Value.ref p.1) _ l] at e;injection e with e
 obtain⟨us,o,n,t,c,v,b⟩:=a _ (h8 f);obtain⟨k,w,y,r,s,x,q⟩:=a _ (h8 h);rw[e,s] at c;injection c with c
 subst c;rw[q] at b;injection b with b _
 have u:k=us:=by simpa using b
 subst u;have d:=Ou t r;unfold Srt.fo;rw[jW (λp:Addr×List Int=>p.2) _ m,jW (λp:Addr×List Int=>p.2) _ l,d]
def fM(K:Fg):List V->Hp->VK->Prop:=λe H Q=>∃(l:Addr) (c:List (Addr×List Int)),e=[.ref l]/\cp K H l (c.map λp=>V.ref p.1)/\c.length<=1000000/\rJ K H c /\
 ∀(q:Addr) (d:List (Addr×List Int)),H q=none->d.Perm c->(d.map (·.2)).Pairwise (λa b=>HT.lexLt b a=false)->Q (.ref q) (aD H q (.lst (d.map λp=>V.ref p.1)))
def eR:List V->Hp->VK->Prop:=λe H Q=>∃(a:Addr) (b:List (List cN×V)) (d:List (List Int)),e=[.ref a]/\Rd H a (.dT b)/\b.map (·.1)=d.map (λf=>f.map Sum.inl)/\d.length<=1000000 /\
 ∀(q:Addr) (c:List (Addr×List Int)),H q=none->(c.map (·.2)).Perm d->(c.map (·.2)).Pairwise (λx y=>HT.lexLt y x=false)->(∀p∈c,H p.1=some (.tup (p.2.map V.int)))->Q (.ref q) (aD H q (.lst (c.map λp=>V.ref p.1)))
theorem Rc{X:Cx}(hu:X.A.units + 64<cLine):bu X (.builtin "sorted") (fM X.K):=by
 intro aW s σ H xs y Q I r h;obtain⟨l,ps,rfl,Y,j,E,q⟩:=h;obtain⟨u,rfl,T⟩:=vals1 r;cases T;obtain⟨k,C,pl,hz⟩:=I.list Y;have d:k=ps.map λp=>Value.ref p.1:=by
  have e:(ps.map λp=>V.ref p.1)=(ps.map (·.1)).map V.ref:=by rw[hZ];rfl
  rw[e] at C;rw[NW C,hZ]
  rfl
 subst d;have f:∀g:Heap,(∀b o,s.heap.get? b=some o->g.get? b=some o)->fB g ps:=λg c p P=>by
  obtain⟨y,i,⟨o,U,J,n,R⟩,_⟩:=I.tuple (E p P);exact⟨y,o,n,yG i,c _ _ U,J,R⟩
 refine Srt.Ra (Srt.fo (ps.map (·.2))) pl.isList (by rw[ax];exact dy j) (MV (f s.heap λ_ _ z=>z)) (λw g c=>vr (by show X.A.units+1+1<cLine;lia) (by rw[ax] at w;exact w) (f g c)) (λp m A=>?_);rw[ax] at m A;obtain⟨t,x,S,G⟩:=Nf m A;obtain⟨e,v⟩:=sortedAll_at s.heap (ps.map λp=>Value.ref p.1) (Srt.cK (ps.map λp=>Value.ref p.1) p);rw[G] at v ⊢;refine⟨.ref (s.heap.objs.size+1),_,I.laid (a:=s.heap.objs.size+1) (o:=.lst (t.map λp=>V.ref p.1)) (t':=s.toks) (λ_ _ z=>sortedAll_old z) (Nat.le_succ _) ⟨?_,_,e,O2 t,v⟩,rfl,q _ _ (I.hok.fresh (Nat.le_succ _)) x S⟩;rw[ax,x.length_eq];exact dy '!'
theorem Rm{X:Cx}(hc:X.calm=true)(hu:X.A.units + 64<cLine):bu X (.builtin "sorted") eR:=by
 intro aW s σ H xs U Q I r h;obtain⟨a,l,ks,rfl,hd,ek,a5,q⟩:=h;obtain⟨u,rfl,ru⟩:=vals1 r;cases ru;obtain⟨z,ns,ys,A,ob,j,ep,e1,e2,e3,e4,e5⟩:=(show aE X.prog X.w H s.heap a (.dT l) from hd.ok I.hok)
 obtain⟨ps,C,E,a3⟩:=N5 (P:=X.prog) (w:=X.w) A ek;have a0:ps.length=ks.length:=by rw[←C,ax]
 have e:j.toList.map (·.key)=ps.map λp=>Value.ref p.1:=by rw[e4,hZ];exact a3
 have a4:j.size=ps.length:=by
  have:=congrArg List.length e;rw[ax,ax,gL] at this;exact this
 have f:∀g:Heap,(∀b o,s.heap.get? b=some o->g.get? b=some o)->fB g ps:=λg d p v=>by
  obtain⟨U,rv,⟨o,b2,b3,n,b4⟩,_⟩:=I.tuple (bD.of (E p v));exact⟨U,o,n,yG rv,d _ _ b2,b3,b4⟩
 refine Srt.QO (Dct.Hn ns j ep) (I.ok.hd hc) ⟨ob,e1,e2,e3⟩ (dy '!') λy hl hv=>?_
 have k:y=ps.map λp=>Value.ref p.1:=by
  rw[←e];apply wC;intro i;by_cases hi:i<j.size
  ·have T:y[i]?=some y[i]:=bQ '!';obtain⟨en,S,h3⟩:=hv i _ T;rw[T,h3,dm,gj,S]
   rfl
  ·rw[ot '!',ot (by rw[ax,gL];lia)]
 subst k;refine⟨Srt.fo (ps.map (·.2)),MV (f s.heap λ_ _ z=>z),λS g tk d=>vr (by show X.A.units+1+1<cLine;lia) '!' (f g d),λp t g tk c R Y d G J=>?_⟩;rw[ax] at R Y;obtain⟨m,x,q2,q3⟩:=Nf R Y;rw[q3] at J;refine⟨.ref t,_,I.laidN (o:=.lst (m.map λp=>V.ref p.1)) d G ⟨?_,_,c,O2 m,J⟩,rfl,q t m (I.away G) ((x.map _).trans (by rw[C])) q2 λp v=>E p (x.mem_iff.mp v)⟩;rw[ax,x.length_eq];exact dy '!'
end L2
namespace L2
open Spec PyProof.Rows
def pL(K:Fg):R2:=λx y H Q=>∃a b c d,x=.ref a/\y=.ref b/\bD K H a c/\bD K H b d/\c.length+d.length<=sizeLine /\
 (c=[]->Q (.ref b) H)/\(c≠[]->d=[]->Q (.ref a) H)/\(c≠[]->d≠[]->∀p,H p=none->Q (.ref p) (aD H p (.tup (c++d))))
theorem G4:cB X (binaryOp .Add) (pL X.K):=by
 intro G s Y H x y v u Q I q o h;obtain⟨a,b,l,E,rfl,rfl,A,r,U,J,q1,q2⟩:=h;by_cases hx:l=[]
 ·cases q;cases o;obtain⟨i,r1,R,_⟩:=I.tuple A;obtain⟨d,r2,p2,_⟩:=I.tuple r;obtain⟨⟨P,dd,w,S⟩,t,m,n,p⟩:=id R;obtain⟨⟨C,k,data2,j⟩,g,c,T,f⟩:=id p2;simp only at m p c f;subst m p c f;have e:i=[]:=r1.nil_iff.mpr hx;exact concat_meets ⟨_,t,rfl⟩ ⟨_,g,rfl⟩ noFill_tuple_add seq_tuple_add LA LG (LI _ _)
   (tuple_addW0 a b i.toArray d.toArray n T dd k S j (by simp[e])) ⟨t,g,⟨.ref b,H,I,rfl,J hx⟩⟩
 ·exact G5 G s Y H _ _ v u Q I q o ⟨a,b,l,E,rfl,rfl,A,r,hx,U,λz=>q1 hx z,λz=>q2 hx z⟩
theorem JM{s:Shared}{lo b:Option Int}{W:Value->Shared->Prop}(a:IsTup s.heap t its)(h:s.heap.IsSliceOf sl vl vu .none)(m:IsPart vl lo)(i:IsPart vu b)
  (k:HT.bN its.size 0 lo=0)(l:HT.bN its.size its.size b=its.size)(g:W (.ref t) s):wpAny (model prog w) A (getItem (.ref t) (.ref sl)) W E s:=by
 obtain⟨os,c,e,j⟩:=id h;unfold getItem
 try with_reducible refine nV ?_
 first|refine am (ba ?_)|skip
 refine am (wpAny_sequenceKey a.typeIs '"' ?_);refine am (wpAny_callSpecial?_slot (name:=Str.ofString "__getitem__") a.typeIs zT (lG zT a.typeIs entry_tuple_getitem ?_ (args_tuple_getitem _ _)))
 show wpAny _ _ (Builtin.Tuple.tupleItemsOf (.ref t) >>= _) _ _ s;refine am (tupleItemsOf_ a ?_);have f:s.TypeIs (.ref sl) "slice":=⟨os,c,e⟩
 refine am (wpAny_typeOf f ?_);rw[if_pos '"'];refine am (HT.Pt h m i ?_);have d:(((HT.bN its.size 0 lo:Nat):Int)==0&&(1:Int)==1&&(HT.bN its.size its.size b-HT.bN its.size 0 lo)==its.size)=true:=by
  rw[k,l];simp
 show wpAny _ _ (if(((HT.bN its.size 0 lo:Nat):Int)==0&&(1:Int)==1&&(HT.bN its.size its.size b-HT.bN its.size 0 lo)==its.size)=true then _ else _) _ _ s;rw[if_pos d];refine am (?_:wpAny _ _ (Builtin.Tuple.tupleIsExact (.ref t)) _ _ s);unfold Builtin.Tuple.tupleIsExact;refine am (wpAny_typeOf a.typeIs (ba ?_));rw[if_pos '"'];exact am (kt (ba ⟨_,rfl,ba g⟩))
def Md(K:Fg):V->Option Int->Option Int->Hp->VK->Prop:=λx lo c H Q=>∃a b,x=.ref a/\bD K H a b/\(gA b lo c=b->Q (.ref a) H)/\∀p,H p=none->Q (.ref p) (aD H p (.tup (gA b lo c)))
theorem Hu:oO X (Md X.K):=by
 intro t s m H x v u q lo j n Q I f g l i h;obtain⟨a,c,rfl,k,p,o⟩:=h;by_cases hw:HT.bN c.length 0 lo=0/\HT.bN c.length c.length j=c.length
 ·cases f;obtain⟨d,r,e,w⟩:=I.tuple k;have b:d.toArray.size=c.length:=by rw[cC];exact r.length.symm
  refine⟨"tuple",_,zT.lookup,e.typeIs,?_⟩
  refine JM e g l i (by rw[b];exact hw.1) (by rw[b];exact hw.2) ⟨.ref a,H,I,rfl,p ?_⟩;unfold gA;rw[hw.1,hw.2];simp
 ·exact FR t s m H _ v u q lo j n Q I f g l i ⟨a,c,rfl,k,hw,o⟩
theorem Oz(a:List Int):∀k,k<=a.length->preSum (λi=>a.getD i 0) k=(a.take k).sum
 |0,_=>rfl
 |k+1,h=>by
  show preSum (λi=>a.getD i 0) k+a.getD k 0=_;rw[Oz a k '!',LN '!',zF,ie,bQ '!'];simp
theorem tK:∀{a:List Int}{b:List Value}{i:Nat}{v:Value},aq (a.map V.int) b->b[i]?=some v->∃t,v=.int (a.getD i 0) t
 |[],_,_,_,.nil,e=>by simp at e
 |n::a,_,0,_,.cons r _,e=>by
  simp at e;subst e
  obtain⟨t,rfl⟩:=r;exact⟨t,rfl⟩
 |n::a,_,i+1,v,.cons _ t,e=>by
  have:=tK (i:=i) t (by simpa using e)
  simpa using this
def wY(K:Fg):List V->Hp->VK->Prop:=λc H Q=>∃(a:Addr) (b:List Int),c=[.ref a]/\(cp K H a (b.map V.int)\/bD K H a (b.map V.int))/\Q (.int b.sum) H
theorem tV{X:Cx}(hc:X.calm=true):bu X (.builtin "sum") (wY X.K):=by
 intro aW s σ H xs us Q I r h;obtain⟨a,ns,rfl,hs,q⟩:=h;obtain⟨u,rfl,ru⟩:=vals1 r;cases ru;have key:∀{its:List Value}(h':Heap) (tk:Nat) (t':Tok) (nn:Nat),nn=ns.length->(∀b o,b≠s.heap.objs.size->s.heap.get? b=some o->h'.get? b=some o) ->
   EP X aW σ Q (.int (preSum (λi=>ns.getD i 0) nn) t') {s with heap:=h',toks:=tk}:=λh' tk t' nn hn hk=>by
  subst hn;rw[Oz ns _ (bi _),mR];exact⟨.int ns.sum,H,I.kept (t':=tk) λb o e=>hk b o (ef (bR e)) e,⟨_,rfl⟩,q⟩
 refine call_sum_walkG ?_;rcases hs with hs|hs
 ·obtain⟨its,rv,pl,hz⟩:=I.list hs;have hlt:a<s.heap.objs.size:=by obtain⟨o,n,e,_⟩:=pl;exact bR e
  have hl:=rv.length;rw[ax] at hl;refine zN pl.isList ?_;refine⟨s.heap.objs.size,_,[s.heap.objs.size],_,_,_,λi=>ns.getD i 0,rfl,Walks.list (A:=X.A.in1) (I.ok.hd hc) _ a (ef hlt) its.toArray,⟨⟨_,dD _ rfl,rfl,rfl⟩,pl.isList.push _⟩,?_,λi v e=>tK rv (by simpa using e),λh' tk t' hk=>?_⟩
  ·intro b hb;show b<(s.heap.push _).objs.size;rw[show ∀o:Obj,(s.heap.push o).objs.size=s.heap.objs.size+1 from λo=>by simp[Heap.push]];rcases ce.mp hb with rfl|hb
   ·exact zK _
   ·rcases ce.mp hb with rfl|hb
    ·exact zQ hlt
    ·cases hb
  ·exact key (its:=its) h' tk t' _ (by simp[hl]) λb o hb e=>hk b o (by simpa using hb) (bL _ e)
 ·obtain⟨its,rv,pl,hz⟩:=I.tuple hs;have hlt:a<s.heap.objs.size:=pl.lt;have hl:=rv.length;rw[ax] at hl;have pt:s.heap.IsTuple a its.toArray:=pl;refine sN pt ?_;refine⟨s.heap.objs.size,_,[s.heap.objs.size],_,_,_,λi=>ns.getD i 0,rfl,Walks.tuple (A:=X.A.in1) (I.ok.hd hc) _ a (ef hlt) its.toArray,⟨⟨_,dD _ rfl,rfl,rfl⟩,pt.push _⟩,?_,λi v e=>tK rv (by simpa using e),λh' tk t' hk=>?_⟩
  ·intro b hb;show b<(s.heap.push _).objs.size;rw[show ∀o:Obj,(s.heap.push o).objs.size=s.heap.objs.size+1 from λo=>by simp[Heap.push]];rcases ce.mp hb with rfl|hb
   ·exact zK _
   ·rcases ce.mp hb with rfl|hb
    ·exact zQ hlt
    ·cases hb
  ·exact key (its:=its) h' tk t' _ (by simp[hl]) λb o hb e=>hk b o (by simpa using hb) (bL _ e)
theorem Bt{A:Around}{s:Shared}(q:A.handled=none)(f:s.heap.IsTupleIter it t i)(h:s.heap.IsTuple t items)
  (m:∀x,items[i]?=some x->∀a,a.IsTupleIter it t (i+1)->Heap.SameBut it s.heap a->Q x {s with heap:=a})
  (k:items[i]?=none->∀ a e,Heap.ExtBut it s.heap a->(∃ o,a.get? e=some o/\o.cls=.type "StopIteration")->E (.ref e) { s with heap:=a }):wpAny (model prog w) A (Builtin.SmallTypes.nextOf (.ref it)) Q E s:=by
 rcases f with⟨o,b,d,c⟩
 rcases h with⟨u,l,_,n,j⟩
 refine am (wpAny_callSpecial?_slot (name:=Str.ofString "__next__") ⟨o,b,d⟩ F.slot_tuple_iterator_next (lG F.slot_tuple_iterator_next ⟨o,b,d⟩ F.entry_tuple_iterator_next ?_ (F.args_tuple_iterator_next_1 _)))
 have r:(#[Value.ref t,.int i 0]:Array Value)[0]?=some (.ref t):=rfl;have p:(#[Value.ref t,.int i 0]:Array Value)[1]?=some (.int i 0):=rfl
 wp_walk using iz b c r,iz b c p,nY l j
 rw[kT];cases hx:items[i]? with
 |some x=>
  exact am (nZ b c '&' (ba ⟨x,rfl,ba (m x hx _ ⟨_,wI _ b (Ad (om c _)),(Le ..).trans d,by rw[om c];simp[rawInt]⟩ (.update ..))⟩))
 |none=>
  have g:A.in1.handled=none:=q
  wp_walk using nZ b c '&'
  unfold raiseNew;refine am (wpAny_handled ?_);rw[g];exact am (ba (wpAny_throw (k hx _ _ ((wF ..).extBut.push _ |>.push _) ⟨_,dD _ rfl,rfl⟩)))
noncomputable def cS(b:Bool) (n:Int) (a:List Int):Int:=a.foldl (λi j=>if(if b then decide (j > i) else decide (j<i))=true then j else i) n
theorem A9:∀(ns:List Int) (n:Int),cS true n ns∈n::ns/\∀a∈n::ns,a<=cS true n ns
 |[],n=>⟨by simp[cS],by simp[cS]⟩
 |m::ns,n=>by
  have e:cS true n (m::ns)=cS true (if m > n then m else n) ns:=by simp[cS]
  obtain⟨d,b⟩:=A9 ns (if m > n then m else n);rw[e];refine⟨?_,λa ha=>?_⟩
  ·rcases ce.mp d with z|z
   ·rw[z];split<;>simp
   ·simp[z]
  ·have c:=b _ f6;rcases ce.mp ha with rfl|ha
   ·refine Int.le_trans ?_ c;split<;>lia
   ·rcases ce.mp ha with rfl|ha
    ·refine Int.le_trans ?_ c;split<;>lia
    ·exact b a (gZ _ ha)
theorem P3{ns:List Int}(g:k=ns.length):(n::ns).getD (argBest (λi j=>decide ((n::ns).getD i 0 >(n::ns).getD j 0)) k) 0=cS true n ns:=by
 subst g;obtain⟨m,d⟩:=argBest_gt (λi=>(n::ns).getD i 0) ns.length;obtain⟨l,c⟩:=A9 ns n;have b:argBest (λi j=>decide ((n::ns).getD i 0 >(n::ns).getD j 0)) ns.length<(n::ns).length:=by rw[d5];lia
 obtain⟨j,a,f⟩:=kx l;have h:=d j (by simp at a;lia);have o:=c ((n::ns).getD (argBest (λi j=>decide ((n::ns).getD i 0 >(n::ns).getD j 0)) ns.length) 0) (by rw[ie,bQ b];exact h8 b);have e:(n::ns).getD j 0=cS true n ns:=by rw[ie,bQ a,f];rfl
 rw[e] at h;lia
def pM(K:Fg) (d:Bool):List V->Hp->VK->Prop:=λc H Q=>∃(a:Addr) (n:Int) (b:List Int),c=[.ref a]/\(cp K H a ((n::b).map V.int)\/bD K H a ((n::b).map V.int))/\Q (.int (cS d n b)) H
theorem KP{X:Cx}{j:List Int}{R:Value->Shared->Prop}(C:X.calm=true)(I:Inv X aW σ H s)(hs:cp X.K H a (j.map V.int)\/bD X.K H a (j.map V.int))
  (h:∀Q J G P St r,Walks X.prog X.w X.A.in1 Q J G j.length P St->St 0 r.heap->(∀b∈J,b<r.heap.objs.size)->(∀i v,P i v->∃t,v=.int (j.getD i 0) t) ->
   (∀f g,(∀b o,b∉G->r.heap.get? b=some o->f.get? b=some o)->Inv X aW σ H {r with heap:=f,toks:=g})->R (.ref Q) r):
  wpAny (model X.prog X.w) X.A.in1 (pyIter (.ref a)) R E s:=by
 have l:∀(o:Obj) (f:Heap) (g:Nat),(∀b u,b∉[s.heap.objs.size]->(s.heap.push o).get? b=some u->f.get? b=some u)->Inv X aW σ H {s with heap:=f,toks:=g}:=λo f g m=>
  I.kept (t':=g) λb u e=>m b u (by simp;exact ef (bR e)) (bL _ e)
 have p:∀(o:Obj),a<s.heap.objs.size->∀b∈[s.heap.objs.size,a],b<(s.heap.push o).objs.size:=λo c b T=>by
  rw[lD];have y:b=s.heap.objs.size\/b=a:=by simpa using T
  rcases y with z|z
  ·rw[z];exact zK _
  ·rw[z];exact zQ c
 rcases hs with hs|hs
 ·obtain⟨d,x,k,U⟩:=I.list hs;have c:a<s.heap.objs.size:=by obtain⟨o,n,e,_⟩:=k;exact bR e
  have q:=x.length;rw[ax] at q;have W:=Walks.list (prog:=X.prog) (w:=X.w) (A:=X.A.in1) (I.ok.hd C) s.heap.objs.size a (ef c) d.toArray;rw[show d.toArray.size=j.length from by rw[cC];exact q.symm] at W;exact zN k.isList (h _ _ _ _ _ { s with heap:=s.heap.push { cls:=.type "list_iterator",data:=.fields #[.ref a,.int 0 0] } } W ⟨⟨_,dD _ rfl,rfl,rfl⟩,k.isList.push _⟩ (p _ c) (λi v e=>tK x (by simpa using e)) λf g m=>l _ f g m)
 ·obtain⟨d,x,k,U⟩:=I.tuple hs;have c:a<s.heap.objs.size:=k.lt;have q:=x.length;rw[ax] at q;have S:s.heap.IsTuple a d.toArray:=k;have W:=Walks.tuple (prog:=X.prog) (w:=X.w) (A:=X.A.in1) (I.ok.hd C) s.heap.objs.size a (ef c) d.toArray;rw[show d.toArray.size=j.length from by rw[cC];exact q.symm] at W;exact sN S (h _ _ _ _ _ { s with heap:=s.heap.push { cls:=.type "tuple_iterator",data:=.fields #[.ref a,.int 0 0] } } W ⟨⟨_,dD _ rfl,rfl,rfl⟩,S.push _⟩ (p _ c) (λi v e=>tK x (by simpa using e)) λf g m=>l _ f g m)
theorem JC{X:Cx}(g:X.calm=true):bu X (.builtin "max") (pM X.K true):=by
 intro A s C H z G Q I r h;obtain⟨a,n,e,rfl,o,q⟩:=h;obtain⟨u,rfl,p⟩:=vals1 r;cases p;refine call_max_walk (KP g I o λx m l P St E W y d b c=>?_);refine⟨x,m,l,_,P,St,_,rfl,W,y,d,by simp,CmpOf.ints_gt (λi=>(n::e).getD i 0) b,λv j w f k=>?_⟩;obtain⟨t,rfl⟩:=b _ _ f;rw[P3 '&'];exact⟨.int (cS true n e),H,c j w k,⟨_,rfl⟩,q⟩
section
variable {X:Cx}
theorem Inv.turnedL{h:List (Addr×Obj)}{i:St}{H:Hp}{s:Shared}{h':Heap}{t':Nat}{ch:List Addr}(I:Inv X h i H s)(k:∀b o,b∉ch->s.heap.get? b=some o->h'.get? b=some o)(g:∀b∈ch,fC X h H b):Inv X h i H {s with heap:=h',toks:=t'}:=by
 have d:∀b u,H b=some u->b∉ch:=λb u e z=>by have:=(g b z).1;rw[e] at this;cases this
 have f:X.env.locals∉ch:=λz=>(g _ z).2.1 rfl
 refine I.step (g':=s.gens) (d':=s.drawn) (ch:=ch) (λb x=>?_) (λb o _ _ a e _=>k b o a e) (λb o _ _ a e _=>⟨o.slots,k b o a e⟩) (λ_ _ _ _ n=>n)
  (λb o a e=>⟨o,k b o a e⟩) (λ_ _ e=>e) (λ_ _ _ e=>e) (λb E e=>⟨#[],by rw[e];simp⟩) (λm t=>?_) (λb u e=>?_) I.bare
 ·obtain⟨J,w,G,C,j,y⟩:=g b x;exact⟨C,w,j,y⟩
 ·obtain⟨o,p,l,A,r⟩:=t;exact⟨o,p,l,k _ o f A,r⟩
 ·refine(I.hok b u e).stay (λc v a q=>k c v ?_ q) (λ_ q=>q) λ_ _ q=>q
  rcases a with z|z
  ·rw[z];exact d b u e
  ·exact d c _ z
end
structure iJ (z TI TO i1 i2 t1 t2:Addr):Prop where
 nd:[z,TI,TO,i1,i2].Nodup
 o1:t1∉[z,TI,TO,i1,i2]
 o2:t2∉[z,TI,TO,i1,i2]
structure tq (h:Heap) (z TI TO i1 i2 t1 t2:Addr) (f0:Value) (j:Nat):Prop where
 zip:IsZip h z TI TO f0
 its:IsPair h TI (.ref i1) (.ref i2)
 out:∃a b,IsPair h TO a b
 it1:h.IsTupleIter i1 t1 j
 it2:h.IsTupleIter i2 t2 j
theorem ye(a b c d e x:Addr)(h:[a,b,c,d,e].Nodup):a≠b/\a≠c/\a≠d/\a≠e/\b≠c/\b≠d/\b≠e/\c≠d/\c≠e/\d≠e:=by
 simp at h;obtain⟨⟨m,g,o,p⟩,⟨i,n,j⟩,⟨k,l⟩,f⟩:=h;exact⟨m,g,o,p,i,n,j,k,l,f⟩
section
variable {prog:Program}{w:World}{A:Around}{E:Value->Shared->Prop}{s:Shared}{z:Addr}{TI:Addr}{TO:Addr}{i1:Addr}{i2:Addr}{t1:Addr}{t2:Addr}{xs:Array Value}{ys:Array Value}{j:Nat}
theorem Ju{Q:Fin->Shared->Prop}(hh:A.handled=none)(R:iJ z TI TO i1 i2 t1 t2)(Z:tq s.heap z TI TO i1 i2 t1 t2 .none j)(hx:s.heap.IsTuple t1 xs)(hy:s.heap.IsTuple t2 ys)
  (hQ:∀x y,xs[j]?=some x->ys[j]?=some y->∀g,tq g z TI TO i1 i2 t1 t2 (rawInt s.heap.objs.size) (j+1)->IsPair g s.heap.objs.size x y->g.objs.size=s.heap.objs.size+1 ->
   (∀c o,c∉[z,TO,i1,i2]->s.heap.get? c=some o->g.get? c=some o)->Q (.done (.ret (.ref s.heap.objs.size))) {s with heap:=g})
  (hE:xs[j]?=none\/ys[j]?=none->∀ g e,(∀ c o,c∉[z,TO,i1,i2]->s.heap.get? c=some o->g.get? c=some o)->(∃ o,g.get? e=some o/\o.cls=.type "StopIteration")->E (.ref e) { s with heap:=g }):wpAny (model prog w) A (Builtin.«zip.__next__» ⟨[.ref z],[]⟩) Q E s:=by
 obtain⟨n1,Y,I,n4,n5,n6,n7,n8,n9,S⟩:=ye z TI TO i1 i2 0 R.nd;have a1:=R.o1;have a2:=R.o2;simp only[ce,iB,iy,not_or] at a1 a2;obtain⟨p1,p2,p3,p4,p5⟩:=a1;obtain⟨q1,q2,q3,q4,q5⟩:=a2;obtain⟨U,hI,⟨a,b,hO⟩,k1,k2⟩:=Z;refine(?_:wpAny _ _ (field (.ref z) 2 >>= _) Q E s);refine am (iz U rfl (x:=.bool false) rfl (?_:wpAny _ _ (field (.ref z) 3 >>= _) _ _ _));refine am (iz U rfl (x:=.ref TI) rfl (am (nY hI rfl (?_:wpAny _ _ (Builtin.SmallTypes.ownedTupleIsFree (.ref z) >>= _) _ _ _))));refine am (m:=Builtin.SmallTypes.ownedTupleIsFree (.ref z)) (show wpAny _ _ (field (.ref z) 0 >>= _) _ _ _ from am (iz U rfl (x:=.none) rfl (ba ?_)));simp only[f5];refine am (kt (am (iz U rfl (x:=.ref TO) rfl (am (mS U '&' λg1 a7 n=>?_)))));have l:IsZip g1 z TI TO .ellipsis:=a7;simp only[zH,K6,List.forIn_nil,List.zipIdx_nil];refine am (am (am (zD (?_:wpAny _ _ (Builtin.SmallTypes.nextOf (.ref i1) >>= _) _ _ _))));refine am (Bt hh (s:={s with heap:=g1}) (k1.extBut n.extBut (cb I)) (hx.extBut n.extBut p1) (λx v g2 k3 r=>ba ?_) λv g2 ee eb he=>?_)
 ·have P:IsPair g2 TO a b:=r.extBut _ _ n8 (n.extBut _ _ (cb Y) hO);refine am (nY P rfl (am (zZ (s:={s with heap:=g2}) P λg3 a5 k=>am (wj (ba ?_)))));have a3:IsPair g3 TO x b:=a5;refine am (am (zD (?_:wpAny _ _ (Builtin.SmallTypes.nextOf (.ref i2) >>= _) _ _ _)));refine am (Bt hh (s:={s with heap:=g3}) (((k2.extBut n.extBut (cb n4)).extBut r.extBut (cb S)).extBut k.extBut (cb n9)) (((hy.extBut n.extBut q1).extBut r.extBut q4).extBut k.extBut q3) (λy C g4 k4 e4=>ba ?_) λC g4 ee eb he=>?_)
  ·have J:IsPair g4 TO x b:=e4.extBut _ _ n9 a3;refine am (nY J rfl (am (zZ (s:={s with heap:=g4}) J λf a6 u=>am (wj (ba (ba ?_))))));have t:IsPair f TO x y:=a6;refine am (nY t rfl (am (wpAny_newTuple ?_)));have sz:f.objs.size=s.heap.objs.size:=by rw[u.1,e4.1,k.1,r.1,n.1]
   have a0:IsZip f z TI TO .ellipsis:=u.extBut _ _ Y (e4.extBut _ _ n4 (k.extBut _ _ Y (r.extBut _ _ I l)));have kp:∀c o,c∉[z,TO,i1,i2]->s.heap.get? c=some o->f.get? c=some o:=λc o d e=>by
    simp only[ce,iB,iy,not_or] at d;exact u.extBut _ _ d.2.1 (e4.extBut _ _ d.2.2.2 (k.extBut _ _ d.2.1 (r.extBut _ _ d.2.2.1 (n.extBut _ _ d.1 e))))
   have m1:f.IsTupleIter i1 t1 (j+1):=((k3.extBut k.extBut (cb n8)).extBut e4.extBut S).extBut u.extBut (cb n8);have m2:f.IsTupleIter i2 t2 (j+1):=k4.extBut u.extBut (cb n9);have lz:z<f.objs.size:=bR a0;have a9:IsZip (f.push { cls:=.type "tuple",data:=.seq #[x,y] }) z TI TO .ellipsis:=bL _ a0
   refine am (m:=Builtin.SmallTypes.ownedTupleHandOut (.ref z) (.ref f.objs.size)) (am (mS a9 '&' λg7 a8 e7=>?_));have X:IsZip g7 z TI TO (rawInt f.objs.size):=a8;refine mS X '&' λg8 a4 e8=>ba ?_
   have p:IsZip g8 z TI TO (rawInt f.objs.size):=a4;have T:∀c o,c≠z->f.get? c=some o->g8.get? c=some o:=λc o d e=>e8.extBut _ _ d (e7.extBut _ _ d (bL _ e))
   have hT:IsPair g8 f.objs.size x y:=e8.extBut _ _ (mP lz) (e7.extBut _ _ (mP lz) (dD _ rfl));have s8:g8.objs.size=f.objs.size+1:=by rw[e8.1,e7.1,lD]
   rw[sz] at p hT s8;have b1:IsPair f TI (.ref i1) (.ref i2):=kp _ _ (by simp[cb n1,n5,n6,n7]) hI;have b0:=hQ x y v C g8 ⟨p,T _ _ (cb n1) b1,⟨x,y,T _ _ (cb Y) t⟩,m1.at λo e=>T _ o (cb I) e,m2.at λo e=>T _ o (cb n4) e⟩ hT s8 λc o d e=>T c o (λq=>d (by simp[q])) (kp c o d e)
   show Q (.done (.ret (.ref f.objs.size))) _;rw[sz];exact b0
  ·obtain⟨oe,h,i⟩:=he;have G:IsZip g4 z TI TO .ellipsis:=eb _ _ n4 (k.extBut _ _ Y (r.extBut _ _ I l));have nz:ee≠z:=λq=>by rw[q,G] at h;cases h;simp at i
   refine mS G '&' λf _ u=>hE (.inr C) f ee (λc o d e=>?_) ⟨oe,u.extBut _ _ nz h,i⟩
   simp only[ce,iB,iy,not_or] at d;exact u.extBut _ _ d.1 (eb _ _ d.2.2.2 (k.extBut _ _ d.2.1 (r.extBut _ _ d.2.2.1 (n.extBut _ _ d.1 e))))
 ·obtain⟨oe,h,i⟩:=he;have H:IsZip g2 z TI TO .ellipsis:=eb _ _ I l;have nz:ee≠z:=λq=>by rw[q,H] at h;cases h;simp at i
  refine mS H '&' λg3 _ k=>hE (.inl v) g3 ee (λc o d e=>?_) ⟨oe,k.extBut _ _ nz h,i⟩
  simp only[ce,iB,iy,not_or] at d;exact k.extBut _ _ d.1 (eb _ _ d.2.2.1 (n.extBut _ _ d.1 e))
end
section
variable {prog:Program}{w:World}{A:Around}{E:Value->Shared->Prop}{s:Shared}{z:Addr}{TI:Addr}{TO:Addr}{i1:Addr}{i2:Addr}{t1:Addr}{t2:Addr}{xs:Array Value}{ys:Array Value}{j:Nat}
theorem Nw{Q:Option Value->Shared->Prop}(i:A.handled=none)(R:iJ z TI TO i1 i2 t1 t2)(Z:tq s.heap z TI TO i1 i2 t1 t2 .none j)(t:s.heap.IsTuple t1 xs)(v:s.heap.IsTuple t2 ys)
  (r:∀x y,xs[j]?=some x->ys[j]?=some y->∀g,tq g z TI TO i1 i2 t1 t2 (rawInt s.heap.objs.size) (j+1)->IsPair g s.heap.objs.size x y->g.objs.size=s.heap.objs.size+1 ->
   (∀c o,c∉[z,TO,i1,i2]->s.heap.get? c=some o->g.get? c=some o)->Q (some (.ref s.heap.objs.size)) {s with heap:=g})
  (m:xs[j]?=none\/ys[j]?=none->∀g,(∀c o,c∉[z,TO,i1,i2]->s.heap.get? c=some o->g.get? c=some o)->Q none {s with heap:=g}):wpAny (model prog w) A (pyNext (.ref z)) Q E s:=by
 have T:s.TypeIs (.ref z) "zip":=⟨_,Z.zip,rfl⟩
 unfold pyNext;refine am (wn (wpAny_callSpecial?_slot (name:=Str.ofString "__next__") T Ac (lG Ac T F.entry_zip_next (Ju i R Z t v (λx y a f g d u l n=>⟨_,rfl,ba (r x y a f g d u l n)⟩) λa g e k q=>?_) (F.args_zip_next_1 _))))
 obtain⟨o,p,h⟩:=q;exact am (wpAny_isInstance (T:="StopIteration") (b:=true) ⟨o,p,h⟩ isSubtype_stop (ba (m a g k)))
end
def PX(K:Fg) (a b:Addr):It:=
 ⟨λi H=>∃c d x y,bD K H a c/\bD K H b d/\c[i]?=some x/\d[i]?=some y,
  λi H u e=>∃p,H p=none/\u=.ref p/\∀c d x y,bD K H a c->bD K H b d->c[i]?=some x->d[i]?=some y->e=aD H p (.tup [x,y]),
  λi H=>∃c d,bD K H a c/\bD K H b d/\(c.length<=i\/d.length<=i)⟩
theorem Jn{P:Program}{w:World}{K:Fg}{a2:List Expr}{k:Nat}{Y:Pos}{z TI TO j i2 a b:Addr}(R:iJ z TI TO j i2 a b):
  iK P w K (.Tuple a2 k Y) (PX K a b) [z,TI,TO,j,i2] z (λi h=>tq h z TI TO j i2 a b .none i) where
 mem:=by simp
 obj:=λi h f c hc=>by
  obtain⟨u,v,J⟩:=f.out;obtain⟨o1,e1,_,d1⟩:=f.it1;obtain⟨o2,p,_,d2⟩:=f.it2;have d:c=z\/c=TI\/c=TO\/c=j\/c=i2:=by simpa using hc
  rcases d with rfl|rfl|rfl|rfl|rfl
  ·exact⟨_,f.zip,λv q=>by cases(show Data.fields _=Data.cell v from q)⟩
  ·exact⟨_,f.its,λv q=>by cases(show Data.seq _ _=Data.cell v from q)⟩
  ·exact⟨_,J,λv q=>by cases(show Data.seq _ _=Data.cell v from q)⟩
  ·exact⟨o1,e1,λv q=>by rw[d1] at q;cases q⟩
  ·exact⟨o2,p,λv q=>by rw[d2] at q;cases q⟩
 keep:=λi h h' f kk=>by
  obtain⟨u,v,J⟩:=f.out;exact⟨kk z '&' _ f.zip,kk TI '&' _ f.its,⟨u,v,kk TO '&' _ J⟩,f.it1.at λo e=>kk j '&' o e,f.it2.at λo e=>kk i2 '&' o e⟩
 item:=by
  intro X hP hw hK hc i aW s σ H E I hf f hg;subst hP hw hK;obtain⟨xs,ys,x,y,r,t,hx,hy⟩:=hg;obtain⟨l,G,p1,a6⟩:=I.tuple r;obtain⟨n,C,p2,a7⟩:=I.tuple t;obtain⟨u1,a3,a9⟩:=G.get hx;obtain⟨u2,a0,a8⟩:=C.get hy;refine Nw (I.ok.hd hc) R f (show s.heap.IsTuple a l.toArray from p1) (show s.heap.IsTuple b n.toArray from p2) (λS U e1 p g Z hT b0 kp=>?_) λe=>?_
  ·have f1:S=u1:=by rw[pB,a3] at e1;exact(eg e1).symm
   have f2:U=u2:=by rw[pB,a0] at p;exact(eg p).symm
   subst f1 f2;refine⟨_,rfl,wpAny_letOwnedTupleGo_zip Z.zip λg2 b2 T=>?_⟩;have a5:∀c∈[z,TI,TO,j,i2],c<s.heap.objs.size:=λc d=>by
    obtain⟨uu,vv,J⟩:=f.out;obtain⟨o1,e1,_⟩:=f.it1;obtain⟨o2,p,_⟩:=f.it2;have a1:c=z\/c=TI\/c=TO\/c=j\/c=i2:=by simpa using d
    rcases a1 with rfl|rfl|rfl|rfl|rfl
    ·exact bR f.zip
    ·exact bR f.its
    ·exact bR J
    ·exact bR e1
    ·exact bR p
   have b1:=a5 z '&';have I1:Inv X aW σ (aD H s.heap.objs.size (.tup [x,y])) { s with heap:=s.heap.push { cls:=.type "tuple",data:=.seq #[S,U] },toks:=s.toks }:=
    I.laid (λ_ _ q=>bL _ q) (bi _) ⟨by simp;decide,[S,U],.cons a9 (.cons a8 .nil),⟨_,dD _ rfl,rfl,_,rfl⟩⟩
   have a4:∀c∈[z,TI,TO,j,i2],fC X aW (aD H s.heap.objs.size (.tup [x,y])) c:=λc d=>by
    obtain⟨f0,fr⟩:=hf c d;exact⟨by rw[ca (ef (a5 c d))];exact f0,fr⟩
   have I2:Inv X aW σ (aD H s.heap.objs.size (.tup [x,y])) {s with heap:=g2,toks:=s.toks}:=by
    refine Inv.turnedL (s:={ s with heap:=s.heap.push { cls:=.type "tuple",data:=.seq #[S,U] },toks:=s.toks }) (h':=g2) (t':=s.toks) (ch:=[z,TI,TO,j,i2]) I1 (λc o d q=>?_) a4
    have q':(s.heap.push { cls:=.type "tuple",data:=.seq #[S,U] }).get? c=some o:=q
    have cz:c≠z:=λe=>d (by simp[e])
    rcases Heap.get?_push_cases q' with⟨e1,p⟩|e1
    ·rw[e1,p];exact T.extBut _ _ (mP b1) hT
    ·exact T.extBut _ _ cz (kp c o (λm=>d (by simp at m ⊢;rcases m with m|m|m|m<;>simp[m])) e1)
   obtain⟨d1,d2,d3,d4,_⟩:=ye z TI TO j i2 0 R.nd;obtain⟨uu,vv,J⟩:=Z.out;refine⟨.ref s.heap.objs.size,_,I2,rfl,⟨s.heap.objs.size,I.fresh,rfl,λas bs x' y' ha hb ex ey=>?_⟩,⟨b2,T.extBut _ _ (cb d1) Z.its,⟨uu,vv,T.extBut _ _ (cb d2) J⟩,Z.it1.extBut T.extBut (cb d3),Z.it2.extBut T.extBut (cb d4)⟩,λc d=>(a4 c d).1⟩;rw[I.tuple_inj ha r,hx] at ex;rw[I.tuple_inj hb t,hy] at ey;cases ex;cases ey
   rfl
  ·rcases e with e|e
   ·rw[pB,a3] at e;cases e
   ·rw[pB,a0] at e;cases e
 done:=by
  intro X hP hw hK hc i aW s σ H E I hf f hg;subst hP hw hK;obtain⟨xs,ys,r,t,hl⟩:=hg;obtain⟨l,G,p1,a6⟩:=I.tuple r;obtain⟨n,C,p2,a7⟩:=I.tuple t;have l1:=G.length;have l2:=C.length;refine Nw (I.ok.hd hc) R f (show s.heap.IsTuple a l.toArray from p1) (show s.heap.IsTuple b n.toArray from p2) (λS U e1 p g Z hT b0 kp=>?_) λ_ g kp=>⟨rfl,I.turnedL (t':=s.toks) (ch:=[z,TI,TO,j,i2]) (λc o d e=>kp c o (λm=>d (by simp at m ⊢;rcases m with m|m|m|m<;>simp[m])) e) hf⟩
  rw[pB] at e1 p;have g1:=(du.mp e1).1;have g2:=(du.mp p).1;lia
 self:=λA i s Q E f h=>zJ f.zip h
noncomputable abbrev j4(l:Addr):Obj:={ cls:=.type "tuple_iterator",data:=.fields #[.ref l,.int 0 0] }
noncomputable abbrev two(a b:Value):Obj:={ cls:=.type "tuple",data:=.seq #[a,b] }
noncomputable abbrev o4(a b:Addr):Obj:={ cls:=.type "zip",data:=.fields #[.none,.bool false,.bool false,.ref a,.ref b] }
abbrev l9(h:Heap) (a:Addr):Heap:=h.push (j4 a)
abbrev l8(h:Heap) (b a:Addr):Heap:=(l9 h b).push (j4 a)
abbrev l6(h:Heap) (a b:Addr):Heap:=(l8 h a b).push (two (.ref h.objs.size) (.ref (l9 h a).objs.size))
abbrev l5(h:Heap) (b a:Addr):Heap:=(l6 h b a).push (two .none .none)
abbrev jL(h:Heap) (b a:Addr):Heap:=(l5 h b a).push (o4 (l8 h b a).objs.size (l6 h b a).objs.size)
theorem Jt(a b:Addr)(xs ys:Array Value):
  Meets (Builtin.«zip.__new__» ⟨[.type "zip",.ref a,.ref b],[]⟩) (λ_ R s=>s.heap.IsTuple a xs/\s.heap.IsTuple b ys/\R (.ok (.ret (.ref (l5 s.heap a b).objs.size))) { s with heap:=jL s.heap a b }):=
 .of_wp λj w A R s h=>by
  obtain⟨i,g,d,f,os⟩:=s;obtain⟨k,l,h⟩:=h;have sub:=sub_zip;have c:Heap.IsTuple (Shared.heap ⟨i,g,d,f,os⟩) a xs:=k;have e:Heap.IsTuple (Shared.heap ⟨i.push (j4 a),g,d,f,os⟩) b ys:=l.push _
  wp_walk using sN c,sN e
  exact⟨_,rfl,h⟩
theorem yp{n b a:Nat}(f:b<n)(d:a<n):iJ (n+4) (n+2) (n+3) n (n+1) b a/\∀c∈[n+4,n+2,n+3,n,n+1],n<=c:=
 have q:∀{l:Nat},l<n->l∉[n+4,n+2,n+3,n,n+1]:=λ{l} h m=>by
  simp only[ce,iB,iy] at m;lia
 ⟨⟨by simp,q f,q d⟩,λc e=>by simp at e;lia⟩
theorem JF{s:Shared}(n:s.heap.IsTuple l1 xs)(r:s.heap.IsTuple l2 ys)
  (h:∀g z TI TO i j,iJ z TI TO i j l1 l2->tq g z TI TO i j l1 l2 .none 0->(∀c∈[z,TI,TO,i,j],s.heap.objs.size<=c) ->
   (∀ c o,s.heap.get? c=some o->g.get? c=some o)->Q (.ref z) { s with heap:=g }):wpAny (model prog w) A (call (.type "zip") [.ref l1,.ref l2]) Q E s:=by
 have b:l1<s.heap.objs.size:=by obtain⟨_,e,_⟩:=n;exact bR e
 have a:l2<s.heap.objs.size:=by obtain⟨_,e,_⟩:=r;exact bR e
 refine callType_new F.called_zip '"' (F.typeCall_zip_2 _ _) (F.newCall_zip_2 _ _) (λd=>PK d _ _) F.entry_zip_new (Jt l1 l2 xs ys) ⟨n,r,?_⟩;have k:(l9 s.heap l1).objs.size=s.heap.objs.size+1:=lD ..
 have f:(l8 s.heap l1 l2).objs.size=s.heap.objs.size+2:=(lD ..).trans (by rw[k]);have l:(l6 s.heap l1 l2).objs.size=s.heap.objs.size+3:=(lD ..).trans (by rw[f]);have p:(l5 s.heap l1 l2).objs.size=s.heap.objs.size+4:=(lD ..).trans (by rw[l]);have q:(jL s.heap l1 l2).get? (l5 s.heap l1 l2).objs.size=some _:=dD _ rfl;have t:(jL s.heap l1 l2).get? (l6 s.heap l1 l2).objs.size=some _:=bL _ (dD _ rfl);have v:(jL s.heap l1 l2).get? (l8 s.heap l1 l2).objs.size=some _:=bL _ (bL _ (dD _ rfl));have u:(jL s.heap l1 l2).get? (l9 s.heap l1).objs.size=some _:=bL _ (bL _ (bL _ (dD _ rfl)));have x:(jL s.heap l1 l2).get? s.heap.objs.size=some _:=bL _ (bL _ (bL _ (bL _ (dD _ rfl))));have m:=h (jL s.heap l1 l2) (l5 s.heap l1 l2).objs.size (l8 s.heap l1 l2).objs.size (l6 s.heap l1 l2).objs.size s.heap.objs.size (l9 s.heap l1).objs.size
  (by rw[p,l,f,k];exact(yp b a).1) ⟨q,v,⟨_,_,t⟩,⟨_,x,rfl,rfl⟩,⟨_,u,rfl,rfl⟩⟩
  (by rw[p,l,f,k];exact(yp b a).2) λc o e=>bL _ (bL _ (bL _ (bL _ (bL _ e))))
 exact⟨⟨_,q,rfl⟩,m⟩
def Mo(K:Fg) (e:TA):TI:=λd H R=>e d H λf H1=>∃a b,f=[.ref a,.ref b]/\(∃c,bD K H1 a c)/\(∃c,bD K H1 b c)/\R (PX K a b) H1
section
variable {X:Cx}
theorem FC{i:List Expr}{k:Nat}{d p j:Pos}{a b:Expr}{u:TA}(Q:Gl X "zip")(U:X.mg "zip"=none)(ha:PA X [a,b] u)
  (Y:starEach [a,b] X.env=[(false,eval a X.env),(false,eval b X.env)]:=by rfl)(n:starEach [b] X.env=[(false,eval b X.env)]:=by rfl):
  PI X (.Tuple i k d) (.Call (.Name "zip" p) [a,b] [] j) (Mo X.K u):=by
 intro A s T H R I h;refine Call_ (pW I Q U PyProof.Rows.boot_zip (wN (bp (ha j A s T H _ I h) λus r ⟨vs,H1,o,r1,q1⟩=>?_) (by rw[Y,n]) (by rw[n];rfl)));obtain⟨a,b,e,⟨xs,S⟩,⟨ys,G⟩,q⟩:=q1;subst e;obtain⟨u1,u2,rfl,e1,e2⟩:=vals2 r1;cases e1;cases e2;obtain⟨f,E,J,w⟩:=o.tuple S;obtain⟨l,v,p2,C⟩:=o.tuple G;refine JF (show r.heap.IsTuple a f.toArray from J) (show r.heap.IsTuple b l.toArray from p2) λg z TI TO x y R Z m P=>?_
 refine zJ Z.zip ?_;exact⟨z,[z,TI,TO,x,y],_,_,H1,rfl,o.kept (t':=r.toks) P,Jn R,Z,λc t=>o.fpOk (m c t) (o.hok.fresh (m c t)),q⟩
end
end L2
namespace Dd
open L2
set_option genInjectivity true in
inductive D where
 |non|bl (b:Bool)|int (i:Int)|str (x:Str)|ty (n:String)|ref (n:Nat)|tup (ds:List D)|lst (ds:List D)|scr (ds:List D)|exn (c:Str) (l:List Int)
set_option genInjectivity true in
inductive O where
 |lst (xs:List D)|dT (kvs:List (List Int×D))|fT (kvs:List (List Int×D))|dead
 |dI (kvs:List (Int×D))
 |dP (ks:List (List (List Int)))
 |tab
noncomputable abbrev aa:=List O
structure fG where
 cls:Str
 at_:List Int
set_option genInjectivity true in
inductive ar (α:Type) where
 |ok (a:α) (au:aa)|exc (x:fG) (au:aa)|stuck
def ar.bind{b c:Type}:ar b->(b->aa->ar c)->ar c
 |.ok a au,f=>f a au
 |.exc x au,_=>.exc x au
 |.stuck,_=>.stuck
@[simp] theorem nq {b c:Type}(a:b) (au:aa) (f:b->aa->ar c):(ar.ok a au).bind f=f a au:=rfl
@[simp] theorem Sv {a b:Type}(x:fG) (au:aa) (f:a->aa->ar b):(ar.exc x au:ar a).bind f=.exc x au:=rfl
@[simp] theorem SJ {a b:Type}(f:a->aa->ar b):(ar.stuck:ar a).bind f=.stuck:=rfl
theorem zd{d e:Type}{r:ar d}{f:d->aa->ar e}{b:e}{st':aa}(h:r.bind f=.ok b st'):∃a c,r=.ok a c/\f a c=.ok b st':=by
 cases r with
 |ok a c=>exact⟨a,c,rfl,h⟩
 |exc x c=>cases h
 |stuck=>cases h
noncomputable abbrev DS:=List (Option D)
abbrev SE:=DS->aa->ar D
abbrev ST:=DS->aa->ar Bool
abbrev SA:=DS->aa->ar (List D)
set_option genInjectivity true in
inductive Fl where
 |nx (σ:DS)|ret (v:D)|brk (σ:DS)|ct (σ:DS)
abbrev SS:=DS->aa->ar Fl
abbrev cg:=List D->aa->ar D
structure Loc where
 m:List (Option Addr)
 g:List Addr
def cV(b:Loc) (a:Addr):Prop:=some a∉b.m/\a∉b.g
def Ls(K:Fg) (c:Loc) (H:Hp) (a:Addr) (b:List V):Prop:=(Rd H a (.lst b)/\cV c a)\/∀d:Hp,cp K d a b
def Aw(K:Fg) (e:Loc) (H:Hp) (c:Str) (l:List Int) (a:Addr):Prop:=∃C o,W.nsIn K mainGlobals c=some (some (.ref C))/\(H a=some (.frz o (.ext λ_=>True))/\cV e a)/\o.cls=.ref C/\(∃d,o.data=.fields d/\d[2]?=some .none) /\
 ((l=[]/\o.dict=none)\/∃ i b f,l=[i]/\o.dict=some b/\H b=some (.frz f (.xd [("at",.int i)]))/\cV e b)
theorem Aw.map{K:Fg}(h:Aw K ρ H c l a)(f:∀b k u,H b=some (.frz k u)->cV ρ b->H' b=some (.frz k u)/\cV ρ' b):Aw K ρ' H' c l a:=by
 obtain⟨C,o,q,e,s,t,d⟩:=h;refine⟨C,o,q,f _ _ _ e.1 e.2,s,t,?_⟩;rcases d with d|⟨i,m,r,p,n,j,g⟩
 ·exact .inl d
 ·exact .inr ⟨i,m,r,p,n,(f _ _ _ j g).1,(f _ _ _ j g).2⟩
mutual
inductive At (K:Fg) (ρ:Loc) (H:Hp):D->V->Prop
 |non:At K ρ H .non .non
 |bl (b:Bool):At K ρ H (.bl b) (.bl b)
 |int (i:Int):At K ρ H (.int i) (.int i)
 |str (x:Str):At K ρ H (.str x) (.str x)
 |ty (n:String):At K ρ H (.ty n) (.ty n)
 |ref {n:Nat}{v:V}:n < ρ.m.length->(∀a,ρ.m[n]?=some (some a)->v=.ref a)->At K ρ H (.ref n) v
 |tup {a:Addr}{ds:List D}{vs:List V}:H a=some (.tup vs)->cV ρ a->ah K ρ H ds vs->At K ρ H (.tup ds) (.ref a)
 |lst {a:Addr}{ds:List D}{vs:List V}:H a=some (.lst vs)->cV ρ a->ah K ρ H ds vs->At K ρ H (.lst ds) (.ref a)
 |scr {a:Addr}{ds:List D}{vs:List V}:Ls K ρ H a vs->ah K ρ H ds vs->At K ρ H (.scr ds) (.ref a)
 |exn {c:Str}{l:List Int}{a:Addr}:Aw K ρ H c l a->At K ρ H (.exn c l) (.ref a)
inductive ah (K:Fg) (ρ:Loc) (H:Hp):List D->List V->Prop
 |nil:ah K ρ H [] []
 |cons {d:D}{ds:List D}{v:V}{vs:List V}:At K ρ H d v->ah K ρ H ds vs->ah K ρ H (d::ds) (v::vs)
end
structure Mv (ρ:Loc) (H:Hp) (ρ':Loc) (H':Hp):Prop where
 out:∀{a:Addr}{o:HO},H a=some o->cV ρ a->H' a=some o/\cV ρ' a
 len:ρ.m.length<=ρ'.m.length
 old:∀(n:Nat) (a:Addr),n < ρ.m.length->ρ'.m[n]?=some (some a)->ρ.m[n]?=some (some a)
theorem Ls.mv{K:Fg}(x:Mv ρ H ρ' H')(h:Ls K ρ H a vs):Ls K ρ' H' a vs:=by
 rcases h with⟨h|⟨o,h⟩,n⟩|h
 ·exact .inl ⟨.inl (x.out h n).1,(x.out h n).2⟩
 ·exact .inl ⟨.inr ⟨o,(x.out h n).1⟩,(x.out h n).2⟩
 ·exact .inr h
theorem At.mv{K:Fg}(x:Mv ρ H ρ' H') (h:At K ρ H d v):At K ρ' H' d v:=
 At.rec (motive_1:=λd v _=>At K ρ' H' d v) (motive_2:=λd v _=>ah K ρ' H' d v) .non .bl .int .str .ty (λh e=>.ref (cD h x.len) λa q=>e a (x.old _ a h q)) (λh n _ c=>.tup (x.out h n).1 (x.out h n).2 c) (λh n _ c=>.lst (x.out h n).1 (x.out h n).2 c) (λh _ c=>.scr (h.mv x) c) (λh=>.exn (h.map λ_ _ _ e n=>x.out e n)) .nil (λ_ _ a b=>.cons a b) h
theorem ah.mv{K:Fg}(x:Mv ρ H ρ' H') (h:ah K ρ H d v):ah K ρ' H' d v:=
 ah.rec (motive_1:=λ_ _ _=>True) (motive_2:=λd v _=>ah K ρ' H' d v) trivial (λ_=>trivial) (λ_=>trivial) (λ_=>trivial) (λ_=>trivial) (λ_ _=>trivial) (λ_ _ _ _=>trivial) (λ_ _ _ _=>trivial) (λ_ _ _=>trivial) (λ_=>trivial) .nil (λa _ _ b=>.cons (a.mv x) b) h
structure bj (ρ:Loc) (H:Hp) (ρ':Loc) (H':Hp):Prop where
 len:ρ.m.length<=ρ'.m.length
 old:∀(n:Nat) (a:Addr),n < ρ.m.length->ρ'.m[n]?=some (some a)->ρ.m[n]?=some (some a)
 keep:∀a o,H a=some o->some a∉ρ.m->H' a=some o/\some a∉ρ'.m
 gho:ρ'.g=ρ.g
 frz:∀a ob u,H a=some (.frz ob u)->H' a=some (.frz ob u)
theorem bj.out(x:bj ρ H ρ' H') (h:H a=some o)(n:cV ρ a):H' a=some o/\cV ρ' a:=
 ⟨(x.keep a o h n.1).1,(x.keep a o h n.1).2,by rw[x.gho];exact n.2⟩
theorem bj.mv(x:bj ρ H ρ' H'):Mv ρ H ρ' H':=⟨λh n=>x.out h n,x.len,x.old⟩
theorem Ls.sq{K:Fg}(h:Ls K ρ H a vs):cp K H a vs:=by
 rcases h with h|h
 ·exact .inl h.1
 ·exact h H
theorem bj.refl(a:Loc)(H:Hp):bj a H a H:=⟨bi _,λ_ _ _ e=>e,λ_ _ e n=>⟨e,n⟩,rfl,λ_ _ _ e=>e⟩
theorem bj.trans(a:bj ρ H ρ1 H1)(b:bj ρ1 H1 ρ2 H2):bj ρ H ρ2 H2:=
 ⟨aT a.len b.len,λn c h e=>a.old n c h (b.old n c (cD h a.len) e),λc o e n=>by
  obtain⟨g,f⟩:=a.keep c o e n
  exact b.keep c o g f,b.gho.trans a.gho,λc d u e=>b.frz c d u (a.frz c d u e)⟩
theorem At.ext{K:Fg}(x:bj ρ H ρ' H') (h:At K ρ H d v):At K ρ' H' d v:=h.mv x.mv
theorem ah.ext{K:Fg}(x:bj ρ H ρ' H') (h:ah K ρ H d v):ah K ρ' H' d v:=h.mv x.mv
theorem ah.length{K:Fg}:∀{a:List D}{b:List V},ah K ρ H a b->b.length=a.length
 |_,_,.nil=>rfl
 |_,_,.cons _ t=>by rw[d5,d5,ah.length t]
theorem ah.get{K:Fg}:∀{b:List D}{c:List V}{i:Nat}{d:D},ah K ρ H b c->b[i]?=some d->∃v,c[i]?=some v/\At K ρ H d v
 |_,_,_,_,.nil,e=>by simp at e
 |_,_,0,_,.cons a _,e=>by simp at e;subst e;exact⟨_,rfl,a⟩
 |_,_,i+1,d,.cons _ t,e=>by
  obtain⟨u,g,f⟩:=ah.get (i:=i) (d:=d) t (by simpa using e);exact⟨u,by simpa using g,f⟩
theorem ah.append{K:Fg}:∀{e c:List D}{f d:List V},ah K ρ H e f->ah K ρ H c d->ah K ρ H (e++c) (f++d)
 |_,_,_,_,.nil,b=>b
 |_,_,_,_,.cons a t,b=>.cons a (ah.append t b)
theorem ah.take{K:Fg}:∀{b:List D}{c:List V}(n:Nat),ah K ρ H b c->ah K ρ H (b.take n) (c.take n)
 |_,_,0,_=>.nil
 |_,_,_+1,.nil=>.nil
 |_,_,n+1,.cons a t=>.cons a (ah.take n t)
theorem ah.drop{K:Fg}:∀{b:List D}{c:List V}(n:Nat),ah K ρ H b c->ah K ρ H (b.drop n) (c.drop n)
 |_,_,0,h=>h
 |_,_,_+1,.nil=>.nil
 |_,_,n+1,.cons a t=>ah.drop n t
theorem ah.set{K:Fg}(a:At K ρ H d v):∀{e:List D}{c:List V}(n:Nat),ah K ρ H e c->ah K ρ H (e.set n d) (c.set n v)
 |_,_,_,.nil=>.nil
 |_,_,0,.cons _ t=>.cons a t
 |_,_,n+1,.cons b t=>.cons b (ah.set a n t)
def dG(K:Fg) (a:Loc) (H:Hp):List (List Int×D)->List (List cN×V)->Prop:=Paired λp q=>q.1=p.1.map Sum.inl/\At K a H p.2 q.2
theorem dG.ext{K:Fg}(x:bj ρ H ρ' H') (h:dG K ρ H a b):dG K ρ' H' a b:=Paired.mapP h λp q z=>⟨z.1,z.2.ext x⟩
noncomputable abbrev Mj:Str:=(("law" : Str)++".<locals>.")++"<lambda>"
def ka(H:Hp) (d:Array Value):Prop:=TriplesOk d.toList/\∀a f,codeAmong a d.toList=some f->∃c e b t,f=.ref c/\H c=some (.frz e (.ext λ_=>True))/\e.data=.fields b/\b[1]?=some (.str Mj t)
theorem ka.map(h:ka H ps)(f:∀b d u,H b=some (.frz d u)->H' b=some (.frz d u)):ka H' ps:=
 ⟨h.1,λa m e=>by obtain⟨c,k,g,t,j,l,i⟩:=h.2 a m e;exact⟨c,k,g,t,j,f _ _ _ l,i⟩⟩
def oT(K:Fg) (a:Loc) (H:Hp):List (Int×D)->List (cN×V)->Prop:=Paired λp q=>q.1=Sum.inl p.1/\At K a H p.2 q.2
theorem oT.ext{K:Fg}(x:bj ρ H ρ' H') (h:oT K ρ H a b):oT K ρ' H' a b:=Paired.mapP h λp q z=>⟨z.1,z.2.ext x⟩
noncomputable def xJ(a:Addr) (c:List DictEntry):Heap->Prop:=λh=>∃o b d,h.get? a=some o/\o.ExactDict/\o.data=.dict b d/\b.toList=c
noncomputable def xy(k:List (List Int)):Int:=reduceHash (Builtin.Tuple.tupleHashOf (k.map λr=>reduceHash (Builtin.Tuple.tupleHashOf (r.map hashInt))))
noncomputable def xn(k:List (List Int)):D:=.tup (k.map λr=>.tup (r.map .int))
def oS(K:Fg) (a:Loc) (H:Hp):List (List (List Int))->List DictEntry->Prop:=Paired λk e=>e.hash=xy k/\e.val=.bool true/\∃b,e.key=.ref b/\At K a H (xn k) (.ref b)
theorem oS.map{K:Fg}(k:∀d v,At K ρ H d v->At K ρ' H' d v) (h:oS K ρ H a b):oS K ρ' H' a b:=Paired.mapP h λp q ⟨i,g,c,e,f⟩=>⟨i,g,c,e,k _ _ f⟩
def kJ(K:Fg) (d:Loc) (H:Hp):O->Addr->Prop
 |.lst xs,a=>∃b,H a=some (.lst b)/\ah K d H xs b
 |.dT kvs,a=>∃b,H a=some (.dT b)/\dG K d H kvs b
 |.fT kvs,a=>∃b g,H a=some (.frz g (.dT b))/\dG K d H kvs b
 |.dI kvs,a=>∃b,H a=some (.dK b)/\oT K d H kvs b
 |.dP ks,a=>∃e,H a=some (.ext (xJ a e))/\(a==sysModules)=false/\ks.length<=sizeLine/\ks.Nodup/\oS K d H ks e
 |.dead,_=>False
 |.tab,a=>(∃ c,W.tabIn K "law"=some (c,a))/\∃ f,H a=some (.tbl f)/\ka H f
structure bv (K:Fg) (ρ:Loc) (au:aa) (H:Hp):Prop where
 len:ρ.m.length=au.length
 inj:∀(n m:Nat) (a:Addr),ρ.m[n]?=some (some a)->ρ.m[m]?=some (some a)->n=m
 obj:∀(n:Nat) (a:Addr) (o:O),ρ.m[n]?=some (some a)->au[n]?=some o->kJ K ρ H o a
 gh:∀a∈ρ.g,(∃vs,H a=some (.lst vs))/\some a∉ρ.m
 live:∀(n:Nat) (o:O),au[n]?=some o->o≠.dead->∃a,ρ.m[n]?=some (some a)
def S1(K:Fg) (a:Loc) (H:Hp) (o:Option D) (v:Option V):Prop:=∀d,o=some d->∃u,v=some u/\At K a H d u
abbrev cm(K:Fg) (a:Loc) (H:Hp):DS->St->Prop:=Paired (S1 K a H)
theorem cm.ext{K:Fg}(x:bj ρ H ρ' H') (h:cm K ρ H σ τ):cm K ρ' H' σ τ:=Paired.mapP h λo v z d e=>by
 obtain⟨u,b,a⟩:=z d e;exact⟨u,b,a.ext x⟩
theorem cm.get{K:Fg}:∀{b:DS}{c:St}{i:Nat}{d:D},cm K ρ H b c->b[i]?=some (some d)->∃u,c[i]?=some (some u)/\At K ρ H d u
 |_,_,_,_,.nil,e=>by simp at e
 |_,_,0,_,.cons a _,e=>by
  simp at e;subst e
  obtain⟨u,g,h⟩:=a _ rfl;exact⟨u,by simp[g],h⟩
 |_,_,i+1,d,.cons _ t,e=>by
  obtain⟨u,j,f⟩:=cm.get (i:=i) (d:=d) t (by simpa using e);exact⟨u,by simpa using j,f⟩
theorem cm.set{K:Fg}(a:At K ρ H d v):∀{b:DS}{c:St}(i:Nat),cm K ρ H b c->cm K ρ H (b.set i (some d)) (c.set i (some v))
 |_,_,_,.nil=>.nil
 |_,_,0,.cons _ t=>.cons (λf e=>by cases e;exact⟨v,rfl,a⟩) t
 |_,_,i+1,.cons q t=>.cons q (cm.set a i t)
def tD(K:Fg) (f:SE):TE:=λh H Q=>∃d e g v b,cm K d H e h/\bv K d g H/\f e g=.ok v b/\∀a c u,bj d H a c->bv K a b c->At K a c v u->Q u c
def kz(K:Fg) (f:ST):TT:=λh H Q=>∃d e g v a,cm K d H e h/\bv K d g H/\f e g=.ok v a/\∀b c,bj d H b c->bv K b a c->Q v c
def L5(K:Fg) (f:SA):TA:=λh H Q=>∃d e g v b,cm K d H e h/\bv K d g H/\f e g=.ok v b/\∀a c u,bj d H a c->bv K a b c->ah K a c v u->Q u c
def hU(K:Fg) (e:Loc) (H:Hp) (c:aa) (E:fD):Fl->Prop
 |.nx σ=>∀a b d,bj e H a b->bv K a c b->cm K a b σ d->E.nx d b
 |.brk σ=>∀a b d,bj e H a b->bv K a c b->cm K a b σ d->E.bk d b
 |.ct σ=>∀a b d,bj e H a b->bv K a c b->cm K a b σ d->E.ct d b
 |.ret v=>∀a b u,bj e H a b->bv K a c b->At K a b v u->E.rt u b
theorem hU.ext{K:Fg}(x:bj ρ H ρ1 H1)(h:hU K ρ H st' E fl):hU K ρ1 H1 st' E fl:=by
 cases fl with
 |nx σ=>exact λa b c e=>h a b c (x.trans e)
 |brk σ=>exact λa b c e=>h a b c (x.trans e)
 |ct σ=>exact λa b c e=>h a b c (x.trans e)
 |ret v=>exact λa b c e=>h a b c (x.trans e)
def sX(K:Fg) (f:SS):TS:=λE g H=>∃b c e d a,cm K b H c g/\bv K b e H/\f c e=.ok d a/\hU K b H a E d
abbrev DE(X:Cx) (e:Expr) (f:SE):Prop:=PE X e (tD X.K f)
abbrev DT(X:Cx) (e:Expr) (f:ST):Prop:=PT X e (kz X.K f)
abbrev DW(X:Cx) (e:Expr) (f:ST):Prop:=PW X e (kz X.K f)
abbrev DA(X:Cx) (a:List Expr) (f:SA):Prop:=PA X a (L5 X.K f)
abbrev jQ(X:Cx) (s:Stmt) (f:SS):Prop:=PS X s (sX X.K f)
abbrev mx(X:Cx) (s:List Stmt) (f:SS):Prop:=io X s (sX X.K f)
theorem eI(h:PE X e t)(k:∀a H Q,t' a H Q->t a H Q):PE X e t':=λb s a H Q I q=>h b s a H Q I (k _ _ _ q)
theorem lu(h:PT X e t)(k:∀a H Q,t' a H Q->t a H Q):PT X e t':=λb s a H Q I q=>h b s a H Q I (k _ _ _ q)
theorem pO(h:PW X e t)(k:∀a H Q,t' a H Q->t a H Q):PW X e t':=λb c s a H Q I q=>h b c s a H Q I (k _ _ _ q)
theorem ul(h:PA X es t)(k:∀a H Q,t' a H Q->t a H Q):PA X es t':=λb c s a H Q I q=>h b c s a H Q I (k _ _ _ q)
theorem jo(h:PS X s t)(k:∀E a H,t' E a H->t E a H):PS X s t':=λb z a H E I q=>h b z a H E I (k _ _ _ q)
theorem tG(h:io X ss t)(k:∀E a H,t' E a H->t E a H):io X ss t':=λb z a H E I q=>h b z a H E I (k _ _ _ q)
def aA(i:Nat):SE:=λa b=>match a[i]? with
 |some (some d)=>.ok d b
 |_=>.stuck
def eC(d:D):SE:=λ_ a=>.ok d a
theorem Dw(h:PE X e (lO i)):DE X e (aA i):=eI h λn H Q b=>by
 obtain⟨g,l,m,v,f,a,r,e,q⟩:=b;unfold aA at e;split at e
 ·rename_i d c;cases e;obtain⟨u,j,k⟩:=a.get c;exact⟨u,j,q g H u (.refl _ _) r k⟩
 ·cases e
theorem lh(h:PE X e (tC v))(k:∀c H,At X.K c H d v):DE X e (eC d):=eI h λj H Q b=>by
 obtain⟨c,g,i,v,f,a,r,e,q⟩:=b;cases e;exact q c H _ (.refl _ _) r (k _ _)
theorem Dm{i j pos}:DE X (.Constant (.int i) j pos) (eC (.int i)):=lh Fs λ_ _=>.int i
theorem MG{b j pos}:DE X (.Constant (.bool b) j pos) (eC (.bl b)):=lh DU λ_ _=>.bl b
theorem Dq{j pos}:DE X (.Constant .none j pos) (eC .non):=lh Ft λ_ _=>.non
theorem Du{x j pos}:DE X (.Constant (.str x) j pos) (eC (.str x)):=lh Fw λ_ _=>.str x
def aU(g:D->D->aa->ar D) (f d:SE):SE:=λc e=>(f c e).bind λx b=>(d c b).bind λy a=>g x y a
def mZ(g:D->aa->ar D) (f:SE):SE:=λb c=>(f b c).bind λx a=>g x a
def fY(K:Fg) (g:D->D->aa->ar D) (r:R2):Prop:=
 ∀d H e x y u v z b (Q:VK),bv K d e H->At K d H x u->At K d H y v->g x y e=.ok z b->(∀a c w,bj d H a c->bv K a b c->At K a c z w->Q w c)->r u v H Q
theorem lr{K:Fg}(E:fY K g r):∀j H Q,tD K (aU g f f') j H Q->sW r (tD K f) (tD K f') j H Q:=λj H Q h=>by
 obtain⟨I,s,J,v,k,a,G,e,q⟩:=h;obtain⟨x,b,S,e⟩:=zd e;obtain⟨y,c,U,e⟩:=zd e;refine⟨I,s,J,x,b,a,G,S,λm H1 u p d A=>?_⟩;refine⟨m,s,b,y,c,a.ext p,d,U,λl H2 w t o C=>?_⟩;exact E l H2 c x y u w v k Q o (A.ext t) C e λi R z T n P=>q i R z (p.trans (t.trans T)) n P
theorem MC(c:cB X (binaryOp op) r)(h:fY X.K g r)(e:DE X a f)(d:DE X b f'):DE X (.BinOp a op b pos) (aU g f f'):=eI (DV c e d) (lr h)
theorem Dl(h:cB X (compareOp op) r)(i:fY X.K g r)(c:DE X a f)(e:DE X b f')(d:behindInMarks op b=false):DE X (.Compare a [op] [b] pos) (aU g f f'):=eI (G9 h c e d) (lr i)
def eB(f:SE):ST:=λc d=>(f c d).bind λv a=>match v with
 |.bl b=>.ok b a
 |_=>.stuck
theorem xC{K:Fg}:∀h H Q,kz K (eB f) h H Q->tD K f h H λx H1=>∃c,x=.bl c/\Q c H1:=λh H Q g=>by
 obtain⟨k,i,m,v,j,a,n,e,q⟩:=g;obtain⟨x,b,p,e⟩:=zd e;refine⟨k,i,m,x,b,a,n,p,λo H1 u l d r=>?_⟩;cases x<;>try (cases e;done)
 cases e;cases r;exact⟨_,rfl,q _ _ l d⟩
theorem EF(j:cB X (compareOp op) r)(i:fY X.K g r)(c:DE X a f)(e:DE X b f')(d:behindInMarks op b=false):DT X (.Compare a [op] [b] pos) (eB (aU g f f')):=
 lu (Hm j c e d) λk H Q h=>lr i _ _ _ (xC _ _ _ h)
def dA(g k:D->D->aa->ar D) (f i b:SE):SE:=λc j=>(f c j).bind λx e=>(i c e).bind λy d=>(g x y d).bind λz a=>match z with
 |.bl true=>(b c a).bind λw h=>k y w h
 |.bl false=>.ok (.bl false) a
 |_=>.stuck
theorem F5{K:Fg}(hr:fY K g r)(I:fY K g' r'):∀p H Q,tD K (dA g g' f f' f'') p H Q->lP r r' (tD K f) (tD K f') (tD K f'') p H Q:=λp H Q n=>by
 obtain⟨ρ,G,au,v,s,a,rp,e,q⟩:=n;obtain⟨x,c,e1,e⟩:=zd e;obtain⟨y,j,e2,e⟩:=zd e;obtain⟨z,h,e3,e⟩:=zd e;refine⟨ρ,G,au,x,c,a,rp,e1,λJ H1 u X m a1=>?_⟩;refine⟨J,G,c,y,j,a.ext X,m,e2,λA H2 w Y P T=>?_⟩;refine hr A H2 j x y u w z h _ P (a1.ext Y) T e3 λk H3 S x3 i a3=>?_
 have R:=X.trans (Y.trans x3);cases z<;>try (cases e;done)
 rename_i b;cases a3;refine⟨b,rfl,?_⟩;cases b with
 |true=>
  obtain⟨t,d,e4,e⟩:=zd e;rw[if_pos rfl];refine⟨k,G,h,t,d,a.ext R,i,e4,λl H4 tt U E a4=>?_⟩;exact I l H4 d y t w tt v s Q E (T.ext (x3.trans U)) a4 e λo H' S x5 C a5=>q o H' S (R.trans (U.trans x5)) C a5
 |false=>
  cases e;rw[if_neg '"'];exact q k H3 _ R i (.bl false)
theorem bj.new(a:H p=none)(o:HO):bj ρ H ρ (aD H p o):=⟨bi _,λ_ _ _ e=>e,λb u e m=>⟨by rw[ca (zx e a)];exact e,m⟩,rfl,λb c u e=>by rw[ca (zx e a)];exact e⟩
section
variable {H:Hp}{a:Addr}
theorem sk{c:List V}(h:H a=some (.lst c)):∀b u,H a≠some (.frz b u):=λb u z=>by rw[h] at z;cases z
theorem xY{c:List (List cN×V)}(h:H a=some (.dT c)):∀b u,H a≠some (.frz b u):=λb u z=>by rw[h] at z;cases z
end
theorem bj.wr{c:Loc}{n:Nat}(h:c.m[n]?=some (some a))(f:∀d u,H a≠some (.frz d u))(o:HO):bj c H c (aD H a o):=⟨bi _,λ_ _ _ e=>e,λb u e m=>⟨by
 rw[ca]
 ·exact e
 ·rintro rfl
  exact m (fj h),m⟩,rfl,λb d u e=>by
 rw[ca]
 ·exact e
 ·rintro rfl
  exact f _ _ e⟩
theorem kJ.has{K:Fg}(h:kJ K ρ H x a):∃u,H a=some u:=by
 cases x with
 |lst xs=>obtain⟨b,e,_⟩:=h;exact⟨_,e⟩
 |dT kvs=>obtain⟨b,e,_⟩:=h;exact⟨_,e⟩
 |fT kvs=>obtain⟨b,d,e,_⟩:=h;exact⟨_,e⟩
 |dI kvs=>obtain⟨b,e,_⟩:=h;exact⟨_,e⟩
 |dP ks=>obtain⟨b,e,_⟩:=h;exact⟨_,e⟩
 |dead=>exact h.elim
 |tab=>obtain⟨_,c,e,_⟩:=h;exact⟨_,e⟩
theorem kJ.ext{K:Fg}(e:bj ρ H ρ' H')(same:H' a=H a)(h:kJ K ρ H x a):kJ K ρ' H' x a:=by
 cases x with
 |lst xs=>obtain⟨b,q,r⟩:=h;exact⟨b,by rw[same];exact q,r.ext e⟩
 |dT kvs=>obtain⟨b,q,r⟩:=h;exact⟨b,by rw[same];exact q,r.ext e⟩
 |fT kvs=>obtain⟨b,f,q,r⟩:=h;exact⟨b,f,by rw[same];exact q,r.ext e⟩
 |dI kvs=>obtain⟨b,q,r⟩:=h;exact⟨b,by rw[same];exact q,r.ext e⟩
 |dP ks=>obtain⟨b,q,n,l,u,r⟩:=h;exact⟨b,by rw[same];exact q,n,l,u,r.map λ_ _ z=>z.ext e⟩
 |dead=>exact h.elim
 |tab=>obtain⟨c,d,q,r⟩:=h;exact⟨c,d,by rw[same];exact q,r.map e.frz⟩
theorem bv.has{K:Fg}{n:Nat}(r:bv K ρ au H)(h:ρ.m[n]?=some (some a)):∃x,au[n]?=some x/\kJ K ρ H x a:=by
 have b:n<au.length:=by rw[←r.len];exact(du.mp h).1
 exact⟨au[n],bQ b,r.obj n a _ h (bQ b)⟩
theorem bv.new{K:Fg}(r:bv K ρ au H)(c:H p=none)(o:HO):bv K ρ au (aD H p o):=⟨r.len,r.inj,λm b x e f=>by
 have q:=r.obj m b x e f;obtain⟨u,a⟩:=q.has;exact q.ext (bj.new c o) (ca (zx a c)),λb d=>by
 obtain⟨⟨u,a⟩,n⟩:=r.gh b d
 exact⟨⟨u,by rw[ca (zx a c)];exact a⟩,n⟩,r.live⟩
theorem bv.wr{K:Fg}(r:bv K ρ au H)(h:ρ.m[n]?=some (some a))(l:∀k u,H a≠some (.frz k u)) (q:kJ K ρ (aD H a o) x a):bv K ρ (au.set n x) (aD H a o):=⟨by rw[r.len,mQ],r.inj,λm b y c d=>by
 by_cases hm:m=n
 ·subst hm;have f:b=a:=by rw[h] at c;exact(eg (eg c)).symm
  subst f;have p:m<au.length:=by rw[←r.len];exact(du.mp h).1
  rw[lM p] at d;cases d;exact q
 ·rw[jF (cb hm)] at d;refine(r.obj m b y c d).ext (bj.wr h l o) (ca λz=>hm ?_);subst z;exact r.inj m n b c h,λb f=>by
 obtain⟨⟨u,j⟩,g⟩:=r.gh b f;refine⟨⟨u,?_⟩,g⟩;rw[ca]
 ·exact j
 ·rintro rfl;exact g (fj h),λm y e i=>by
 by_cases hm:m=n
 ·subst hm;exact⟨a,h⟩
 ·rw[jF (cb hm)] at e
  exact r.live m y e i⟩
theorem bv.alloc{K:Fg}(r:bv K ρ au H)(d:H p=none) (q:bj ρ H ⟨ρ.m++[some p],ρ.g⟩ (aD H p o)->kJ K ⟨ρ.m++[some p],ρ.g⟩ (aD H p o) x p):bj ρ H ⟨ρ.m++[some p],ρ.g⟩ (aD H p o)/\bv K ⟨ρ.m++[some p],ρ.g⟩ (au++[x]) (aD H p o):=by
 have i:∀(m:Nat) (b:Addr),(ρ.m++[some p])[m]?=some (some b)->(m < ρ.m.length/\ρ.m[m]?=some (some b))\/(m=ρ.m.length/\b=p):=λm b e=>by
  rcases gU m ρ.m.length with z|z
  ·rw[f7 z] at e;exact .inl ⟨z,e⟩
  ·rw[iE z] at e;have l:m-ρ.m.length=0:=by
    have:=(du.mp e).1;simp at this;lia
   rw[l] at e;simp at e;exact .inr ⟨by lia,e.symm⟩
 have v:∀(m:Nat),ρ.m[m]?≠some (some p):=λm e=>by
  obtain⟨x,_,q⟩:=r.has e;obtain⟨u,a⟩:=q.has;rw[d] at a;cases a
 have E:bj ρ H ⟨ρ.m++[some p],ρ.g⟩ (aD H p o):=⟨by rw[cq];lia,λm b h e=>by
   rw[f7 h] at e;exact e,λb u e m=>⟨by rw[ca (zx e d)];exact e,λz=>by
   rcases cM.mp z with z|z
   ·exact m z
   ·simp at z;subst z;rw[d] at e;cases e⟩,rfl,λb G u e=>by rw[ca (zx e d)];exact e⟩
 refine⟨E,⟨by rw[cq,cq,r.len];rfl,λm k b t c=>?_,λm b y t c=>?_,λb s=>?_,λm y e w=>?_⟩⟩
 ·rcases i m b t with⟨f,g⟩|⟨f,rfl⟩
  ·rcases i k b c with⟨j,n⟩|⟨j,rfl⟩
   ·exact r.inj m k b g n
   ·exact absurd g (v m)
  ·rcases i k b c with⟨j,n⟩|⟨j,_⟩
   ·exact absurd n (v k)
   ·lia
 ·rcases i m b t with⟨f,g⟩|⟨f,rfl⟩
  ·rw[f7 (by rw[←r.len];exact f)] at c;have q:=r.obj m b y g c;obtain⟨u,a⟩:=q.has;exact q.ext E (ca (zx a d))
  ·rw[f,r.len,iE (bi _)] at c;simp at c;subst c;exact q E
 ·obtain⟨⟨u,a⟩,A⟩:=r.gh b s;refine⟨⟨u,by rw[ca (zx a d)];exact a⟩,λz=>?_⟩;rcases cM.mp z with z|z
  ·exact A z
  ·simp at z;subst z;rw[d] at a;cases a
 ·rcases gU m au.length with z|z
  ·rw[f7 z] at e;obtain⟨b,s⟩:=r.live m y e w;exact⟨b,by rw[f7 (by rw[r.len];exact z)];exact s⟩
  ·have l:=(du.mp e).1;simp at l;have C:m=ρ.m.length:=by rw[r.len];lia
   exact⟨p,by rw[C,iE (bi _)];simp⟩
theorem bv.kill{K:Fg}(r:bv K ρ au H)(h:n < ρ.m.length):bj ρ H ⟨ρ.m.set n none,ρ.g⟩ H/\bv K ⟨ρ.m.set n none,ρ.g⟩ (au.set n .dead) H:=by
 have c:∀(m:Nat) (b:Addr),(ρ.m.set n none)[m]?=some (some b)->m≠n/\ρ.m[m]?=some (some b):=λm b e=>by
  by_cases z:m=n
  ·subst z;rw[lM h] at e;simp at e
  ·rw[jF (cb z)] at e;exact⟨z,e⟩
 have E:bj ρ H ⟨ρ.m.set n none,ρ.g⟩ H:=⟨by rw[mQ];exact bi _,λm b _ e=>(c m b e).2,λb o e m=>⟨e,λz=>by
  obtain⟨i,f,a⟩:=kx z;have:(ρ.m.set n none)[i]?=some (some b):=by rw[bQ f,a]
  exact m (fj (c i b this).2)⟩,rfl,λ_ _ _ e=>e⟩
 refine⟨E,⟨by rw[mQ,mQ,r.len],λm k b g a=>r.inj m k b (c m b g).2 (c k b a).2,λm b y g a=>?_,λb d=>⟨(r.gh b d).1,λz=>?_⟩,λm y e j=>?_⟩⟩
 rotate_left
 ·obtain⟨i,f,a⟩:=kx z;have:(ρ.m.set n none)[i]?=some (some b):=by rw[bQ f,a]
  exact(r.gh b d).2 (fj (c i b this).2)
 ·have z:m≠n:=by
   rintro rfl;rw[lM (by rw[←r.len];exact h)] at e;cases e;exact j rfl
  rw[jF (cb z)] at e;obtain⟨b,d⟩:=r.live m y e j;exact⟨b,by rw[jF (cb z)];exact d⟩
 obtain⟨z,q⟩:=c m b g;rw[jF (cb z)] at a;exact(r.obj m b y q a).ext E rfl
theorem tZ{K:Fg}(r:bv K ρ au H)(c:H p=none):cV ρ p:=by
 refine⟨λz=>?_,λz=>?_⟩
 ·obtain⟨i,d,e⟩:=kx z;obtain⟨x,_,q⟩:=r.has (n:=i) (a:=p) (by rw[bQ d,e]);obtain⟨u,b⟩:=q.has;rw[c] at b;cases b
 ·obtain⟨⟨u,b⟩,_⟩:=r.gh p z;rw[c] at b;cases b
theorem At.newT{K:Fg}(r:bv K ρ au H)(a:H p=none) (h:ah K ρ H ds vs):At K ρ (aD H p (.tup vs)) (.tup ds) (.ref p):=.tup fh (tZ r a) (h.ext (bj.new a _))
theorem At.newL{K:Fg}(r:bv K ρ au H)(a:H p=none) (h:ah K ρ H ds vs):At K ρ (aD H p (.lst vs)) (.lst ds) (.ref p):=.lst fh (tZ r a) (h.ext (bj.new a _))
def fz(f d:SE):SE:=λb c=>(f b c).bind λv a=>match v with
 |.bl true=>d b a
 |.bl false=>.ok (.bl false) a
 |_=>.stuck
def PR(f d:SE):SE:=λb c=>(f b c).bind λv a=>match v with
 |.bl true=>.ok (.bl true) a
 |.bl false=>d b a
 |_=>.stuck
def mh(f:SE):SE:=λc d=>(f c d).bind λv a=>match v with
 |.bl b=>.ok (.bl (!b)) a
 |_=>.stuck
def gE(f e:ST):ST:=λc d=>(f c d).bind λb a=>if b=true then e c a else .ok false a
def iQ(f e:ST):ST:=λc d=>(f c d).bind λb a=>if b=true then .ok true a else e c a
def dC(f:ST):ST:=λc d=>(f c d).bind λb a=>.ok (!b) a
def fO(c:ST) (f g:SE):SE:=λd e=>(c d e).bind λb a=>if b=true then f d a else g d a
theorem Ds{op}(h:DE X a f):DE X (.BoolOp op [a] pos) f:=Fv h
section
variable {X:Cx}{a:Expr}{b:Expr}{rest:List Expr}{f:SE}{f':SE}{pos:Pos}
theorem Dk(w:DE X a f)(p:DE X (.BoolOp .And (b::rest) pos) f'):DE X (.BoolOp .And (a::b::rest) pos) (fz f f'):=eI (Fp w p) λC H Q i=>by
 obtain⟨s,m,A,v,j,g,r,e,q⟩:=i;obtain⟨x,c,z,e⟩:=zd e;refine⟨s,m,A,x,c,g,r,z,λl H1 u k d o=>?_⟩;cases x<;>try (cases e;done)
 rename_i n;cases o;refine⟨n,rfl,?_⟩;cases n with
 |true=>
  rw[if_pos rfl];exact⟨l,m,c,v,j,g.ext k,d,e,λh y u t=>q h y u (k.trans t)⟩
 |false=>
  rw[if_neg '"'];cases e;exact q _ _ _ k d (.bl false)
end
theorem Dr(j:DE X a f):DE X (.UnaryOp .Not a pos) (mh f):=eI (Fu j) λt H Q d=>by
 obtain⟨k,h,m,v,i,g,o,e,q⟩:=d;obtain⟨x,b,r,e⟩:=zd e;refine⟨k,h,m,x,b,g,o,r,λp H1 u l c s=>?_⟩;cases x<;>try (cases e;done)
 rename_i n;cases s;cases e;exact⟨n,rfl,q _ _ _ l c (.bl _)⟩
theorem EJ{op}(h:DT X a t)(b:op=.And\/op=.Or):DW X (.BoolOp op [a] pos) t:=by
 rcases b with rfl|rfl
 ·exact oC h
 ·exact ry h
section
variable {X:Cx}{a:Expr}{b:Expr}{rest:List Expr}{t:ST}{t':ST}{pos:Pos}
theorem EI(m:DT X a t)(r:DW X (.BoolOp .And (b::rest) pos) t'):DW X (.BoolOp .And (a::b::rest) pos) (gE t t'):=pO (rz m r) λy H Q k=>by
 obtain⟨n,l,p,v,g,f,s,e,q⟩:=k;obtain⟨x,c,w,e⟩:=zd e;refine⟨n,l,p,x,c,f,s,w,λj H1 h d=>?_⟩;cases x with
 |true=>exact ja ⟨j,l,c,v,g,f.ext h,d,e,λi o u=>q i o (h.trans u)⟩
 |false=>cases e;exact jb (q _ _ h d)
theorem DB(m:DT X a t)(r:DW X (.BoolOp .Or (b::rest) pos) t'):DW X (.BoolOp .Or (a::b::rest) pos) (iQ t t'):=pO (xh m r) λy H Q k=>by
 obtain⟨n,l,p,v,g,f,s,e,q⟩:=k;obtain⟨x,c,w,e⟩:=zd e;refine⟨n,l,p,x,c,f,s,w,λj H1 h d=>?_⟩;cases x with
 |false=>exact jb ⟨j,l,c,v,g,f.ext h,d,e,λi o u=>q i o (h.trans u)⟩
 |true=>cases e;exact ja (q _ _ h d)
end
theorem EG(h:DT X a t):DT X (.UnaryOp .Not a pos) (dC t):=lu (FH h) λp H Q c=>by
 obtain⟨i,f,k,v,g,d,l,e,q⟩:=c;obtain⟨x,o,n,e⟩:=zd e;cases e;exact⟨i,f,k,x,_,d,l,n,λm H1 j b=>q _ _ j b⟩
theorem ME(r:DT X c t)(z:DE X a f)(s:DE X b f'):DE X (.IfExp c a b pos) (fO t f f'):=eI (IV r z s) λE H Q m=>by
 obtain⟨y,n,C,v,j,h,w,e,q⟩:=m;obtain⟨x,d,A,e⟩:=zd e;refine⟨y,n,C,x,d,h,w,A,λk H1 l i=>?_⟩;cases x with
 |true=>exact ja ⟨k,n,d,v,j,h.ext l,i,e,λg p u o=>q g p u (l.trans o)⟩
 |false=>exact jb ⟨k,n,d,v,j,h.ext l,i,e,λg p u o=>q g p u (l.trans o)⟩
def aC:SA:=λ_ a=>.ok [] a
def aB(f:SE) (g:SA):SA:=λc e=>(f c e).bind λx b=>(g c b).bind λd a=>.ok (x::d) a
def aS(g:SA):SE:=λc d=>(g c d).bind λb a=>if b.length<=sizeLine then .ok (.tup b) a else .stuck
def fy(g:SA):SE:=λc d=>(g c d).bind λb a=>if b.length<=sizeLine then .ok (.lst b) a else .stuck
def dR(g:SA):SE:=λc d=>(g c d).bind λb a=>if b.length<=sizeLine then .ok (.ref a.length) (a++[.lst b]) else .stuck
theorem Et:DA X [] aC:=ul nO λi H Q b=>by
 obtain⟨g,f,h,v,c,a,d,e,q⟩:=b;cases e;exact q _ _ _ (.refl _ _) d .nil
theorem Gg(A:DE X e f)(o:DA X es g)(z:starEach (e::es) X.env=(false,eval e X.env)::starEach es X.env:=by rfl):DA X (e::es) (aB f g):=ul (se A o z) λJ H Q d=>by
 obtain⟨t,k,G,v,p,a,s,e,q⟩:=d;obtain⟨x,b,E,e⟩:=zd e;obtain⟨y,C,I,e⟩:=zd e;cases e;refine⟨t,k,G,x,b,a,s,E,λh H1 u j c m=>?_⟩;exact⟨h,k,b,y,_,a.ext j,c,I,λr H2 w l i n=>q _ _ _ (j.trans l) i (.cons (m.ext l) n)⟩
theorem Dv{c}(h:DA X es g):DE X (.Tuple es c pos) (aS g):=eI (Fx h) λw H Q i=>by
 obtain⟨m,k,n,v,l,a,o,e,q⟩:=i;obtain⟨x,s,r,e⟩:=zd e;split at e
 ·rename_i t;cases e;refine⟨m,k,n,x,_,a,o,r,λf H1 u c b j=>⟨by rw[j.length];exact t,λp d=>?_⟩⟩;exact q f _ _ (c.trans (bj.new d _)) (b.new d _) (.newT b d j)
 ·cases e
theorem Do(h:DA X es g):DE X (.List es pos) (fy g):=eI (qF h) λw H Q f=>by
 obtain⟨l,j,n,v,k,a,o,e,q⟩:=f;obtain⟨x,s,r,e⟩:=zd e;split at e
 ·rename_i t;cases e;refine⟨l,j,n,x,_,a,o,r,λd H1 u m b i=>⟨by rw[i.length];exact t,λp c=>?_⟩⟩;exact q d _ _ (m.trans (bj.new c _)) (b.new c _) (.newL b c i)
 ·cases e
theorem At.last{K:Fg}{ρ:Loc}(h:n=ρ.m.length):At K ⟨ρ.m++[some p],ρ.g⟩ H (.ref n) (.ref p):=by
 subst h;refine .ref '&' λa e=>?_
 simp at e;rw[e]
theorem Ep(h:DA X es g):DE X (.List es pos) (dR g):=eI (qF h) λy H Q c=>by
 obtain⟨j,f,m,v,i,a,n,e,q⟩:=c;obtain⟨x,t,s,e⟩:=zd e;split at e
 ·rename_i w;cases e;refine⟨j,f,m,x,_,a,n,s,λr H1 u k b d=>⟨by rw[d.length];exact w,λp l=>?_⟩⟩;obtain⟨E,R⟩:=b.alloc l (x:=.lst x) (o:=.lst u) λE=>⟨u,fh,d.ext E⟩
  exact q _ _ _ (k.trans E) R (.last b.len.symm)
 ·cases e
def dY(a:aa):D->Option (List D)
 |.lst xs=>some xs
 |.ref n=>match a[n]? with
  |some (.lst xs)=>some xs
  |_=>none
 |_=>none
theorem k9{K:Fg}(c:bv K ρ au H) (a:At K ρ H (.ref n) u)(e:au[n]?=some o)(d:o≠.dead):∃p,u=.ref p/\ρ.m[n]?=some (some p)/\kJ K ρ H o p:=by
 cases a with
 |ref h1 h2=>
  obtain⟨p,b⟩:=c.live n o e d;exact⟨p,h2 p b,b,c.obj n p o b e⟩
theorem mC{K:Fg}(g:bv K ρ au H)(a:At K ρ H d u)(e:dY au d=some xs):∃p vs,u=.ref p/\H p=some (.lst vs)/\ah K ρ H xs vs:=by
 cases d<;>try (cases e;done)
 ·rename_i n;unfold dY at e;dsimp only at e;split at e
  ·rename_i h b;cases e;obtain⟨p,rfl,i,vs,f,c⟩:=k9 g a b (by intro z;cases z);exact⟨p,vs,rfl,f,c⟩
  ·cases e
 ·cases e;cases a with
  |lst h1 h2 h3=>exact⟨_,_,rfl,h1,h3⟩
def oI(C:Int->Int->Prop) [DecidableRel C] (h:Int->Int->D) (x y:D) (a:aa):ar D:=match x,y with
 |.int i,.int j=>if C i j then .ok (h i j) a else .stuck
 |_,_=>.stuck
theorem cy{K:Fg} [DecidableRel C] (k:∀i j c H,At K c H (h i j) (g i j)):fY K (oI C h) (rI C g):=λc H m x y u v z d Q l a b e q=>by
 unfold oI at e;split at e
 ·cases a;cases b;split at e
  ·rename_i f;cases e;exact⟨_,_,rfl,rfl,f,q _ _ _ (.refl _ _) l (k _ _ _ _)⟩
  ·cases e
 ·cases e
theorem eH{K:Fg}(k:∀i j d H,At K d H (h i j) (g i j)):fY K (oI (λ_ _=>True) h) (lU g):=λd H n x y u v z c Q l a b e q=>by
 obtain⟨i,j,m,o,_,f⟩:=cy (C:=λ_ _=>True) k d H n x y u v z c Q l a b e q;exact⟨i,j,m,o,f⟩
instance:DecidableRel gf:=λi j=>by unfold gf;infer_instance
instance:DecidableRel iq:=λi j=>by unfold iq;infer_instance
instance:DecidableRel mB:=λi j=>by unfold mB;infer_instance
abbrev fN:=oI (λ_ _=>True) λi j=>.int (i-j)
abbrev lZ:=oI iq λi j=>.int (i/j)
abbrev ez:=oI (λ_ j=>0<j) λi j=>.int (i%j)
abbrev xm:=oI mB λi j=>.int (i^j.toNat)
abbrev cL:=oI gf λi j=>.int (i*j)
def aO(x y:D) (c:aa):ar D:=match x,y with
 |.int i,.int j=>.ok (.int (i+j)) c
 |.tup a,.tup b=>if a.length+b.length<=sizeLine then .ok (.tup (a++b)) c else .stuck
 |.str a,.str b=>if a.length+b.length<=sizeLine then .ok (.str (a++b)) c else .stuck
 |x,y=>match dY c x,dY c y with
  |some a,some b=>if a.length+b.length<=sizeLine then .ok (.lst (a++b)) c else .stuck
  |_,_=>.stuck
abbrev pN(K:Fg):R2:=λx y H Q=>lU (λi j=>.int (i+j)) x y H Q\/pL K x y H Q\/(∃i j,x=.str i/\y=.str j/\i.length+j.length<=sizeLine/\Q (.str (i++j)) H)\/xf x y H Q
theorem di:cB X (binaryOp .Add) (pN X.K):=Fk.or (G4.or (Qi.or Fm))
theorem dh{K:Fg}:fY K aO (pN K):=λA H I x y u v z n Q c a b e q=>by
 unfold aO at e;split at e
 ·cases a;cases b;cases e;exact .inl ⟨_,_,rfl,rfl,q _ _ _ (.refl _ _) c (.int _)⟩
 ·rename_i s E;split at e
  ·rename_i d;cases e;refine .inr (.inl ?_);cases a with
   |tup g j h3=>
    cases b with
    |tup f h k3=>
     refine⟨_,_,_,_,rfl,rfl,bD.of g,bD.of f,by rw[h3.length,k3.length];exact d,λz=>?_,λo l=>?_,λo l p k=>?_⟩
     ·subst z;cases h3;exact q _ _ _ (.refl _ _) c (.tup f h k3)
     ·subst l;cases k3;rw[fE] at q;exact q _ _ _ (.refl _ _) c (.tup g j h3)
     ·exact q _ _ _ (bj.new k _) (c.new k _) (.newT c k (h3.append k3))
  ·cases e
 ·split at e
  ·rename_i d;cases a;cases b;cases e;exact .inr (.inr (.inl ⟨_,_,rfl,rfl,d,q _ _ _ (.refl _ _) c (.str _)⟩))
  ·cases e
 ·split at e
  ·rename_i g j;split at e
   ·rename_i d;cases e;obtain⟨p,G,rfl,r,m⟩:=mC c a g;obtain⟨C,w,rfl,f,h⟩:=mC c b j;exact .inr (.inr (.inr ⟨_,_,_,_,rfl,rfl,r,f,by rw[m.length,h.length];exact d,λt i=>q _ _ _ (bj.new i _) (c.new i _) (.newL c i (m.append h))⟩))
   ·cases e
  ·cases e
abbrev sY:=oI (λ_ _=>True) λi j=>.bl (decide (i<=j))
abbrev kX:=oI (λ_ _=>True) λi j=>.bl (decide (j<i))
abbrev Au:=oI (λ_ _=>True) λi j=>.bl (decide (j<=i))
mutual
noncomputable def bZ:D->Option PyData
 |.non=>some .none
 |.bl b=>some (.bool b)
 |.int i=>some (.int i)
 |.str x=>some (.str x)
 |.tup ds=>(bA ds).map .tuple
 |.lst ds=>(bA ds).map .list
 |_=>none
noncomputable def bA:List D->Option (List PyData)
 |[]=>some []
 |d::ds=>(bZ d).bind λx=>(bA ds).map λa=>x::a
end
mutual
theorem vB{K:Fg}{f:Loc}{H:Hp}:∀{d:D}{v:V}{p:PyData},At K f H d v->bZ d=some p->kc K H v p
 |_,_,_,.non,e=>by cases e;exact .non
 |_,_,_,.bl b,e=>by cases e;exact .bl b
 |_,_,_,.int i,e=>by cases e;exact .int i
 |_,_,_,.str x,e=>by cases e;exact .str x
 |_,_,_,.ty n,e=>by cases e
 |_,_,_,.exn _,e=>by cases e
 |_,_,_,.ref _ _,e=>by cases e
 |_,_,_,.tup h _ al,e=>by
  rw[bZ] at e;obtain⟨c,a,rfl⟩:=fH.mp e;exact .tup (bD.of h) (yh al a)
 |_,_,_,.lst h _ al,e=>by
  rw[bZ] at e;obtain⟨c,a,rfl⟩:=fH.mp e;exact .lst (cp.of h) (yh al a)
 |_,_,_,.scr _ _,e=>by cases e
theorem yh{K:Fg}{g:Loc}{H:Hp}:∀{d:List D}{v:List V}{p:List PyData},ah K g H d v->bA d=some p->jR K H v p
 |_,_,_,.nil,e=>by cases e;exact .nil
 |_,_,_,.cons a b,e=>by
  rw[bA] at e;obtain⟨x,f,e⟩:=rc.mp e;obtain⟨h,c,rfl⟩:=fH.mp e;exact .cons (vB a f) (yh b c)
end
def now(a:aa) (d:D):D:=match dY a d with
 |some xs=>.lst xs
 |none=>d
def dataOf(a:aa) (d:D):Option PyData:=bZ (now a d)
theorem sA{K:Fg}(c:bv K ρ au H) (a:At K ρ H d u)(e:dataOf au d=some p):kc K H u p:=by
 unfold dataOf now at e;split at e
 ·rename_i j h;obtain⟨q,i,rfl,f,b⟩:=mC c a h;rw[bZ] at e;obtain⟨k,g,rfl⟩:=fH.mp e;exact .lst (cp.of f) (yh b g)
 ·exact vB a e
def cO(d:Bool) (x y:D) (c:aa):ar D:=match dataOf c x,dataOf c y with
 |some a,some b=>if PySem.SeqAt.shaped a=true/\PySem.SeqAt.shaped b=true then .ok (.bl (if d then !PyData.eqv a b else PyData.eqv a b)) c else .stuck
 |_,_=>.stuck
theorem dq{K:Fg}:fY K (cO neg) (rx K neg):=λi H l x y u v z f Q c a b e q=>by
 unfold cO at e;split at e
 ·rename_i j k h g;split at e
  ·rename_i d;cases e;exact⟨_,_,sA c a h,sA c b g,d.1,d.2,q _ _ _ (.refl _ _) c (.bl _)⟩
  ·cases e
 ·cases e
abbrev dE:=cO false
abbrev lY:=cO true
def eS(a:Bool) (x y:D) (b:aa):ar D:=match x,y with
 |.ref _,_=>.stuck
 |.non,.non=>.ok (.bl (!a)) b
 |_,.non=>.ok (.bl a) b
 |_,_=>.stuck
theorem uZ{K:Fg}:fY K (eS false) (λx y H Q=>y=.non/\Q (.bl (decide (x=.non))) H):=λh H i x y u v z d Q c a b e q=>by
 unfold eS at e;split at e<;>try (cases e;done)
 ·cases a;cases b;cases e
  exact⟨rfl,q _ _ _ (.refl _ _) c (by simp;exact .bl _)⟩
 ·rename_i g f;cases b;cases e
  refine⟨rfl,q _ _ _ (.refl _ _) c ?_⟩;have:u≠.non:=by
   rintro rfl;cases a<;>first|exact f rfl|exact g _ rfl
  rw[bM this];exact .bl _
theorem GX{K:Fg}:fY K (eS true) (λx y H Q=>y=.non/\Q (.bl (!decide (x=.non))) H):=λh H i x y u v z d Q c a b e q=>by
 unfold eS at e;split at e<;>try (cases e;done)
 ·cases a;cases b;cases e
  exact⟨rfl,q _ _ _ (.refl _ _) c (by simp;exact .bl _)⟩
 ·rename_i g f;cases b;cases e
  refine⟨rfl,q _ _ _ (.refl _ _) c ?_⟩;have:u≠.non:=by
   rintro rfl;cases a<;>first|exact f rfl|exact g _ rfl
  rw[bM this];exact .bl _
noncomputable def bF:List D->Option (List Int)
 |[]=>some []
 |.int i::r=>(bF r).map (i::·)
 |_::_=>none
theorem qc{K:Fg}:∀{c:List D}{f:List V}{g:List Int},ah K ρ H c f->bF c=some g->f=g.map V.int
 |_,_,_,.nil,e=>by cases e;rfl
 |_,_,_,.cons (d:=d) a b,e=>by
  cases d<;>try (cases e;done)
  rw[bF] at e;obtain⟨i,h,rfl⟩:=fH.mp e;cases a;rw[qc b h]
  rfl
def db(x y:D) (c:aa):ar D:=match x,y with
 |.int i,.int j=>.ok (.bl (decide (i<j))) c
 |.tup a,.tup b=>match bF a,bF b with
  |some ns,some ms=>.ok (.bl (HT.lexLt ns ms)) c
  |_,_=>.stuck
 |_,_=>.stuck
abbrev w6(K:Fg):R2:=λx y H Q=>lU (λi j=>.bl (decide (i<j))) x y H Q\/w4 K x y H Q
theorem nk{X:Cx}(a:X.A.units<cLine):cB X (compareOp .Lt) (w6 X.K):=DR.or (Fo a)
theorem nj{K:Fg}:fY K db (w6 K):=λj H k x y u v z d Q c a b e q=>by
 unfold db at e;split at e
 ·cases a;cases b;cases e
  exact .inl ⟨_,_,rfl,rfl,q _ _ _ (.refl _ _) c (.bl _)⟩
 ·split at e
  ·rename_i g f;cases e;cases a with
   |tup g1 g2 g3=>
    cases b with
    |tup k1 k2 k3=>
     have h:=qc g3 g;have i:=qc k3 f;subst h i;exact .inr ⟨_,_,_,_,rfl,rfl,bD.of g1,bD.of k1,q _ _ _ (.refl _ _) c (.bl _)⟩
  ·cases e
 ·cases e
def bI(a:aa):D->Option (List D)
 |.tup xs=>some xs
 |.scr xs=>some xs
 |d=>dY a d
theorem tU{K:Fg}(f:bv K ρ au H) (a:At K ρ H d u)(e:bI au d=some xs):
  ∃p vs,u=.ref p/\(cp K H p vs\/bD K H p vs)/\ah K ρ H xs vs:=by
 unfold bI at e;split at e
 ·cases e;cases a with
  |tup b c h3=>exact⟨_,_,rfl,.inr (bD.of b),h3⟩
 ·cases e;cases a with
  |scr b h3=>exact⟨_,_,rfl,.inl b.sq,h3⟩
 ·obtain⟨p,vs,rfl,b,c⟩:=mC f a e;exact⟨p,vs,rfl,.inl (cp.of b),c⟩
theorem ah.atI{K:Fg}(h:ah K ρ H ds vs)(e:L2.atI ds i=some d):∃v,L2.atI vs i=some v/\At K ρ H d v:=by
 unfold L2.atI at e ⊢;rw[h.length];cases hi:i9 ds.length i with
 |none=>rw[hi] at e;cases e
 |some j=>
  rw[hi] at e;obtain⟨v,b,a⟩:=h.get (i:=j) e;exact⟨v,b,a⟩
def cx(x y:D) (a:aa):ar D:=match bI a x,y with
 |some xs,.int i=>match L2.atI xs i with
  |some v=>.ok v a
  |none=>.stuck
 |_,_=>.stuck
theorem DP{K:Fg}:fY K cx (PN K):=λk H n x y u v z h Q c a b e q=>by
 unfold cx at e;split at e
 ·rename_i j;split at e
  ·rename_i w i;cases e;cases b;obtain⟨p,l,rfl,h2,g⟩:=tU c a j;obtain⟨m,d,f⟩:=g.atI i;rcases h2 with h2|h2
   ·exact .inl ⟨_,_,_,_,rfl,rfl,h2,d,q _ _ _ (.refl _ _) c f⟩
   ·exact .inr (.inl ⟨_,_,_,_,rfl,rfl,h2,d,q _ _ _ (.refl _ _) c f⟩)
  ·cases e
 ·cases e
def cutD(a:List D) (lo b:Option Int):List D:=(a.drop (HT.bN a.length 0 lo)).take (HT.bN a.length a.length b-HT.bN a.length 0 lo)
theorem ah.cut{K:Fg}(h:ah K ρ H ds vs)(lo a:Option Int):ah K ρ H (cutD ds lo a) (gA vs lo a):=by
 unfold cutD gA;rw[h.length];exact(h.drop _).take _
def bq:DS->aa->ar (Option Int):=λ_ a=>.ok none a
def ay(f:SE):DS->aa->ar (Option Int):=λb c=>(f b c).bind λv a=>match v with
 |.int i=>.ok (some i) a
 |_=>.stuck
def j7(f:SE) (lo e:DS->aa->ar (Option Int)):SE:=λb g=>(f b g).bind λx d=>(lo b d).bind λl c=>(e b c).bind λh a=>match x with
 |.tup xs=>.ok (.tup (cutD xs l h)) a
 |x=>match dY a x with
  |some xs=>.ok (.lst (cutD xs l h)) a
  |none=>.stuck
def SQ(K:Fg) (f:DS->aa->ar (Option Int)):TO:=λh H Q=>∃d e g v a,cm K d H e h/\bv K d g H/\f e g=.ok v a/\∀b c,bj d H b c->bv K b a c->Q v c
abbrev DO(X:Cx) (e:Option Expr) (f:DS->aa->ar (Option Int)):Prop:=PO X e (SQ X.K f)
theorem ur(h:PO X e t)(k:∀a H Q,t' a H Q->t a H Q):PO X e t':=λb s a H Q I q=>h b s a H Q I (k _ _ _ q)
theorem Gq:DO X none bq:=ur Hi λi H Q b=>by
 obtain⟨g,f,h,v,c,a,d,e,q⟩:=b;cases e;exact q _ _ (.refl _ _) d
theorem Gr(n:DE X e f):DO X (some e) (ay f):=ur (Hj n) λr H Q d=>by
 obtain⟨i,g,k,v,h,a,l,e,q⟩:=d;obtain⟨x,b,p,e⟩:=zd e;refine⟨i,g,k,x,b,a,l,p,λm H1 u j c o=>?_⟩;cases x<;>try (cases e;done)
 cases e;cases o;exact⟨_,rfl,q _ _ j c⟩
theorem MD(e:DE X a f)(d:DE X b f')(c:gm b):DE X (.Subscript a b pos) (aU cx f f'):=eI (um E1 e d c) (lr DP)
section
variable {X:Cx}{a:Expr}{e:Expr}{f:SE}{pos:Pos}{lo:Option Expr}{hi:Option Expr}{l:DS->aa->ar (Option Int)}{h:DS->aa->ar (Option Int)}
theorem MB{p2:Pos}(J:DE X e f)(U:DO X lo l)(T:DO X hi h):DE X (.Subscript e (.Slice lo hi none p2) pos) (j7 f l h):=eI (Nh (Hu.or Ht) J U T) λτ H Q j=>by
 obtain⟨R,o,S,v,G,a,I,e,q⟩:=j;obtain⟨x,d,e1,e⟩:=zd e;obtain⟨y,g,Y,e⟩:=zd e;obtain⟨z,k,e3,e⟩:=zd e;refine⟨R,o,S,x,d,a,I,e1,λr H1 u n i E=>?_⟩;refine⟨r,o,d,y,g,a.ext n,i,Y,λm H2 s t=>?_⟩;refine⟨m,o,g,z,k,a.ext (n.trans s),t,e3,λa0 H3 C b=>?_⟩;have A:=E.ext (s.trans C);have w:=n.trans (s.trans C);split at e
 ·cases e;refine .inl ?_;cases A with
  |tup h1 h2 h3=>
   refine⟨_,_,rfl,bD.of h1,λec=>?_,λp c=>?_⟩
   ·refine q _ _ _ w b (.tup h1 h2 ?_);have:=h3.cut y z;rw[ec] at this;exact this
   ·exact q _ _ _ (w.trans (bj.new c _)) (b.new c _) (.newT b c (h3.cut y z))
 ·split at e
  ·rename_i xs P;cases e;obtain⟨p,vs,rfl,g1,g2⟩:=mC b A P;exact .inr ⟨_,_,rfl,cp.of g1,λp c=>q _ _ _ (w.trans (bj.new c _)) (b.new c _) (.newL b c (g2.cut y z))⟩
  ·cases e
end
def aG(g:List D->aa->ar D) (f:SA):SE:=λb c=>(f b c).bind λd a=>g d a
def iL(K:Fg) (g:List D->aa->ar D) (r:List V->Hp->VK->Prop):Prop:=
 ∀d H h f e z b (Q:VK),bv K d h H->ah K d H f e->g f h=.ok z b->(∀a c w,bj d H a c->bv K a b c->At K a c z w->Q w c)->r e H Q
theorem qk{K:Fg}(A:iL K g r):∀k H Q,tD K (aG g f) k H Q->L6 r (L5 K f) k H Q:=λk H Q j=>by
 obtain⟨n,l,p,v,c,a,s,e,q⟩:=j;obtain⟨x,b,z,e⟩:=zd e;exact⟨n,l,p,x,b,a,s,z,λh H1 u o i y=>A h H1 b x u v c Q i y e λd m w t=>q d m w (o.trans t)⟩
theorem Ga{x:Str}{id:String}(h:bu X (.builtin id) r)(m:iL X.K g r)(k:Gl X x)(d:X.mg x=none)(i:bootBuiltins x=some (.builtin id))(c:DA X (e::es) f)(l:x≠"__name__":=by decide)(b:(x==("__debug__" : Str))=false:=by decide)
 (j:starEach (e::es) X.env=(false,eval e X.env)::starEach es X.env:=by rfl)(a:(backTo pos (starEach es X.env)).any (·.1)=false:=by rfl):DE X (.Call (.Name x p) (e::es) [] pos) (aG g f):=eI (Ng h k d i c l b j a) (qk m)
theorem HZ{T:String}(h:bu X (.type T) r)(m:iL X.K g r)(k:Gl X x)(d:X.mg x=none)(i:bootBuiltins x=some (.type T))(c:DA X (e::es) f)(l:x≠"__name__":=by decide)(b:(x==("__debug__" : Str))=false:=by decide)
 (j:starEach (e::es) X.env=(false,eval e X.env)::starEach es X.env:=by rfl)(a:(backTo pos (starEach es X.env)).any (·.1)=false:=by rfl):DE X (.Call (.Name x p) (e::es) [] pos) (aG g f):=eI (NN h k d i c l b j a) (qk m)
theorem ah.one{K:Fg}(h:ah K ρ H [d] us):∃u,us=[u]/\At K ρ H d u:=by
 cases h with
 |cons a b=>cases b;exact⟨_,rfl,a⟩
theorem ah.two{K:Fg}(h:ah K ρ H [d,e] us):∃u v,us=[u,v]/\At K ρ H d u/\At K ρ H e v:=by
 cases h with
 |cons a b=>
  obtain⟨v,rfl,c⟩:=b.one;exact⟨_,_,rfl,a,c⟩
def bE:List D->aa->ar D:=λb a=>match b with
 |[x]=>match bI a x with
  |some ys=>.ok (.int ys.length) a
  |none=>.stuck
 |_=>.stuck
theorem iS{K:Fg}:iL K bE (λc H Q=>∃p b,c=[.ref p]/\(cp K H p b\/bD K H p b)/\Q (.int b.length) H):=λm H n c l z f Q d k e q=>by
 unfold bE at e;split at e
 ·split at e
  ·rename_i h;cases e;obtain⟨u,rfl,a⟩:=k.one;obtain⟨p,g,rfl,j,i⟩:=tU d a h;refine⟨p,g,rfl,j,?_⟩;rw[i.length];exact q _ _ _ (.refl _ _) d (.int _)
  ·cases e
 ·cases e
def kG:List D->aa->ar D:=λb a=>match b with
 |[.int i]=>.ok (.int (if i<0 then -i else i)) a
 |_=>.stuck
theorem Ed{K:Fg}:iL K kG (λb H Q=>∃i,b=[.int i]/\Q (.int (if i<0 then -i else i)) H):=λh H j b g z c Q d f e q=>by
 unfold kG at e;split at e
 ·cases e;obtain⟨u,rfl,a⟩:=f.one;cases a;exact⟨_,rfl,q _ _ _ (.refl _ _) d (.int _)⟩
 ·cases e
def tj(g:Int->Int->Int):List D->aa->ar D:=λb a=>match b with
 |[.int i,.int j]=>.ok (.int (g i j)) a
 |_=>.stuck
theorem nD{K:Fg}:iL K (tj g) (λc H Q=>∃i j,c=[.int i,.int j]/\Q (.int (g i j)) H):=λl H m c k z d Q f h e q=>by
 unfold tj at e;split at e
 ·cases e;obtain⟨u,v,rfl,a,b⟩:=h.two;cases a;cases b;exact⟨_,_,rfl,q _ _ _ (.refl _ _) f (.int _)⟩
 ·cases e
abbrev mm:=tj λi j=>if j<i then j else i
abbrev xD:=tj λi j=>if j > i then j else i
def gd:List D->aa->ar D:=λb a=>match b with
 |[x]=>match (bI a x).bind bF with
  |some ns=>.ok (.int ns.sum) a
  |none=>.stuck
 |_=>.stuck
theorem tz{K:Fg}:iL K gd (wY K):=λm H r o k z c Q b i e q=>by
 unfold gd at e;split at e
 ·split at e
  ·rename_i j h;cases e;obtain⟨l,f,h⟩:=rc.mp h;obtain⟨u,rfl,a⟩:=i.one;obtain⟨p,n,rfl,g,d⟩:=tU b a f;have e:=qc d h;subst e;exact⟨p,j,rfl,g,q _ _ _ (.refl _ _) b (.int _)⟩
  ·cases e
 ·cases e
noncomputable def cT:List D->Option (List Bool)
 |[]=>some []
 |.bl i::r=>(cT r).map (i::·)
 |_::_=>none
theorem N0{K:Fg}:∀{c:List D}{f:List V}{g:List Bool},ah K ρ H c f->cT c=some g->f=g.map V.bl
 |_,_,_,.nil,e=>by cases e;rfl
 |_,_,_,.cons (d:=d) a b,e=>by
  cases d<;>try (cases e;done)
  rw[cT] at e;obtain⟨i,h,rfl⟩:=fH.mp e;cases a;rw[N0 b h]
  rfl
def gC(b:Bool):List D->aa->ar D:=λc a=>match c with
 |[x]=>match (dY a x).bind cT with
  |some bs=>.ok (.bl (if b then bs.all id else bs.any id)) a
  |none=>.stuck
 |_=>.stuck
theorem pU{K:Fg}:iL K (gC al) (xg K al):=λm H r o k z c Q b i e q=>by
 unfold gC at e;split at e
 ·split at e
  ·rename_i j h;cases e;obtain⟨l,f,h⟩:=rc.mp h;obtain⟨u,rfl,a⟩:=i.one;obtain⟨p,n,rfl,g,d⟩:=mC b a f;have e:=N0 d h;subst e;exact⟨p,j,rfl,cp.of g,q _ _ _ (.refl _ _) b (.bl _)⟩
  ·cases e
 ·cases e
def jG(a:aa):D->Option String
 |.non=>some "NoneType"
 |.bl _=>some "bool"
 |.int _=>some "int"
 |.str _=>some "str"
 |.tup _=>some "tuple"
 |.lst _=>some "list"
 |.ref n=>match a[n]? with
  |some (.lst _)=>some "list"
  |some (.dT _)=>some "dict"
  |_=>none
 |_=>none
noncomputable def xr(t T:String):Bool:=t==T||(t=="bool"&&T=="int")
def av:List D->aa->ar D:=λb a=>match b with
 |[x,.ty T]=>match jG a x with
  |some t=>if["int","bool","str","tuple","list","dict"].contains T=true then .ok (.bl (xr t T)) a else .stuck
  |none=>.stuck
 |_=>.stuck
theorem KL{K:Fg}(c:bv K ρ au H) (a:At K ρ H d u)(e:jG au d=some t):fc K H u (.type t)/\t∈["NoneType","bool","int","str","tuple","list","dict"]:=by
 cases d<;>try (cases e;done)
 ·cases e;cases a;exact⟨.non,by simp⟩
 ·cases e;cases a;exact⟨.bl _,by simp⟩
 ·cases e;cases a;exact⟨.int _,by simp⟩
 ·cases e;cases a;exact⟨.str _,by simp⟩
 ·unfold jG at e;dsimp only at e;split at e
  ·rename_i h;cases e;obtain⟨p,rfl,g,f,b,i⟩:=k9 c a h (by intro z;cases z);exact⟨.lst b,by simp⟩
  ·rename_i h;cases e;obtain⟨p,rfl,g,f,b,i⟩:=k9 c a h (by intro z;cases z);exact⟨.dT b,by simp⟩
  ·cases e
 ·cases e;cases a with
  |tup h1 h2 h3=>exact⟨.tup h1,by simp⟩
 ·cases e;cases a with
  |lst h1 h2 h3=>exact⟨.lst h1,by simp⟩
theorem E9{K:Fg}{T:String}(b:t∈["NoneType","bool","int","str","tuple","list","dict"])(a:T∈["int","bool","str","tuple","list","dict"]):W.kitOne K (.type t) (.type T)=some (xr t T):=by
 simp only[ce,iB,iy] at b a;rcases b with rfl|rfl|rfl|rfl|rfl|rfl|rfl<;>rcases a with rfl|rfl|rfl|rfl|rfl|rfl<;>rfl
theorem lc{K:Fg}:iL K av (λc H Q=>∃x T t b,c=[x,.ty T]/\fc K H x t/\W.kitOne K t (.type T)=some b/\Q (.bl b) H):=λm H n c l z f Q d k e q=>by
 unfold av at e;split at e
 ·split at e
  ·rename_i h;split at e
   ·rename_i g;cases e;obtain⟨u,v,rfl,a,b⟩:=k.two;cases b;obtain⟨j,i⟩:=KL d a h;exact⟨_,_,_,_,rfl,j,E9 i (by simpa using g),q _ _ _ (.refl _ _) d (.bl _)⟩
   ·cases e
  ·cases e
 ·cases e
def aY:List D->aa->ar D:=λb a=>match b with
 |[.tup ys]=>.ok (.tup ys) a
 |[x]=>match dY a x with
  |some ys=>.ok (.tup ys) a
  |none=>.stuck
 |_=>.stuck
theorem nr{K:Fg}:iL K aY (λi H Q=>∃p d,i=[.ref p]/\((cp K H p d/\∀l,H l=none->Q (.ref l) (aD H l (.tup d)))\/(bD K H p d/\Q (.ref p) H))):=λn H r i m z k Q b j e q=>by
 unfold aY at e;split at e
 ·cases e;obtain⟨u,rfl,a⟩:=j.one;cases a with
  |tup c f h3=>exact⟨_,_,rfl,.inr ⟨bD.of c,q _ _ _ (.refl _ _) b (.tup c f h3)⟩⟩
 ·split at e
  ·rename_i h;cases e;obtain⟨u,rfl,a⟩:=j.one;obtain⟨p,o,rfl,c,f⟩:=mC b a h;exact⟨_,_,rfl,.inl ⟨cp.of c,λl g=>q _ _ _ (bj.new g _) (b.new g _) (.newT b g f)⟩⟩
  ·cases e
 ·cases e
def pQ:List D->aa->ar D:=λb a=>match b with
 |[x]=>match bI a x with
  |some ys=>.ok (.lst ys) a
  |none=>.stuck
 |_=>.stuck
def iI:List D->aa->ar D:=λb a=>match b with
 |[x]=>match bI a x with
  |some ys=>.ok (.ref a.length) (a++[.lst ys])
  |none=>.stuck
 |_=>.stuck
theorem HN{K:Fg}:iL K iI (λf H Q=>∃p b,f=[.ref p]/\(cp K H p b\/bD K H p b)/\∀l,H l=none->Q (.ref l) (aD H l (.lst b))):=λr H s f n z g Q c k e q=>by
 unfold iI at e;split at e
 ·split at e
  ·rename_i b h;cases e;obtain⟨u,rfl,a⟩:=k.one;obtain⟨p,d,rfl,j,i⟩:=tU c a h;refine⟨_,_,rfl,j,λl m=>?_⟩;obtain⟨E,R⟩:=c.alloc m (x:=.lst b) (o:=.lst d) λE=>⟨d,fh,i.ext E⟩
   exact q _ _ _ E R (.last c.len.symm)
  ·cases e
 ·cases e
noncomputable abbrev aN(a:List Int):D:=.tup (a.map .int)
abbrev aL(l:List (List Int)):List D:=l.map aN
def kF(a:List Int):List (List Int)->List (List Int)
 |[]=>[a]
 |b::r=>if HT.lexLt b a=true then b::kF a r else a::b::r
def cJ:List (List Int)->List (List Int)
 |[]=>[]
 |a::r=>kF a (cJ r)
abbrev rG(l:List (List Int)):Prop:=l.Pairwise λa b=>HT.lexLt b a=false
theorem BH(a:List Int):∀l,(kF a l).Perm (a::l)
 |[]=>.refl _
 |b::r=>by
  unfold kF;split
  ·exact(List.Perm.cons b (BH a r)).trans (.swap a b r)
  ·exact .refl _
theorem sF:∀l,(cJ l).Perm l
 |[]=>.refl _
 |a::r=>(BH a _).trans (.cons a (sF r))
theorem QY(e:HT.lexLt b a=false)(d:HT.lexLt c b=false):HT.lexLt c a=false:=by
 cases h:HT.lexLt c a with
 |false=>rfl
 |true=>
  rcases Srt.tL a b with z|z|z
  ·have:=Srt.tY h z;rw[d] at this;cases this
  ·subst z;rw[d] at h;cases h
  ·rw[e] at z;cases z
theorem vN(a:List Int):∀l,rG l->rG (kF a l)
 |[],_=>LD _ _
 |b::r,h=>by
  obtain⟨e,f⟩:=pz.mp h;unfold kF;split
  ·rename_i c;refine pz.mpr ⟨λx hx=>?_,vN a r f⟩;rcases ce.mp ((BH a r).mem_iff.mp hx) with rfl|hx
   ·exact Srt.Ke c
   ·exact e x hx
  ·rename_i c;have d:HT.lexLt b a=false:=by simpa using c
   refine pz.mpr ⟨λx hx=>?_,h⟩;rcases ce.mp hx with rfl|hx
   ·exact d
   ·exact QY d (e x hx)
theorem yt:∀l,rG (cJ l)
 |[]=>.nil
 |a::r=>vN a _ (yt r)
theorem NU:∀{l m:List (List Int)},l.Perm m->rG l->rG m->l=m
 |[],m,p,_,_=>by rw[List.nil_perm.mp p]
 |a::l,[],p,_,_=>by cases List.perm_nil.mp p
 |a::l,b::m,p,h1,h2=>by
  obtain⟨c,h⟩:=pz.mp h1;obtain⟨f,d⟩:=pz.mp h2;have e:a=b:=by
   rcases ce.mp (p.mem_iff.mp f6) with z|z
   ·exact z
   ·rcases ce.mp (p.mem_iff.mpr (f6 (a:=b) (l:=m))) with y|y
    ·exact y.symm
    ·have g:=f a z;have i:=c b y;rcases Srt.tL a b with w|w|w
     ·rw[g] at w;cases w
     ·exact w
     ·rw[i] at w;cases w
  subst e;rw[NU (List.Perm.cons_inv p) h d]
theorem By{m:List (List Int)}(p:m.Perm l)(h:rG m):m=cJ l:=NU (p.trans (sF l).symm) h (yt l)
theorem Q9(l:List (List Int)):(cJ l).length=l.length:=(sF l).length_eq
def eZ:List D->Option (List (List Int))
 |[]=>some []
 |.tup ds::r=>(bF ds).bind λa=>(eZ r).map (a::·)
 |_::_=>none
theorem Nx{K:Fg}:∀{f:List D}{g:List V}{l:List (List Int)},ah K ρ H f g->eZ f=some l ->
  ∃c:List (Addr×List Int),g=c.map (λp=>V.ref p.1)/\c.map (·.2)=l/\∀p∈c,H p.1=some (.tup (p.2.map V.int))/\cV ρ p.1
 |_,_,_,.nil,e=>by cases e;exact⟨[],rfl,rfl,λ_ h=>nomatch h⟩
 |_,_,_,.cons (d:=d) a b,e=>by
  cases d<;>try (cases e;done)
  rw[eZ] at e;obtain⟨o,n,e⟩:=rc.mp e;obtain⟨l,q,rfl⟩:=fH.mp e;obtain⟨c,m,k,i⟩:=Nx b q;cases a with
  |tup g1 g2 g3=>
   rename_i ad r;have j:=qc g3 n;subst j;refine⟨(ad,o)::c,by rw[m];rfl,by rw[←k];rfl,λp hp=>?_⟩;rcases ce.mp hp with rfl|hp
   ·exact⟨g1,g2⟩
   ·exact i p hp
theorem yk{K:Fg}:∀a:List Int,ah K ρ H (a.map .int) (a.map V.int)
 |[]=>.nil
 |n::a=>.cons (.int n) (yk a)
theorem Bv{K:Fg}:∀a:List (Addr×List Int),(∀p∈a,H p.1=some (.tup (p.2.map V.int))/\cV ρ p.1)->ah K ρ H (aL (a.map (·.2))) (a.map λp=>V.ref p.1)
 |[],_=>.nil
 |p::a,h=>.cons (.tup (h p f6).1 (h p f6).2 (yk _)) (Bv a λq b=>h q (gZ _ b))
theorem NL{K:Fg}(r:bv K ρ au H) (b:H p=some (.tup vs)):cV ρ p:=by
 refine⟨λz=>?_,λz=>?_⟩
 ·obtain⟨i,d,e⟩:=kx z;obtain⟨x,_,q⟩:=r.has (n:=i) (a:=p) (by rw[bQ d,e]);cases x with
  |lst xs=>obtain⟨_,e,_⟩:=q;rw[b] at e;cases e
  |dT kvs=>obtain⟨_,e,_⟩:=q;rw[b] at e;cases e
  |fT kvs=>obtain⟨_,_,e,_⟩:=q;rw[b] at e;cases e
  |dI kvs=>obtain⟨_,e,_⟩:=q;rw[b] at e;cases e
  |dP ks=>obtain⟨_,e,_⟩:=q;rw[b] at e;cases e
  |dead=>exact q
  |tab=>obtain⟨_,_,e,_⟩:=q;rw[b] at e;cases e
 ·obtain⟨⟨u,c⟩,_⟩:=r.gh p z;rw[b] at c;cases c
noncomputable def dw(a:List (List Int×D)) (k:List Int):Option D:=(a.find? λb=>decide (b.1=k)).map (·.2)
noncomputable def kC(a:List (List Int×D)) (k:List Int) (v:D):List (List Int×D):=
 if(a.any λb=>decide (b.1=k))=true then a.map (λb=>if b.1=k then(b.1,v) else b) else a++[(k,v)]
noncomputable def pP(a:List (List Int×D)) (k:List Int):List (List Int×D):=a.filter λb=>decide (b.1≠k)
theorem AI{a b:List Int}:a.map (Sum.inl:Int->cN)=b.map Sum.inl↔a=b:=by
 constructor
 ·intro h;exact(List.map_inj_right (f:=(Sum.inl:Int->cN)) λx y e=>Sum.inl.inj e).mp h
 ·rintro rfl;rfl
theorem dG.val{K:Fg}(h:dG K ρ H kvs vs)(k:List Int):match dw kvs k with
  |some d=>∃v,eQ vs (k.map Sum.inl)=some v/\At K ρ H d v
  |none=>eQ vs (k.map Sum.inl)=none:=by
 induction h with
 |nil=>rfl
 |@cons p q ps qs h t ih=>
  obtain⟨b,c⟩:=h;by_cases e:p.1=k
  ·have a:dw (p::ps) k=some p.2:=by simp[dw,og,e]
   rw[a];exact⟨q.2,yw (by rw[b,e]),c⟩
  ·have a:dw (p::ps) k=dw ps k:=by simp[dw,og,e]
   have f:eQ (q::qs) (k.map Sum.inl)=eQ qs (k.map Sum.inl):=yv (by rw[b,AI];exact e);rw[a,f];exact ih
theorem dG.keys{K:Fg}(h:dG K ρ H kvs vs):vs.map (·.1)=(kvs.map (·.1)).map λa=>a.map Sum.inl:=by
 induction h with
 |nil=>rfl
 |@cons p q ps qs h t ih=>rw[dr,dr,dr,ih,h.1]
theorem dG.put{K:Fg}(h:dG K ρ H b c)(k:List Int) (a:At K ρ H d v):dG K ρ H (kC b k d) (fq c (k.map Sum.inl) v):=by
 have any:∀{b:List (List Int×D)}{c:List (List cN×V)},dG K ρ H b c->(b.any λi=>decide (i.1=k))=(c.any λi=>decide (i.1=k.map Sum.inl)):=λh=>by
  induction h with
  |nil=>rfl
  |@cons p q ps qs h t ih=>
   rw[wp,wp,ih,h.1]
   congr 1
   simp only[AI]
 unfold kC fq;rw[any h];split
 ·rename_i l;clear l any
  induction h with
  |nil=>exact .nil
  |@cons p q ps qs h t ih=>
   refine .cons ?_ ih;obtain⟨f,j⟩:=h;dsimp only;by_cases e:p.1=k
   ·rw[if_pos e,if_pos (by rw[f,e])];exact⟨f,a⟩
   ·rw[if_neg e,if_neg (by rw[f,AI];exact e)];exact⟨f,j⟩
 ·have g:∀{b:List (List Int×D)}{c:List (List cN×V)},dG K ρ H b c->dG K ρ H (b++[(k,d)]) (c++[(k.map Sum.inl,v)]):=λh=>by
   induction h with
   |nil=>exact .cons ⟨rfl,a⟩ .nil
   |cons h t ih=>exact .cons h ih
  exact g h
theorem dG.length{K:Fg}(h:dG K ρ H kvs vs):kvs.length=vs.length:=wq h
def pairsOf(a:aa):D->Option (List (List Int×D))
 |.ref n=>match a[n]? with
  |some (.dT kvs)=>some kvs
  |some (.fT kvs)=>some kvs
  |_=>none
 |_=>none
theorem Bp{K:Fg}(f:bv K ρ au H) (a:At K ρ H d u)(e:pairsOf au d=some kvs):∃p vs,u=.ref p/\Rd H p (.dT vs)/\dG K ρ H kvs vs:=by
 unfold pairsOf at e;split at e
 ·split at e
  ·rename_i h;cases e;obtain⟨p,rfl,g,vs,c,b⟩:=k9 f a h (by intro z;cases z);exact⟨p,vs,rfl,.inl c,b⟩
  ·rename_i h;cases e;obtain⟨p,rfl,g,vs,i,c,b⟩:=k9 f a h (by intro z;cases z);exact⟨p,vs,rfl,.inr ⟨i,c⟩,b⟩
  ·cases e
 ·cases e
def dN:D->Option (List Int)
 |.tup ds=>bF ds
 |_=>none
theorem uQ{K:Fg}(a:At K ρ H d u)(e:dN d=some k):∃p,u=.ref p/\H p=some (.tup ((k.map (Sum.inl:Int->cN)).map kV)):=by
 unfold dN at e;split at e
 ·cases a with
  |tup h1 h2 h3=>
   have:=qc h3 e;subst this;exact⟨_,rfl,by rw[vQ];exact h1⟩
 ·cases e
theorem vD{K:Fg}(g:bv K ρ au H) (a:At K ρ H d u)(b:At K ρ H y w)(e:pairsOf au d=some kvs)(j:dN y=some k):
  ∃p o,u=.ref p/\kK H p w o/\match dw kvs k with
   |some z=>∃v,o=some v/\At K ρ H z v
   |none=>o=none:=by
 obtain⟨p,c,rfl,h,f⟩:=Bp g a e;obtain⟨q,rfl,i⟩:=uQ b j;refine⟨p,eQ c (k.map Sum.inl),rfl,.inr ⟨c,_,q,h,rfl,i,rfl⟩,?_⟩;have:=f.val k;cases hv:dw kvs k with
 |none=>rw[hv] at this;exact this
 |some z=>rw[hv] at this;exact this
def fw(x y:D) (a:aa):ar D:=match pairsOf a x,dN y with
 |some kvs,some k=>match dw kvs k with
  |some v=>.ok v a
  |none=>.stuck
 |_,_=>.stuck
def gz(f g h:SE):SE:=λc e=>(f c e).bind λx b=>match pairsOf b x with
 |some _=>(g c b).bind λy d=>(h c d).bind λz a=>match pairsOf a x,dN y with
  |some kvs,some k=>.ok ((dw kvs k).getD z) a
  |_,_=>.stuck
 |none=>.stuck
def xB(f g:SE):SE:=λc d=>(f c d).bind λx a=>match pairsOf a x with
 |some _=>(g c a).bind λy b=>match x,dN y with
  |.ref n,some k=>match b[n]? with
   |some (.dT kvs)=>match dw kvs k with
    |some v=>.ok v (b.set n (.dT (pP kvs k)))
    |none=>.stuck
   |_=>.stuck
  |_,_=>.stuck
 |none=>.stuck
def gu(f g h:SE):SS:=λb e=>(h b e).bind λv d=>(f b d).bind λx c=>(g b c).bind λy a=>match x,dN y with
 |.ref n,some k=>match a[n]? with
  |some (.dT kvs)=>if kvs.length<sizeLine then .ok (.nx b) (a.set n (.dT (kC kvs k v))) else .stuck
  |_=>.stuck
 |_,_=>.stuck
def jg:SE:=λ_ a=>.ok (.ref a.length) (a++[.dT []])
theorem EY{K:Fg}(b:bv K ρ au H) (a:At K ρ H d u)(e:pairsOf au d=some kvs):∃p,u=.ref p/\MQ H p:=by
 obtain⟨p,f,rfl,c,_⟩:=Bp b a e;exact⟨p,rfl,.inr ⟨f,c⟩⟩
theorem En:DE X (.Dict [] [] pos) jg:=eI IT λj H Q b p f=>by
 obtain⟨h,g,i,v,d,a,c,e,q⟩:=b;cases e;obtain⟨E,R⟩:=c.alloc f (x:=.dT []) (o:=.dT []) λE=>⟨[],fh,.nil⟩
 exact q _ _ _ E R (.last c.len.symm)
theorem Em{X:Cx}(hu:X.A.units+1<cLine)(P:DE X o f)(I:DE X i g)(S:oR i):DE X (.Subscript o i pos) (aU fw f g):=eI (Ha hu P I S) λτ H Q h=>by
 obtain⟨R,m,au,v,E,a,J,e,q⟩:=h;obtain⟨x,b,e1,e⟩:=zd e;obtain⟨y,k,e2,e⟩:=zd e;refine⟨R,m,au,x,b,a,J,e1,λj H1 u l d A=>?_⟩;refine⟨j,m,b,y,k,a.ext l,d,e2,λG H2 w n c C=>?_⟩;unfold fw at e;split at e
 ·rename_i Y T;split at e
  ·rename_i z s;cases e;obtain⟨p,oo,rfl,g1,r⟩:=vD c (A.ext n) C Y T;rw[s] at r;obtain⟨t,rfl,U⟩:=r;exact⟨p,t,rfl,g1,q _ _ _ (l.trans n) c U⟩
  ·cases e
 ·cases e
theorem Gb{X:Cx}(hu:X.A.units + 1<cLine)(Y:DE X o f)(U:DE X e g)(hf:DE X f' h)(m:M2 X o "get" apos e f' cpos):DE X (.Call (.Attribute o "get" apos) [e,f'] [] cpos) (gz f g h):=eI (IS hu Y U hf m) λτ H Q k=>by
 obtain⟨ρ,s,au,v,S,a,T,e,q⟩:=k;obtain⟨x,b,e1,e⟩:=zd e;refine⟨ρ,s,au,x,b,a,T,e1,λA H1 u r c I=>?_⟩;split at e
 ·rename_i h0;obtain⟨p,rfl,R⟩:=EY c I h0;obtain⟨y,i,e2,e⟩:=zd e;obtain⟨z,l,e3,e⟩:=zd e;refine⟨p,rfl,R,?_⟩;refine⟨A,s,b,y,i,a.ext r,c,e2,λn H2 w C E P=>?_⟩;refine⟨n,s,i,z,l,a.ext (r.trans C),E,e3,λa0 H3 t G d a3=>?_⟩;split at e
  ·rename_i h1 h2;cases e;obtain⟨p',oo,J,g1,g2⟩:=vD d (I.ext (C.trans G)) (P.ext G) h1 h2;cases J;refine⟨oo,g1,q _ _ _ (r.trans (C.trans G)) d ?_⟩;revert g2;split
   ·rename_i j;rintro⟨vv,rfl,g3⟩;rw[j];exact g3
   ·rename_i j;rintro rfl;rw[j];exact a3
  ·cases e
 ·cases e
theorem Gu{X:Cx}{d:Pos}(hu:X.A.units+1<cLine)(ho:DE X o f)(hi:DE X i g)(Y:DE X value h)(hs:swapsWith value (some (.Subscript o i pos')) d.line X.env=pure false):
  jQ X (.Assign [.Subscript o i pos'] value d) (gu f g h):=jo (Hk hu ho hi Y hs) λE τ H G=>by
 obtain⟨ρ,P,au,fl,a4,a,rp,e,q⟩:=G;obtain⟨v,c,e1,e⟩:=zd e;obtain⟨x,l,e2,e⟩:=zd e;obtain⟨y,I,e3,e⟩:=zd e;refine⟨ρ,P,au,v,c,a,rp,e1,λQ H1 u r C a1=>?_⟩;refine⟨Q,P,c,x,l,a.ext r,C,e2,λJ H2 w s R a2=>?_⟩;refine⟨J,P,l,y,I,a.ext (r.trans s),R,e3,λm H3 t A j a3=>?_⟩;split at e
 ·rename_i n k hk _;split at e
  ·rename_i a0 hn;split at e
   ·rename_i hl;cases e;obtain⟨p,rfl,T,vs,S,U⟩:=k9 j (a2.ext A) hn (by intro z;cases z);obtain⟨b,rfl,g3⟩:=uQ a3 hk;have E:bj m H3 m (aD H3 p (.dT (fq vs (k.map Sum.inl) u))):=bj.wr T (xY S) _;refine⟨p,_,rfl,my.t S g3 (by rw[←U.length];exact hl),?_⟩;exact q _ _ _ ((r.trans (s.trans A)).trans E) (j.wr T (xY S) ⟨_,fh,(U.put k (a1.ext (s.trans A))).ext E⟩) (a.ext ((r.trans (s.trans A)).trans E))
   ·cases e
  ·cases e
 ·cases e
def fA:List D->aa->ar D:=λb a=>match b with
 |[x]=>match (dY a x).bind eZ with
  |some l=>if l.length<=1000000 then .ok (.lst (aL (cJ l))) a else .stuck
  |none=>match pairsOf a x with
   |some kvs=>if kvs.length<=1000000 then .ok (.lst (aL (cJ (kvs.map (·.1))))) a else .stuck
   |none=>.stuck
 |_=>.stuck
theorem Jw{K:Fg}:iL K fA (λj H Q=>fM K j H Q\/eR j H Q):=λJ H R j P z C Q d A e q=>by
 unfold fA at e;split at e
 ·obtain⟨u,rfl,a⟩:=A.one;split at e
  ·rename_i l o;obtain⟨I,G,o⟩:=rc.mp o;split at e
   ·rename_i b;cases e;obtain⟨p,y,rfl,n,k⟩:=mC d a G;obtain⟨s,rfl,rfl,v⟩:=Nx k o;rw[ax] at b;refine .inl ⟨p,s,rfl,cp.of n,b,λx f=>bD.of (v x f).1,λt h c i m=>?_⟩;have r:h.map (·.2)=cJ (s.map (·.2)):=By (i.map _) m;refine q _ _ _ (bj.new c _) (d.new c _) (.newL d c ?_);rw[←r];exact Bv h λx f=>v x (i.mem_iff.mp f)
   ·cases e
  ·split at e
   ·rename_i g E;split at e
    ·rename_i b;cases e;obtain⟨p,y,rfl,n,k⟩:=Bp d a E;refine .inr ⟨p,y,g.map (·.1),rfl,n,k.keys,by rw[ax];exact b,λt h c i m w=>?_⟩;have r:h.map (·.2)=cJ (g.map (·.1)):=By i m;refine q _ _ _ (bj.new c _) (d.new c _) (.newL d c ?_);rw[←r];exact Bv h λx f=>⟨w x f,NL d (w x f)⟩
    ·cases e
   ·cases e
 ·cases e
theorem QT{X:Cx}(c:X.calm=true)(b:X.A.units + 64<cLine):bu X (.builtin "sorted") (λa H Q=>fM X.K a H Q\/eR a H Q):=(Rc b).or (Rm c b)
def bW(f:SE) (g:SA):SE:=λc e=>(f c e).bind λx b=>match x,dY b x with
 |.ref n,some _=>(g c b).bind λd a=>match d,a[n]? with
  |[y],some (.lst xs)=>if xs.length<sizeLine then .ok .non (a.set n (.lst (xs++[y]))) else .stuck
  |_,_=>.stuck
 |_,_=>.stuck
def oK(f:SE) (g:SA):SE:=λc e=>(f c e).bind λx b=>match x,dY b x with
 |.ref n,some _=>(g c b).bind λd a=>match d,a[n]? with
  |[y],some (.lst xs)=>match dY a y with
   |some zs=>if xs.length+zs.length<=sizeLine then .ok .non (a.set n (.lst (xs++zs))) else .stuck
   |none=>.stuck
  |_,_=>.stuck
 |_,_=>.stuck
def oJ(f:SE):SE:=λb c=>(f b c).bind λx a=>match x with
 |.ref n=>match a[n]? with
  |some (.lst xs)=>match xs[xs.length-1]? with
   |some y=>.ok y (a.set n (.lst xs.dropLast))
   |none=>.stuck
  |_=>.stuck
 |_=>.stuck
theorem ah.dropLast{K:Fg}:∀{c:List D}{d:List V},ah K ρ H c d->ah K ρ H c.dropLast d.dropLast
 |_,_,.nil=>.nil
 |_,_,.cons a .nil=>.nil
 |_,_,.cons a (.cons b t)=>.cons a (ah.dropLast (.cons b t))
theorem HY{c:Pos}(ho:DE X o f)(ha:DA X (e::es) ga)(d:attributeBase o "append" X.env (eval o X.env)=eval o X.env:=by rfl)
  (l:((backTo cpos (starEach (e::es) X.env)).all (λx=>!x.1)&&(backToKw cpos (keywordEach [] X.env)).all (λx=>x.1.isSome)
   && decide ((e::es).length+([]:List Keyword).length+(if([]:List Keyword).isEmpty then 0 else 1)<30))=true:=by rfl)
  (g:(c.endLine==cpos.line)=true:=by rfl)(hs:starEach (e::es) X.env=(false,eval e X.env)::starEach es X.env:=by rfl)(b:(backTo cpos (starEach es X.env)).any (·.1)=false:=by rfl):
  DE X (.Call (.Attribute o "append" c) (e::es) [] cpos) (bW f ga):=eI (ls F.plainAttrs_list F.slot_list_append F.type_list_append NK ho ha d l g hs b) λτ H Q r=>by
 obtain⟨ρ,I,au,v,a0,a,rp,e,q⟩:=r;obtain⟨x,h,e1,e⟩:=zd e;refine⟨ρ,I,au,x,h,a,rp,e1,λt H1 u G i C=>?_⟩;split at e
 ·rename_i n _ U;obtain⟨T,A,e2,e⟩:=zd e;obtain⟨p,vs,rfl,g1,g2⟩:=mC i C U;refine⟨.inl ⟨rfl,_,cp.of g1⟩,t,I,h,T,A,a.ext G,i,e2,λk H2 ws P m Y=>?_⟩;split at e
  ·rename_i y xs hn;split at e
   ·rename_i hl;cases e;obtain⟨w,rfl,a3⟩:=Y.one;obtain⟨p',S,J,j,s,R⟩:=k9 m (C.ext P) hn (by intro z;cases z);cases S;have E:bj k H2 k (aD H2 p (.lst (j++[w]))):=bj.wr J (sk s) _;exact⟨p,j,w,rfl,rfl,s,by rw[R.length];exact hl,q _ _ _ ((G.trans P).trans E) (m.wr J (sk s) ⟨_,fh,(R.append (.cons a3 .nil)).ext E⟩) .non⟩
   ·cases e
  ·cases e
 ·cases e
theorem Dt{c:Pos}{b:Pos}(P:DE X o f)(d:attributeBase o "pop" X.env (eval o X.env)=eval o X.env:=by rfl)(g:(c.endLine==b.line)=true:=by rfl):DE X (.Call (.Attribute o "pop" c) [] [] b) (oJ f):=
 eI (Fq F.plainAttrs_list F.slot_list_pop F.type_list_pop Fe P d g) λτ H Q m=>by
 obtain⟨S,R,au,v,G,a,I,e,q⟩:=m;obtain⟨x,l,Y,e⟩:=zd e;refine⟨S,R,au,x,l,a,I,Y,λj H1 u J h t=>?_⟩;split at e
 ·split at e
  ·rename_i n _ xs C;split at e
   ·rename_i y A;cases e;obtain⟨p,rfl,s,i,k,r⟩:=k9 h t C (by intro z;cases z);obtain⟨w,T,U⟩:=r.get A;have E:bj j H1 j (aD H1 p (.lst i.dropLast)):=bj.wr s (sk k) _;exact⟨.inl ⟨rfl,_,cp.of k⟩,p,i,w,rfl,rfl,k,by rw[r.length];exact T,q _ _ _ (J.trans E) (h.wr s (sk k) ⟨_,fh,r.dropLast.ext E⟩) (U.ext E)⟩
   ·cases e
  ·cases e
 ·cases e
def sZ(f:SE):SE:=λb c=>(f b c).bind λx a=>match x with
 |.ref n=>match a[n]? with
  |some (.lst xs)=>.ok (.lst xs) (a.set n .dead)
  |_=>.stuck
 |_=>.stuck
theorem MF(C:DE X o f):DE X o (sZ f):=eI C λY H Q h=>by
 obtain⟨I,G,S,v,t,a,w,e,q⟩:=h;obtain⟨x,g,P,e⟩:=zd e;refine⟨I,G,S,x,g,a,w,P,λk H1 u A b l=>?_⟩;split at e
 ·rename_i n;split at e
  ·rename_i U m;cases e;obtain⟨p,rfl,j,r,s,J⟩:=k9 b l m (by intro z;cases z);have c:=(du.mp j).1;obtain⟨E,R⟩:=b.kill c;refine q _ _ _ (A.trans E) R (.lst s ⟨λz=>?_,λz=>(b.gh p z).2 (fj j)⟩ (J.ext E));obtain⟨i,y,T⟩:=kx z;have d:(k.m.set n none)[i]?=some (some p):=by rw[bQ y,T]
   by_cases hin:i=n
   ·subst hin;rw[lM c] at d;simp at d
   ·rw[jF (cb hin)] at d;exact hin (b.inj i n p d j)
  ·cases e
 ·cases e
def ck:SS:=λa b=>.ok (.nx a) b
def lT:SS:=λa b=>.ok (.brk a) b
def SV:SS:=λa b=>.ok (.ct a) b
def ao(f:SE):SS:=λb c=>(f b c).bind λv a=>.ok (.ret v) a
def pI:SS:=λ_ a=>.ok (.ret .non) a
def cR(f:SE):SS:=λb c=>(f b c).bind λ_ a=>.ok (.nx b) a
def aH(i:Nat) (f:SE):SS:=λb c=>(f b c).bind λv a=>.ok (.nx (b.set i (some v))) a
def aF(s t:SS):SS:=λa b=>match s a b with
 |.ok (.nx σ1) st1=>t σ1 st1
 |r=>r
def bU(c:ST) (s t:SS):SS:=λd e=>(c d e).bind λb a=>if b=true then s d a else t d a
def jJ(i:Nat) (g:D->D->aa->ar D) (f:SE):SS:=λa d=>match a[i]? with
 |some (some x)=>(f a d).bind λy b=>(g x y b).bind λz c=>.ok (.nx (a.set i (some z))) c
 |_=>.stuck
def da(f g h:SE):SS:=λb e=>(h b e).bind λv d=>(f b d).bind λx c=>(g b c).bind λy a=>match x,y with
 |.ref n,.int k=>match a[n]? with
  |some (.lst xs)=>match i9 xs.length k with
   |some j=>.ok (.nx b) (a.set n (.lst (xs.set j v)))
   |none=>.stuck
  |_=>.stuck
 |_,_=>.stuck
theorem EB:mx X [] ck:=tG vZ λE j H b=>by
 obtain⟨h,f,i,g,c,a,d,e,q⟩:=b;cases e;exact q _ _ _ (.refl _ _) d a
theorem Ii:jQ X (.Break pos) lT:=jo IY λE j H b=>by
 obtain⟨h,f,i,g,c,a,d,e,q⟩:=b;cases e;exact q _ _ _ (.refl _ _) d a
theorem ED(m:DE X e f):jQ X (.Return (some e) pos) (ao f):=jo (qH m) λE s H c=>by
 obtain⟨h,d,j,r,g,a,k,e,q⟩:=c;obtain⟨x,n,p,e⟩:=zd e;cases e;exact⟨h,d,j,x,_,a,k,p,λl H1 u i b o=>q _ _ _ i b o⟩
theorem Gv{b:Pos}(o:DE X e f)(k:swapsWith e none b.line X.env=pure false:=by rfl):jQ X (.Expr e b) (cR f):=jo (Hl o k) λE v H d=>by
 obtain⟨j,h,l,s,i,a,m,e,q⟩:=d;obtain⟨x,p,r,e⟩:=zd e;cases e;exact⟨j,h,l,x,_,a,m,r,λn H1 u g c t=>q _ _ _ g c (a.ext g)⟩
theorem D0{K:Fg}:∀E d H,sX K (aH i f) E d H->oz (tD K f) (je i) E d H:=λE d H c=>by
 obtain⟨k,h,l,s,j,a,m,e,q⟩:=c;obtain⟨x,p,o,e⟩:=zd e;cases e;exact⟨k,h,l,x,_,a,m,o,λn H1 u g b r=>q _ _ _ g b ((a.ext g).set r i)⟩
theorem EE{X:Cx}{a:Pos}(h:X.N.Nodup)(d:X.N[i]?=some x)(j:L2.Loc X.env.scope x)(g:DE X e f)(b:swapsWith e (some (.Name x pos')) a.line X.env=pure false:=by rfl)(c:X.fn x=true\/X.env.scope.names.lookup x=some .local:=by first|exact .inl rfl|exact .inr rfl|assumption):
 jQ X (.Assign [.Name x pos'] e a) (aH i f):=jo (ve h d j g b c) D0
theorem EC(a:jQ X sm s):mx X [sm] s:=AT a
section
variable {X:Cx}{e:Expr}{sm:Stmt}{rest:List Stmt}{s:SS}{t:SS}
theorem Gs(w:jQ X sm s)(r:mx X rest t):mx X (sm::rest) (aF s t):=tG (Br w r) λE y H g=>by
 obtain⟨m,l,n,h,b,a,k,e,q⟩:=g;unfold aF at e;split at e
 ·rename_i d c x;exact⟨m,l,n,_,c,a,k,x,λj H1 u p f o=>⟨j,d,c,h,b,o,f,e,q.ext p⟩⟩
 ·rename_i i;refine⟨m,l,n,h,b,a,k,e,?_⟩;cases h with
  |nx σ'=>exact absurd e (i σ' b)
  |brk σ'=>exact q
  |ct σ'=>exact q
  |ret v=>exact q
end
theorem Dy(o:DT X c b)(m:mx X a' s)(r:mx X b' t):jQ X (.If c a' b' pos) (bU b s t):=jo (qu o m r) λE w H k=>by
 obtain⟨n,j,p,l,f,a,u,e,q⟩:=k;obtain⟨x,d,v,e⟩:=zd e;refine⟨n,j,p,x,d,a,u,v,λg H1 i h=>?_⟩;cases x with
 |true=>exact ja ⟨g,j,d,l,f,a.ext i,h,e,q.ext i⟩
 |false=>exact jb ⟨g,j,d,l,f,a.ext i,h,e,q.ext i⟩
def AA(K:Fg) (g:D->D->aa->ar D) (r:xF):Prop:=
 ∀d H e x y u v z b (Q:VK),bv K d e H->At K d H x u->At K d H y v->g x y e=.ok z b->(∀a c w,bj d H a c->bv K a b c->At K a c z w->Q w c)->r u v H Q
theorem Ez{X:Cx}(I:X.N.Nodup)(A:X.N[i]?=some x)(P:L2.Loc X.env.scope x)(G:DE X e f)(J:xI X op ti)(r:AA X.K g ti)(S:X.fn x=true\/X.env.scope.names.lookup x=some .local:=by first|exact .inl rfl|exact .inr rfl|assumption):
  jQ X (.AugAssign (.Name x pos') op e pos) (jJ i g f):=jo (FE I A P G J S) λE τ H h=>by
 obtain⟨R,Q,au,fl,j,a,C,e,q⟩:=h;unfold jJ at e;split at e
 ·rename_i d s;obtain⟨y,b,Y,e⟩:=zd e;obtain⟨z,U,e2,e⟩:=zd e;cases e;obtain⟨u,T,v⟩:=a.get s;refine⟨u,T,R,Q,au,y,b,a,C,Y,λl H1 w k c o=>?_⟩;exact r l H1 b d y u w z j _ c (v.ext k) o e2 λt H2 zz n m p=>q _ _ _ (k.trans n) m ((a.ext (k.trans n)).set p i)
 ·cases e
theorem Mn{K:Fg}:AA K (oI (λ_ _=>True) λi j=>.int (p i j)) (PQ p):=λg H f x y u v z d Q c a b e q=>by
 unfold oI at e;split at e
 ·cases a;cases b;rw[if_pos True.intro] at e;cases e;exact⟨_,_,rfl,rfl,q _ _ _ (.refl _ _) c (.int _)⟩
 ·cases e
theorem Il{c:Pos}(he:DE X value h)(ho:DE X o f)(hi:DE X i g)(ha:∀v,assign (.Subscript o i pos') X.env v=(do
   let ov ←holding [v] (eval o X.env)
   let iv ←holding [v,ov] (eval i X.env)
   standAt pos'
   holding [v,ov,iv] (setItem ov iv v)
   release [v,ov,iv] []):=by intro _;rfl)
  (hs:swapsWithSole [.Subscript o i pos'] value c.line X.env=pure false:=by rfl)(hw:swappedStores [.Subscript o i pos'] value X.env=pure none:=by rfl)
  (h1:(assignEach [.Subscript o i pos'] X.env).map (·.2)=[assign (.Subscript o i pos') X.env]:=by rfl):jQ X (.Assign [.Subscript o i pos'] value c) (da f g h):=
 jo (FD he (Fz ho hi Jh ha) hs hw h1) λE τ H G=>by
 obtain⟨ρ,P,au,fl,a0,a,rp,e,q⟩:=G;obtain⟨v,b,e1,e⟩:=zd e;obtain⟨x,l,e2,e⟩:=zd e;obtain⟨y,I,e3,e⟩:=zd e;refine⟨ρ,P,au,v,b,a,rp,e1,λQ H1 u r C a1=>?_⟩;refine⟨Q,P,b,x,l,a.ext r,C,e2,λJ H2 w s R a2=>?_⟩;refine⟨J,P,l,y,I,a.ext (r.trans s),R,e3,λm H3 t A d a3=>?_⟩;split at e
 ·rename_i n k _;split at e
  ·rename_i xs hn;split at e
   ·rename_i j hj;cases e;cases a3;obtain⟨p,rfl,T,Y,S,U⟩:=k9 d (a2.ext A) hn (by intro z;cases z);have E:bj m H3 m (aD H3 p (.lst (Y.set j u))):=bj.wr T (sk S) _;refine⟨p,Y,k,j,rfl,rfl,S,by rw[U.length];exact hj,?_⟩;exact q _ _ _ ((r.trans (s.trans A)).trans E) (d.wr T (sk S) ⟨_,fh,(U.set (a1.ext (s.trans A)) j).ext E⟩) (a.ext ((r.trans (s.trans A)).trans E))
   ·cases e
  ·cases e
 ·cases e
abbrev SG:=D->DS->Option DS
def gN(i:Nat):SG:=λd a=>some (a.set i (some d))
def im:List D->DS->Option DS:=λb a=>match b with
 |[]=>some a
 |_=>none
def dz(t:SG) (u:List D->DS->Option DS):List D->DS->Option DS:=λc b=>match c with
 |d::r=>(t d b).bind λa=>u r a
 |_=>none
def gT(n:Nat) (u:List D->DS->Option DS):SG:=λd a=>match d with
 |.tup ds=>if ds.length=n then u ds a else none
 |_=>none
def gD(K:Fg) (b:SG):TG:=λv g H Q=>∃e f d c,cm K e H f g/\At K e H d v/\b d f=some c/\∀a,cm K e H c a->Q a H
def SW(K:Fg) (b:List D->DS->Option DS):rM:=λg h H Q=>∃d e f c,cm K d H e h/\ah K d H f g/\b f e=some c/\∀a,cm K d H c a->Q a H
abbrev DG(X:Cx) (a:Expr) (b:SG):Prop:=PG X a (gD X.K b)
abbrev xN(X:Cx) (a:List Expr) (b:List D->DS->Option DS):Prop:=rN X a (SW X.K b)
theorem uo(h:PG X e g)(k:∀v a H Q,g' v a H Q->g v a H Q):PG X e g':=λc s b H v u Q I r q=>h c s b H v u Q I r (k _ _ _ _ q)
theorem vc(h:rN X es g)(k:∀v a H Q,g' v a H Q->g v a H Q):rN X es g':=λc s b H v u Q I r q=>h c s b H v u Q I r (k _ _ _ _ q)
theorem Gi{X:Cx}(h:X.N.Nodup)(g:X.N[i]?=some x)(k:L2.Loc X.env.scope x)(f:X.fn x=true\/X.env.scope.names.lookup x=some .local:=by first|exact .inl rfl|exact .inr rfl|assumption):DG X (.Name x pos) (gN i):=
 uo (Hb h g k f) λv n H Q c=>by
 obtain⟨m,l,d,j,a,b,e,q⟩:=c;cases e;exact q _ (a.set b i)
theorem Gj:xN X [] im:=vc Hc λv i H Q c=>by
 obtain⟨h,g,d,f,a,b,e,q⟩:=c;unfold im at e;split at e
 ·cases e;cases b;exact⟨rfl,q _ a⟩
 ·cases e
theorem Ic(m:DG X e t)(k:xN X es u)(j:(assignEach (e::es) X.env).map (·.2)=assign e X.env::(assignEach es X.env).map (·.2):=by rfl):xN X (e::es) (dz t u):=
 vc (IW m k j) λv r H Q f=>by
 obtain⟨h,i,d,g,a,b,e,q⟩:=f;unfold dz at e;split at e
 ·obtain⟨c,n,p⟩:=rc.mp e;cases b with
  |cons b1 b2=>exact⟨_,_,rfl,h,i,_,c,a,b1,n,λl o=>⟨h,c,_,g,o,b2,p,q⟩⟩
 ·cases e
theorem Eu{X:Cx}(m:X.calm=true)(h:xN X es u)(o:(assignEach es X.env).length=n:=by rfl)(f:(assignEach es X.env).findIdx? (·.1)=none:=by rfl):DG X (.Tuple es k pos) (gT n u):=
 uo (FA m h o f) λv p H Q g=>by
 obtain⟨l,i,d,c,a,b,e,q⟩:=g;unfold gT at e;split at e
 ·split at e
  ·rename_i j;cases b with
   |tup h1 h2 h3=>exact⟨_,_,rfl,bD.of h1,by rw[h3.length];exact j,l,i,_,c,a,h3,e,q⟩
  ·cases e
 ·cases e
structure eG (ρ:Loc) (H:Hp) (ρ':Loc) (H':Hp):Prop where
 len:ρ.m.length<=ρ'.m.length
 old:∀(n:Nat) (a:Addr),n < ρ.m.length->ρ'.m[n]?=some (some a)->ρ.m[n]?=some (some a)
 keep:∀a o,H a=some o->some a∉ρ.m->H' a=some o/\some a∉ρ'.m
 gho:∀a∈ρ'.g,a∈ρ.g\/H a=none
 frz:∀a ob u,H a=some (.frz ob u)->H' a=some (.frz ob u)
theorem bj.toG(x:bj ρ H ρ' H'):eG ρ H ρ' H':=⟨x.len,x.old,x.keep,λa h=>.inl (by rw[←x.gho];exact h),x.frz⟩
theorem eG.then(a:eG ρ H ρ1 H1)(b:bj ρ1 H1 ρ2 H2):eG ρ H ρ2 H2:=
 ⟨aT a.len b.len,λn c h e=>a.old n c h (b.old n c (cD h a.len) e),λc o e n=>by
  obtain⟨g,f⟩:=a.keep c o e n
  exact b.keep c o g f,λc h=>a.gho c (by rw[←b.gho];exact h),λc d u e=>b.frz c d u (a.frz c d u e)⟩
theorem eG.out(x:eG ρ H ρ' H') (h:H a=some o)(n:cV ρ a):H' a=some o/\cV ρ' a:=
 ⟨(x.keep a o h n.1).1,(x.keep a o h n.1).2,λz=>by
  rcases x.gho a z with q|q
  ·exact n.2 q
  ·rw[h] at q;cases q⟩
theorem eG.mv(x:eG ρ H ρ' H'):Mv ρ H ρ' H':=⟨λh n=>x.out h n,x.len,x.old⟩
theorem At.extG{K:Fg}(x:eG ρ H ρ' H') (h:At K ρ H d v):At K ρ' H' d v:=h.mv x.mv
theorem Ls.extG{K:Fg}(x:eG ρ H ρ' H')(h:Ls K ρ H a vs):Ls K ρ' H' a vs:=h.mv x.mv
structure mq (K:Fg) (ρ:Loc) (H:Hp) (J:It) (xs:List D):Prop where
 item:∀ρ2 H2,eG ρ H ρ2 H2->∀(i:Nat) (x:D),xs[i]?=some x->J.go i H2/\∀y H3,J.yld i H2 y H3->bj ρ2 H2 ρ2 H3/\∀au,bv K ρ2 au H2->bv K ρ2 au H3/\At K ρ2 H3 x y
 done:∀ρ2 H2,eG ρ H ρ2 H2->∀i:Nat,xs.length<=i->J.stop i H2
def iD(K:Fg) (f:SA):TI:=λi H R=>∃d e h g b,cm K d H e i/\bv K d h H/\f e h=.ok g b/\∀a c J,bj d H a c->bv K a b c->mq K a c J g->R J c
abbrev DI(X:Cx) (a iter:Expr) (f:SA):Prop:=PI X a iter (iD X.K f)
noncomputable def gs:D->Option (List D)
 |.tup xs=>some xs
 |.lst xs=>some xs
 |.scr xs=>some xs
 |_=>none
def aJ(f:SE):SA:=λb c=>(f b c).bind λx a=>match gs x with
 |some xs=>.ok xs a
 |none=>.stuck
noncomputable def rng(lo:Int) (n:Nat):List D:=(List.range n).map λ(i:Nat)=>D.int (lo+i)
def jd(g:SA):SA:=λb c=>(g b c).bind λd a=>match d with
 |[.int j]=>if -(2^62)<=j/\j<2^62 then .ok (rng 0 j.toNat) a else .stuck
 |_=>.stuck
def xx(g:SA):SA:=λb c=>(g b c).bind λd a=>match d with
 |[.int i,.int j]=>if -(2^62)<=i/\i<2^62/\-(2^62)<=j/\j<2^62 then .ok (rng i (j-i).toNat) a else .stuck
 |_=>.stuck
theorem p6{lo:Int}(h:(rng lo n)[i]?=some x):i<n/\x=.int (lo+i):=by
 unfold rng at h;rw[dm] at h;rcases gU i n with z|z
 ·rw[List.getElem?_range z] at h;exact⟨z,(eg h).symm⟩
 ·rw[ot (by rw[zR];exact z)] at h;cases h
theorem uP{K:Fg}{lo:Int}:mq K ρ H (xM lo n) (rng lo n) where
 item:=λa H2 x i d e=>by
  obtain⟨b,rfl⟩:=p6 e;refine⟨b,λy H3 c=>?_⟩;obtain⟨rfl,rfl⟩:=c;exact⟨.refl _ _,λ_ r=>⟨r,.int _⟩⟩
 done:=λa H2 x i h=>by
  unfold rng at h;rw[ax,zR] at h;exact h
theorem jC(h:PI X tg l t)(k:∀a H R,t' a H R->t a H R):PI X tg l t':=λc s b H R I q=>h c s b H R I (k _ _ _ q)
theorem uq(h:PI X tg l t)(d:PI X tg l t'):PI X tg l (λc H R=>t c H R\/t' c H R):=λb s a H R I q=>by
 rcases q with q|q
 ·exact h b s a H R I q
 ·exact d b s a H R I q
theorem xQ{K:Fg}(c:∀b H2,eG ρ H b H2->cp K H2 p vs)(g:ah K ρ H xs vs):mq K ρ H (MP K p) xs where
 item:=λb H2 x i d e=>by
  obtain⟨v,f,a⟩:=g.get e;refine⟨⟨vs,v,c _ _ x,f⟩,λy H3 k=>?_⟩;obtain⟨rfl,j⟩:=k;have:=j vs (c _ _ x);rw[f] at this;cases this;exact⟨.refl _ _,λ_ r=>⟨r,a.extG x⟩⟩
 done:=λb H2 x i h=>⟨vs,c _ _ x,by rw[g.length];exact h⟩
theorem uA{K:Fg}(c:∀b H2,eG ρ H b H2->bD K H2 p vs)(g:ah K ρ H xs vs):mq K ρ H (MN K p) xs where
 item:=λb H2 x i d e=>by
  obtain⟨v,f,a⟩:=g.get e;refine⟨⟨vs,v,c _ _ x,f⟩,λy H3 k=>?_⟩;obtain⟨rfl,j⟩:=k;have:=j vs (c _ _ x);rw[f] at this;cases this;exact⟨.refl _ _,λ_ r=>⟨r,a.extG x⟩⟩
 done:=λb H2 x i h=>⟨vs,c _ _ x,by rw[g.length];exact h⟩
theorem Ev(r:DE X l f):DI X tg l (aJ f):=jC (uq (vX r) (vd r)) λw H R o=>by
 obtain⟨k,j,m,v,s,a,n,e,q⟩:=o;obtain⟨x,t,p,e⟩:=zd e;cases x with
 |tup ys=>
  cases e;refine .inr ⟨k,j,m,_,_,a,n,p,λg H1 u c b i=>?_⟩;cases i with
  |tup h1 h2 h3=>exact⟨_,rfl,⟨_,bD.of h1⟩,q _ _ _ c b (uA (λd H2 h=>bD.of (h.out h1 h2).1) h3)⟩
 |lst ys=>
  cases e;refine .inl ⟨k,j,m,_,_,a,n,p,λg H1 u c b i=>?_⟩;cases i with
  |lst h1 h2 h3=>exact⟨_,rfl,⟨_,cp.of h1⟩,q _ _ _ c b (xQ (λd H2 h=>cp.of (h.out h1 h2).1) h3)⟩
 |scr ys=>
  cases e;refine .inl ⟨k,j,m,_,_,a,n,p,λg H1 u c b i=>?_⟩;cases i with
  |scr h1 h3=>exact⟨_,rfl,⟨_,h1.sq⟩,q _ _ _ c b (xQ (λd H2 h=>(h1.extG h).sq) h3)⟩
 |_=>cases e
theorem JU(m:Gl X "range")(s:X.mg "range"=none)(v:DA X [a] g)(r:starEach [a] X.env=[(false,eval a X.env)]:=by rfl):DI X tg (.Call (.Name "range" p) [a] [] pos) (jd g):=
 jC (Ku m s v r) λC H R c=>by
 obtain⟨o,n,z,A,j,a,k,e,q⟩:=c;obtain⟨x,f,y,e⟩:=zd e;split at e
 ·split at e
  ·rename_i d;cases e;refine⟨o,n,z,_,_,a,k,y,λt H1 u l b h=>?_⟩;obtain⟨w,rfl,i⟩:=h.one;cases i;exact⟨_,rfl,d.1,d.2,q _ _ _ l b uP⟩
  ·cases e
 ·cases e
theorem JV(n:Gl X "range")(t:X.mg "range"=none)(A:DA X [a,b] g)(s:starEach [a,b] X.env=[(false,eval a X.env),(false,eval b X.env)]:=by rfl)(f:starEach [b] X.env=[(false,eval b X.env)]:=by rfl):DI X tg (.Call (.Name "range" p) [a,b] [] pos) (xx g):=
 jC (Kv n t A s f) λI H R d=>by
 obtain⟨r,o,E,G,k,a,l,e,q⟩:=d;obtain⟨x,h,C,e⟩:=zd e;split at e
 ·split at e
  ·rename_i y;cases e;refine⟨r,o,E,_,_,a,l,C,λv H1 u m c i=>?_⟩;obtain⟨w,J,rfl,j,z⟩:=i.two;cases j;cases z;exact⟨_,_,rfl,y,q _ _ _ m c uP⟩
  ·cases e
 ·cases e
def ik(f:SE):SA:=λb c=>(f b c).bind λx a=>match x with
 |.ref n=>match a[n]? with
  |some (.dT kvs)=>.ok (aL (kvs.map (·.1))) (a.set n (.fT kvs))
  |_=>.stuck
 |_=>.stuck
theorem Gk(hl:DE X l f):DI X tg l (ik f):=jC (Hd hl) λτ H R t=>by
 obtain⟨ρ,σ,au,xs,U,a,Y,e,q⟩:=t;obtain⟨x,j,e1,e⟩:=zd e;refine⟨ρ,σ,au,x,j,a,Y,e1,λb H1 u x1 c Q=>?_⟩;split at e
 ·rename_i n;split at e
  ·rename_i g T;cases e;obtain⟨p,rfl,G,o,A,P⟩:=k9 c Q T (by intro z;cases z);refine⟨p,o,g.map (·.1),rfl,A,P.keys,λw I J h2=>?_⟩;have E:bj b H1 b (aD H1 p (.frz w (.dT o))):=bj.wr G (xY A) _;have R:bv X.K b (j.set n (.fT g)) (aD H1 p (.frz w (.dT o))):=c.wr G (xY A) ⟨o,w,fh,P.ext E⟩;refine q _ _ _ (x1.trans E) R ⟨λv H2 m i d e=>?_,λv H2 m i h=>?_⟩
   ·have s:(I.map (·.2))[i]?=(g.map (·.1))[i]?:=by rw[J]
    unfold aL at e;rw[dm,←s,dm] at e;cases hi:I[i]? with
    |none=>rw[hi] at e;cases e
    |some x=>
     rw[hi] at e;cases e;refine⟨⟨(du.mp hi).1,m.frz _ _ _ fh⟩,λy H3 S=>?_⟩;obtain⟨rfl,x',k,rfl⟩:=S;rw[hi] at k;cases k;have C:=h2 x (fj hi);have a3:At X.K b H1 (aN x.2) (.ref x.1):=.tup C (NL c C) (yk _);exact⟨.refl _ _,λ_ r=>⟨r,(a3.ext E).extG m⟩⟩
   ·have s:=congrArg List.length J;rw[ax] at s;unfold aL at h;rw[ax,←s] at h;exact⟨h,m.frz _ _ _ fh⟩
  ·cases e
 ·cases e
def dO(b:SG) (a:SS):List D->SS
 |[],σ,au=>.ok (.nx σ) au
 |x::xs,σ,au=>match b x σ with
  |none=>.stuck
  |some σ1=>match a σ1 au with
   |.ok (.nx σ2) st2=>dO b a xs σ2 st2
   |.ok (.ct σ2) st2=>dO b a xs σ2 st2
   |.ok (.brk σ2) st2=>.ok (.nx σ2) st2
   |r=>r
def dj(d:SA) (f:SG) (a:SS):SS:=λc g=>(d c g).bind λe b=>dO f a e c b
def cH(c:ST) (a:SS):Nat->SS
 |0,_,_=>.stuck
 |n+1,σ,au=>(c σ au).bind λb d=>if b=true then(match a σ d with
  |.ok (.nx σ2) st2=>cH c a n σ2 st2
  |.ok (.ct σ2) st2=>cH c a n σ2 st2
  |.ok (.brk σ2) st2=>.ok (.nx σ2) st2
  |r=>r) else .ok (.nx σ) d
noncomputable def lN:Nat:=1000000
def cZ(c:ST) (a:SS):SS:=cH c a lN
theorem vE{b:Type}{a:List b}(h:i<a.length):∃x,a[i]?=some x/\a.drop i=x::a.drop (i+1):=⟨a[i],bQ h,sV h⟩
theorem EA{X:Cx}(hp:PassesOwn (model X.prog X.w) X.A X.env X.xe)(hc:X.calm=true)(hi:DI X tg iter it)(hg:DG X tg bd)(hb:mx X body b)(hs:∀x,foldedSetIterable iter X.env x=pure x:=by intro _;rfl):
  jQ X (.For tg iter body [] pos) (dj it bd b):=jo (FF hp hc hi hg hb hs) λE τ H Y=>by
 obtain⟨ρ,σ,au,fl,G,a,rp,e,q⟩:=Y;obtain⟨t,C,e1,e⟩:=zd e;refine⟨ρ,σ,au,t,C,a,rp,e1,λp H1 J x1 U ok=>?_⟩;have q1:=q.ext x1;refine⟨λi m I A=>i+m=t.length/\∃g k l,bj p H1 g A/\cm X.K g A k I/\bv X.K g l A/\dO bd b (t.drop i) k l=.ok fl G,⟨t.length,by lia,p,σ,C,.refl _ _,a.ext x1,U,e⟩,?_⟩;rintro i m I A ⟨a3,g,k,l,S,a2,Q,c⟩;rcases gU i t.length with a0|hge
 ·obtain⟨x,hx,hd⟩:=vE a0;rw[hd] at c;obtain⟨go,yl⟩:=ok.item g A S.toG i x hx;refine .inr ⟨go,λR H3=>∃n d f,bj p H1 n H3/\cm X.K n H3 d R/\bv X.K n f H3/\dO bd b (t.drop (i+1)) d f=.ok fl G,λR H3 ⟨n,d,f,n1,n2,n3,n4⟩=>⟨m-1,by lia,by lia,n,d,f,n1,n2,n3,n4⟩,λy H3 hy=>?_⟩;obtain⟨y1,y4⟩:=yl y H3 hy;obtain⟨y2,y3⟩:=y4 _ Q;unfold dO at c;cases hbd:bd x k with
  |none=>rw[hbd] at c;cases c
  |some σ1=>
   rw[hbd] at c;dsimp only at c;have T:=S.trans y1;refine⟨g,k,x,σ1,a2.ext y1,y3,hbd,λa1 a4=>?_⟩;cases hr:b σ1 l with
   |stuck=>rw[hr] at c;cases c
   |exc z w=>rw[hr] at c;cases c
   |ok fb f=>
    rw[hr] at c;refine⟨g,σ1,l,fb,f,a4,y2,hr,?_⟩;cases fb with
    |nx d=>exact λj r P o h s=>⟨j,d,f,T.trans o,s,h,c⟩
    |ct d=>exact λj r P o h s=>⟨j,d,f,T.trans o,s,h,c⟩
    |brk d=>
     dsimp only at c;cases c;exact λj r P o h s=>q1 _ _ _ (T.trans o) h s
    |ret v=>
     dsimp only at c;cases c;exact λj r u o h s=>q1 _ _ _ (T.trans o) h s
 ·rw[Ai hge] at c;unfold dO at c;cases c;exact .inl ⟨ok.done g A S.toG i hge,q1 _ _ _ S Q a2⟩
theorem Im{X:Cx}(hp:PassesOwn (model X.prog X.w) X.A X.env X.xe)(hc:DT X c t)(hb:mx X body b):jQ X (.While c body [] pos) (cZ t b):=jo (I0 hp hc hb) λE τ H T=>by
 obtain⟨Y,σ,au,fl,y,a,rp,e,q⟩:=T;unfold cZ at e;generalize lN=n at e;refine⟨λm C S=>∃i g j,bj Y H i S/\cm X.K i S g C/\bv X.K i j S/\cH t b m g j=.ok fl y,⟨n,Y,σ,au,.refl _ _,a,rp,e⟩,?_⟩;rintro m C S ⟨i,g,j,x2,U,a0,R⟩;cases m with
 |zero=>unfold cH at R;cases R
 |succ m=>
  unfold cH at R;obtain⟨x,l,e3,f⟩:=zd R;refine⟨i,g,j,x,l,U,a0,e3,λa1 H3 x3 J=>?_⟩;have P:=x2.trans x3;cases x with
  |false=>
   rw[if_neg '"'] at f;cases f;exact jb (q _ _ _ P J (U.ext x3))
  |true=>
   rw[if_pos rfl] at f;refine ja ⟨λA Q=>∃k G s,bj Y H k Q/\cm X.K k Q G A/\bv X.K k s Q/\cH t b m G s=.ok fl y,λA Q hh=>⟨m,zK m,hh⟩,?_⟩;cases hr:b g l with
   |stuck=>rw[hr] at f;cases f
   |exc z w=>rw[hr] at f;cases f
   |ok fb st5=>
    rw[hr] at f;refine⟨a1,g,l,fb,st5,U.ext x3,J,hr,?_⟩;cases fb with
    |nx σ3=>exact λh p I o d r=>⟨h,σ3,st5,P.trans o,r,d,f⟩
    |ct σ3=>exact λh p I o d r=>⟨h,σ3,st5,P.trans o,r,d,f⟩
    |brk σ3=>
     dsimp only at f;cases f;exact λh p I o d r=>q _ _ _ (P.trans o) d r
    |ret v=>
     dsimp only at f;cases f;exact λh p u o d r=>q _ _ _ (P.trans o) d r
def aX(e:SG) (c:ST) (f:SE):List D->DS->aa->ar (List D)
 |[],_,au=>.ok [] au
 |x::xs,σ,au=>match e x σ with
  |none=>.stuck
  |some σ1=>(c σ1 au).bind λb a=>if b=true then(f σ1 a).bind λy g=>(aX e c f xs σ1 g).bind λh d=>.ok (y::h) d else aX e c f xs σ1 a
def aV(k:Nat) (is:List Nat) (a:DS):DS:=List.replicate k none++is.map λi=>(a[i]?).getD none
def aI(g:SA) (k:Nat) (is:List Nat) (i:SG) (c:ST) (f:SE):SE:=λd j=>(g d j).bind λe b=>if e.length<=sizeLine then(aX i c f e (aV k is d) b).bind λh a=>.ok (.lst h) a else .stuck
def aK:ST:=λ_ a=>.ok true a
theorem cm.start{K:Fg}(h:cm K ρ H σ τ)(k:Nat)(is:List Nat):cm K ρ H (aV k is σ) (fI k is τ):=by
 have f:∀{a c:DS}{b d:St},cm K ρ H a b->cm K ρ H c d->cm K ρ H (a++c) (b++d):=λj g=>by
  induction j with
  |nil=>exact g
  |cons r t ih=>exact .cons r ih
 refine f ?_ ?_
 ·induction k with
  |zero=>exact .nil
  |succ k ih=>exact .cons (λd e=>nomatch e) ih
 ·induction is with
  |nil=>exact .nil
  |cons i is ih=>
   refine .cons (λd e=>?_) ih;have e:(σ[i]?).getD none=some d:=e;have m:σ[i]?=some (some d):=by
    cases q:σ[i]? with
    |none=>rw[q] at e;cases e
    |some o=>rw[q] at e;exact congrArg some e
   obtain⟨u,l,a⟩:=h.get m;exact⟨u,by show(τ[i]?).getD none=some u;rw[l];rfl,a⟩
def Loc.with(a:Loc) (p:Addr):Loc:=⟨a.m,p::a.g⟩
theorem HF(a:H p=none):Mv ρ H (ρ.with p) (aD H p o):=⟨λe n=>⟨by rw[ca (zx e a)];exact e,n.1,λz=>by
 rcases ce.mp z with z|z
 ·exact zx e a z
 ·exact n.2 z⟩,bi _,λ_ _ _ e=>e⟩
theorem At.with{K:Fg}(a:H p=none) (h:At K ρ H d v):At K (ρ.with p) (aD H p o) d v:=h.mv (HF a)
theorem vL{c b:Loc}(d:b.m=c.m)(g:p∈c.g)(f:∀a,a∈b.g->a∈c.g):Mv c H b (aD H p o):=⟨λe n=>⟨by rw[ca (by rintro rfl;exact n.2 g)];exact e,by rw[d];exact n.1,λz=>n.2 (f _ z)⟩,by rw[d];exact bi _,λ_ _ _ e=>by rw[d] at e;exact e⟩
theorem At.grow{K:Fg}{ρ ρ':Loc}(c:ρ'.m=ρ.m)(e:p∈ρ.g)(b:∀a,a∈ρ'.g->a∈ρ.g) (h:At K ρ H d v):At K ρ' (aD H p o) d v:=h.mv (vL c e b)
theorem ah.grow{K:Fg}{ρ ρ':Loc}(c:ρ'.m=ρ.m)(e:p∈ρ.g)(b:∀a,a∈ρ'.g->a∈ρ.g) (h:ah K ρ H d v):ah K ρ' (aD H p o) d v:=h.mv (vL c e b)
theorem kJ.map{K:Fg}(k:∀d v,At K ρ H d v->At K ρ' H' d v)(g:∀b f u,H b=some (.frz f u)->H' b=some (.frz f u))(same:H' a=H a)(h:kJ K ρ H x a):kJ K ρ' H' x a:=by
 have j:∀{d:List D}{v:List V},ah K ρ H d v->ah K ρ' H' d v:=λ{d v} h=>by
  induction d generalizing v with
  |nil=>cases h;exact .nil
  |cons x xs ih=>cases h with|cons a b=>exact .cons (k _ _ a) (ih b)
 cases x with
 |lst xs=>obtain⟨e,q,r⟩:=h;exact⟨e,by rw[same];exact q,j r⟩
 |dT kvs=>obtain⟨e,q,r⟩:=h;exact⟨e,by rw[same];exact q,Paired.mapP r λp q z=>⟨z.1,k _ _ z.2⟩⟩
 |fT kvs=>obtain⟨e,f,q,r⟩:=h;exact⟨e,f,by rw[same];exact q,Paired.mapP r λp q z=>⟨z.1,k _ _ z.2⟩⟩
 |dI kvs=>obtain⟨e,q,r⟩:=h;exact⟨e,by rw[same];exact q,Paired.mapP r λp q z=>⟨z.1,k _ _ z.2⟩⟩
 |dP ks=>obtain⟨e,q,n,l,u,r⟩:=h;exact⟨e,by rw[same];exact q,n,l,u,r.map k⟩
 |dead=>exact h.elim
 |tab=>obtain⟨c,i,q,r⟩:=h;exact⟨c,i,by rw[same];exact q,r.map g⟩
theorem bv.with{K:Fg}(r:bv K ρ au H)(c:H p=none)(f:List V):bv K (ρ.with p) au (aD H p (.lst f)):=
 ⟨r.len,r.inj,λm b y j n=>by
  have q:=r.obj m b y j n;obtain⟨u,k⟩:=q.has;exact q.map (λd v h=>h.with c) (λb o u e=>by rw[ca (zx e c)];exact e) (ca (zx k c)),λa ha=>by
  rcases ce.mp ha with rfl|ha
  ·exact⟨⟨f,fh⟩,(tZ r c).1⟩
  ·obtain⟨⟨l,g⟩,i⟩:=r.gh a ha
   exact⟨⟨l,by rw[ca (zx g c)];exact g⟩,i⟩,r.live⟩
theorem bv.grow{K:Fg}{ρ':Loc}(r:bv K ρ au H)(c:ρ'.m=ρ.m)(g:p∈ρ.g)(j:∀a,a∈ρ'.g->a∈ρ.g)(i:List V):bv K ρ' au (aD H p (.lst i)):=
 ⟨by rw[c];exact r.len,by rw[c];exact r.inj,λm b y f q=>by
  rw[c] at f;refine(r.obj m b y f q).map (λd v h=>h.grow c g j) (λb s u e=>by rw[ca (by rintro rfl;obtain⟨⟨_,z⟩,_⟩:=r.gh _ g;rw[e] at z;cases z)];exact e) (ca ?_);rintro rfl;exact(r.gh b g).2 (fj f),λa k=>by
  obtain⟨⟨o,n⟩,l⟩:=r.gh a (j a k);refine⟨?_,by rw[c];exact l⟩;by_cases e:a=p
  ·subst e;exact⟨i,fh⟩
  ·exact⟨o,by rw[ca e];exact n⟩,by rw[c];exact r.live⟩
theorem cm.map{K:Fg}(k:∀d v,At K ρ H d v->At K ρ' H' d v)(h:cm K ρ H σ τ):cm K ρ' H' σ τ:=Paired.mapP h λo v z d e=>by
 obtain⟨u,b,a⟩:=z d e;exact⟨u,b,k _ _ a⟩
inductive CI (K:Fg) (bd:SG) (c:ST) (f:SE) (xs ys:List D) (st2:aa) (ρ1:Loc) (H1:Hp) (p:Addr) (i:Nat) (τ:St) (H':Hp):Prop where
 |mk {ρ2:Loc}{σ2:DS}{st3:aa}{acc:List D}{accV:List V}{zs:List D}(x2:eG ρ1 H1 ρ2 H') (hg:ρ2.g=p::ρ1.g) (hpp:H' p=some (.lst accV)) (hal:ah K ρ2 H' acc accV) (hli:acc.length<=i) (a2:cm K ρ2 H' σ2 τ) (rp2:bv K ρ2 st3 H') (e3:aX bd c f (xs.drop i) σ2 st3=.ok zs st2) (hac:acc++zs=ys):CI K bd c f xs ys st2 ρ1 H1 p i τ H'
theorem uF{k:Nat}{is:List Nat}{K:Fg}(a:cm K ρ H σ τ)(rp:bv K ρ au H)(e1:it σ au=.ok xs st1)(a8:xs.length<=sizeLine)(e2:aX bd c f xs (aV k is σ) st1=.ok ys st2)
 (b9:∀g H1 p l t j,bj ρ H g H1->bv K g st1 H1->H1 p=none->eG g H1 l t->l.g=p::g.g->t p=some (.lst j)->ah K l t ys j->bv K l st2 t->Q (.ref p) t):ig (iD K it) k is (gD K bd) (kz K c) (tD K f) τ H Q:=by
 refine⟨ρ,σ,au,xs,st1,a,rp,e1,λg H1 J x1 a1 ok p R=>?_⟩
 refine⟨λi m b2 t=>i+m=xs.length/\CI K bd c f xs ys st2 g H1 p i b2 t,
  ⟨xs.length,by lia,.mk ?_ rfl fh .nil (eJ _) (((a.ext x1).start k is).map λd v h=>h.with R) (a1.with R []) e2 rfl⟩,?_⟩
 ·have E:bj g H1 g (aD H1 p (.lst [])):=bj.new R _
  exact⟨E.len,E.old,E.keep,λa h=>by
   rcases ce.mp h with rfl|h
   ·exact .inr R
   ·exact .inl h,E.frz⟩
 rintro i m b2 t ⟨c3,@⟨l,a5,b7,b0,j,zs,x2,hg,Y,T,U,a2,X,q,r⟩⟩;have b4:p∈l.g:=by rw[hg];exact f6
 rcases gU i xs.length with a9|hge
 ·obtain⟨x,hx,hd⟩:=vE a9;rw[hd] at q;obtain⟨go,yl⟩:=ok.item l t x2 i x hx
  refine .inr ⟨go,CI K bd c f xs ys st2 g H1 p (i+1),
   λb8 H4 hh=>⟨m-1,by lia,by lia,hh⟩,λy H3 hy=>?_⟩
  obtain⟨y1,y4⟩:=yl y H3 hy;obtain⟨y2,y3⟩:=y4 _ X;unfold aX at q;cases hbd:bd x a5 with
  |none=>rw[hbd] at q;cases q
  |some σ1=>
   rw[hbd] at q;dsimp only at q;obtain⟨bb,a3,e4,e5⟩:=zd q;refine⟨l,a5,x,σ1,a2.ext y1,y3,hbd,λb8 a4=>?_⟩;have S:some p∉l.m:=(X.gh p b4).2;have C:=(y1.keep p _ Y S).1;refine⟨l,σ1,b7,bb,a3,a4,y2,e4,λI H5 s a7=>?_⟩;have A:=(s.keep p _ C S).1;have z:=(T.ext y1).ext s;have g5:I.g=p::g.g:=s.gho.trans hg;cases bb with
   |false=>
    rw[if_neg '"'] at e5;exact jb (.mk ((x2.then y1).then s) g5 A z (qW U) (a4.ext s) a7 e5 r)
   |true=>
    rw[if_pos rfl] at e5;obtain⟨w,b5,e6,e7⟩:=zd e5;obtain⟨c2,c1,e8,e9⟩:=zd e7;cases e9;refine ja ⟨I,σ1,a3,w,b5,a4.ext s,a7,e6,λa0 H6 u x6 b6 a6=>?_⟩;have b1:some p∉I.m:=(s.keep p _ C S).2;have b3:=(x6.keep p _ A b1).1;have g6:a0.g=p::g.g:=x6.gho.trans g5;have P:p∈a0.g:=by rw[g6];exact f6
    have c0:j.length<=i:=by rw[T.length];exact U
    refine⟨j,b3,jw c0 (cD a9 a8),.mk (acc:=b0++[w]) (accV:=j++[u]) ?_ g6 fh ?_ (by rw[cq];exact oh U) ?_ (b6.grow rfl P (λ_ h=>h) _) e8 (by rw[←r,eu];rfl)⟩
    ·have G:=((x2.then y1).then s).then x6;refine⟨G.len,G.old,λb o e n=>?_,G.gho,λb ob uu e=>?_⟩
     ·rw[ca (zx e R)];exact G.keep b o e n
     ·rw[ca (zx e R)];exact G.frz b ob uu e
    ·exact((z.ext x6).append (.cons a6 .nil)).grow rfl P (λ_ h=>h)
    ·exact(a4.ext (s.trans x6)).map λd v h=>h.grow rfl P (λ_ h=>h)
 ·rw[Ai hge] at q;unfold aX at q;cases q;rw[fE] at r;subst r;exact .inl ⟨ok.done _ _ x2 i hge,b9 _ _ _ _ _ _ x1 a1 R x2 hg Y T X⟩
theorem qz{K:Fg}:∀w H Q,tD K (aI it k is bd c f) w H Q->ig (iD K it) k is (gD K bd) (kz K c) (tD K f) w H Q:=λw H Q u=>by
 obtain⟨T,σ,au,v,I,a,J,e,q⟩:=u;obtain⟨xs,G,Y,e⟩:=zd e;split at e
 ·rename_i m;obtain⟨ys,X,e2,e⟩:=zd e;cases e;refine uF a J Y m e2 λh H1 p d H' i S t U s A l y n=>?_
  have j:p∈d.g:=by rw[A];exact f6
  have x:some p∉d.m:=(n.gh p j).2;have r:aD H' p (.lst i)=H':=Jp l;have sub:∀a,a∈(⟨d.m,h.g⟩:Loc).g->a∈d.g:=λb P=>by rw[A];exact gZ _ P
  have E:bj h H1 ⟨d.m,h.g⟩ H':=⟨s.len,s.old,s.keep,rfl,s.frz⟩
  have R:=n.grow (ρ':=⟨d.m,h.g⟩) rfl j sub i;have L:=ah.grow (ρ:=d) (ρ':=⟨d.m,h.g⟩) (o:=.lst i) rfl j sub y;rw[r] at R L;refine q _ _ _ (S.trans E) R (.lst l ⟨x,λz=>?_⟩ L);obtain⟨⟨ws,C⟩,_⟩:=t.gh p z;rw[U] at C;cases C
 ·cases e
theorem El{X:Cx}{N:List Str}(a:X.calm=true)(h:DI X tg iter it)(j:∀b C d s H,DG (dB X N scope b C d s H) tg bd)(g:∀b C d s H,mo (dB X N scope b C d s H) ifs (kz X.K c))(i:∀b C d s H,DE (dB X N scope b C d s H) elt f)
 (S:bh X N k is scope)(e:∀x,foldedSetIterable iter X.env x=pure x:=by intro _;rfl):DE X (.ListComp elt [⟨tg,iter,ifs,0⟩] scope pos) (aI it k is bd c f):=eI (vW a h j g i S e) qz
theorem Gw{X:Cx}{N:List Str}{b:Pos}(d:X.calm=true)(I:X.N.Nodup)(l:X.N[i]?=some x)(J:L2.Loc X.env.scope x)(z:DI X tg iter it)(P:∀g C j s H,DG (dB X N scope g C j s H) tg bd)
  (n:∀g C j s H,mo (dB X N scope g C j s H) ifs (kz X.K c))(G:∀g C j s H,DE (dB X N scope g C j s H) elt f)(S:bh X N k is scope)
  (m:swapsWith (.ListComp elt [⟨tg,iter,ifs,0⟩] scope pos) (some (.Name x pos')) b.line X.env=pure true:=by rfl)
  (U:X.fn x=true\/X.env.scope.names.lookup x=some .local:=by first|exact .inl rfl|exact .inr rfl|assumption)
  (T:∀x,foldedSetIterable iter X.env x=pure x:=by intro _;rfl):jQ X (.Assign [.Name x pos'] (.ListComp elt [⟨tg,iter,ifs,0⟩] scope pos) b) (aH i (aI it k is bd c f)):=
 jo (vY d I l J z P n G S m U T) λE w H h=>by
  obtain⟨R,Q,au,fl,y,a,A,e,q⟩:=h;obtain⟨v,o,Y,e⟩:=zd e;cases e;exact qz w H _ ⟨R,Q,au,v,_,a,A,Y,λp H' u x r t=>q _ _ _ x r ((a.ext x).set t i)⟩
theorem Gn:mo X [] (kz X.K aK):=λg s c H Q I b=>by
 obtain⟨i,h,j,v,d,a,f,e,q⟩:=b;cases e;exact Hg g s c H Q I (q _ _ (.refl _ _) f)
theorem Go(h:DT X c t):mo X [c] (kz X.K t):=Hh h
end Dd
namespace Dd
open L2 PyProof.Rows
def Ar(K:Fg) (h:Nat) (F:cg):Sp:=λf H Q _=>∃d e g v b,ah K d H e f/\bv K d g H/\F e g=.ok v b/\f.length=h/\∀a c u,bj d H a c->bv K a b c->At K a c v u->Q u c
def aj(P:Program) (w:World) (K:Fg) (b:Str->Option Value) (base:Heap) (x:Str) (k:Nat) (a:List Str) (F:cg):Prop:=Callee P w K b base x k a (Ar K a.length F)
def bV(n b:Nat) (a:SS):cg:=λc d=>if c.length=b then(match a (c.map some++List.replicate (n-b) none) d with
 |.ok (.ret v) st'=>.ok v st'
 |.ok (.nx _) st'=>.ok .non st'
 |.exc x st'=>.exc x st'
 |_=>.stuck) else .stuck
section
variable {x:Str}{F:cg}{e:Expr}
theorem Ej{K:Fg}{j:Nat}{f:SA}(o:∀m l v b,F m l=.ok v b->m.length=j):∀i H Q,tD K (aG F f) i H Q->lQ (Ar K j F) [] E0 (L5 K f) i H Q:=λi H Q h=>by
 obtain⟨t,s,l,v,b,a,p,e,q⟩:=h;obtain⟨x,c,A,e⟩:=zd e;refine⟨t,s,l,x,c,a,p,A,λk H1 u r d n=>?_⟩;show Ar K j F (u++[]) H1 Q E0;rw[fE];exact⟨k,x,c,v,b,n,d,e,by rw[n.length];exact o _ _ _ _ e,λg z w y=>q g z w (r.trans y)⟩
end
theorem Ek{X:Cx}(c:aj X.prog X.w X.K X.mg X.base x k ps F)(m:∀ f j v b,F f j=.ok v b->f.length=ps.length)(n:bP k X.A)(l:Gl X x)(h:DA X (e::es) g)(d:(x==("__debug__" : Str))=false:=by decide)
 (i:starEach (e::es) X.env=(false,eval e X.env)::starEach es X.env:=by rfl)(a:(backTo pos (starEach es X.env)).any (·.1)=false:=by rfl):
 DE X (.Call (.Name x p) (e::es) [] pos) (aG F g):=eI (IR c n l h d i a) (Ej m)
theorem zj{n np:Nat}{b:SS}{c:List D}{d a:aa}{v:D}(h:bV n np b c d=.ok v a):c.length=np:=by
 unfold bV at h;split at h
 ·assumption
 ·cases h
theorem ah.some{K:Fg}{c:Loc}{H:Hp}:∀{g:List D}{f:List V},ah K c H g f->cm K c H (g.map Option.some) (f.map Option.some)
 |_,_,.nil=>.nil
 |_,_,.cons a b=>.cons (λd e=>by cases e;exact⟨_,rfl,a⟩) (ah.some b)
theorem cm.append{K:Fg}{e:Loc}{H:Hp}:∀{a c:DS}{b d:L2.St},cm K e H a b->cm K e H c d->cm K e H (a++c) (b++d)
 |_,_,_,_,.nil,h=>h
 |_,_,_,_,.cons r t,h=>.cons r (cm.append t h)
theorem cm.nones{K:Fg}{a:Loc}{H:Hp}:∀n,cm K a H (List.replicate n none) (List.replicate n none)
 |0=>.nil
 |n+1=>.cons (λd e=>nomatch e) (cm.nones n)
theorem uB{K:Fg}{N:List Str}{np:Nat}{b:SS}{i:List V}{H:Hp}{Q:VK}{E:XK}(h:Ar K np (bV N.length np b) i H Q E):sX K b {nx:=λ_ f=>Q .non f,rt:=Q} (L2.start N i) H:=by
 obtain⟨j,g,l,v,d,a,m,e,n,q⟩:=h;have o:g.length=np:=by rw[←a.length];exact n
 unfold bV at e;rw[if_pos o] at e;have k:cm K j H (g.map Option.some++List.replicate (N.length-np) none) (L2.start N i):=by
  unfold L2.start;rw[n];exact a.some.append (.nones _)
 refine⟨j,g.map Option.some++List.replicate (N.length-np) none,l,?_⟩;cases hr:b (g.map Option.some++List.replicate (N.length-np) none) l with
 |stuck=>rw[hr] at e;cases e
 |exc z w=>rw[hr] at e;cases e
 |ok fl st1=>
  rw[hr] at e;cases fl with
  |ret w=>
   dsimp only at e;cases e;exact⟨.ret v,d,k,m,rfl,λc f u x r t=>q c f u x r t⟩
  |nx σ=>
   dsimp only at e;cases e;exact⟨.nx σ,d,k,m,rfl,λc f p x r t=>q c f .non x r .non⟩
  |brk σ=>cases e
  |ct σ=>cases e
theorem F3{P:Program}{w:World}{K:Fg}{l:Str->Option Value}{base h:Heap}{x:Str}{g:Stmt}{N j:List Str}{k:Nat}{b:SS}(T:ap K x g)(X:K.In h)(G:h.Ns mainGlobals l)(S:ak N j (af g))
  (t:∀(kV m C:Value) (u:Option Addr) (d I:Value) (o:List Value),o.length=j.length->bindArgs (W.fnOf x x (cf g) (bt g) (af g) .none kV m C u d I) ⟨o,[]⟩=pure (j.zip o))
  (i:∀(f:Addr) (d:Value) (A:Around) (c:List Env) (s:Shared) (H:Hp) (E:XK),bP k (A.deeper (envOfC x (af g) s.heap.objs.size f d)) ->
   mx (dW ke P w K l base N x (af g) f d A c s H E).nox (bt g) b):aj P w K l base x (k+1) j (bV N.length j.length b):=
 JH T X G S t (λz H Q E n=>by obtain⟨U,J,g,v,r,a,R,e,y,q⟩:=n;exact y) λf d A c s H z Q E p n=>⟨_,i f d A c s H E p,uB n⟩
def iZ(K:Fg):Sp:=λd H Q _=>∃(a:Addr) (b:List Int),d=[.ref a]/\cp K H a (b.map V.int)/\b.length<=63/\∀c,Q (.bl true) c
theorem Fa{P:Program}{w:World}{K:Fg}{C:Str->Option Value}{base:Heap}{l:Stmt}{N v:List Str}{k:Nat}{b:SS}{f:Addr}{y:FuncData}(F:oW K "law" "law" l f y)(S:ak N v (af l))(I:v.length=1)
  (j:∀(d:Value) (A:Around) (c:List Env) (s:Shared) (H:Hp) (E:XK),bP k (A.deeper (envOfC "law" (af l) s.heap.objs.size f d)) ->
   mx (dW ke P w K C base N "law" (af l) f d A c s H E).nox (bt l) b)
  (holds:∀i:List Int,i.length<=63->∃g,bV N.length 1 b [.scr (i.map .int)] []=.ok (.bl true) g):fS P w K C base ke (k+1) f y v (iZ K):=by
 refine F.ok S (λG H Q E p=>?_) (λd A c s H G Q E U p=>⟨_,j d A c s H E U,?_⟩)
 ·obtain⟨a,i,rfl,_⟩:=p;exact I.symm
 ·obtain⟨a,i,rfl,J,T,q⟩:=p;obtain⟨g,e⟩:=holds i T;refine uB (np:=1) (E:=E) ⟨⟨[],[]⟩,[.scr (i.map .int)],[],_,g,.cons (.scr ?_ (yk i)) .nil,⟨rfl,λn m a e _=>by simp at e,λn a o e _=>by simp at e,λa h=>(by cases h),λn o e _=>by simp at e⟩,e,rfl,λR z u x r t=>?_⟩
  ·rcases J with h|h
   ·exact .inl ⟨h,by simp[cV]⟩
   ·exact .inr λz=>.inr h
  ·cases t;exact q z
end Dd
namespace Dd
open L2
def hD:D->aa->ar D:=λx a=>match x with
 |.int i=>.ok (.int (-i)) a
 |_=>.stuck
def mY(c:aa):D->Option Bool
 |.non=>some false
 |.bl b=>some b
 |.int i=>some (i != 0)
 |.tup a=>some !a.isEmpty
 |d=>(dY c d).map λa=>!a.isEmpty
def cn(f:SE):ST:=λc d=>(f c d).bind λv a=>match mY a v with
 |some b=>.ok b a
 |none=>.stuck
theorem N8{K:Fg}(h:ah K ρ H ds vs):ds.isEmpty=vs.isEmpty:=by
 cases h<;>rfl
theorem FS{K:Fg}(h:bv K ρ au H) (a:At K ρ H d u)(e:mY au d=some b):rK K u H b:=by
 unfold mY at e;split at e
 ·cases a;cases e;exact rfl
 ·cases a;cases e;exact rfl
 ·cases a;cases e;exact rfl
 ·cases e;cases a with
  |tup c f h3=>exact .inr (.inl ⟨_,bD.of c,by rw[N8 h3]⟩)
 ·obtain⟨j,g,rfl⟩:=fH.mp e;obtain⟨p,i,rfl,c,f⟩:=mC h a g;exact .inl ⟨_,cp.of c,by rw[N8 f]⟩
theorem Dp(h:DE X a f):DE X (.UnaryOp .USub a pos) (mZ hD f):=eI (DX FV h) λs H Q d=>by
 obtain⟨k,i,m,v,j,g,n,e,q⟩:=d;obtain⟨x,b,p,e⟩:=zd e;refine⟨k,i,m,x,b,g,n,p,λo H1 u l c r=>?_⟩;cases x<;>try (cases e;done)
 cases e;cases r;exact⟨_,rfl,q _ _ _ l c (.int _)⟩
theorem Io(n:cB X (compareOp op) r)(e:cB X (compareOp op') r')(m:fY X.K g r)(d:fY X.K g' r')(i:DE X a f)(l:DE X b f')(k:DE X c f'')
 (j:lastMarks [op,op'] [b,c]=false:=by with_unfolding_all rfl):DT X (.Compare a [op,op'] [b,c] pos) (eB (dA g g' f f' f'')):=lu (Ja n e i l k j) λo H Q h=>F5 m d _ _ _ (xC _ _ _ h)
theorem EH(h:DE X a f)(s:∀b,isTrue a X.env b=(do let v ←b;standAt a.pos;holding [v] (truthy v)):=by intro _;rfl):DT X a (cn f):=lu (Nj h s) λz H Q i=>by
 obtain⟨l,j,n,v,k,d,o,e,q⟩:=i;obtain⟨x,g,w,e⟩:=zd e;refine⟨l,j,n,x,g,d,o,w,λt H1 u m c r=>?_⟩;split at e
 ·rename_i y p;cases e;exact⟨_,FS c r p,q _ _ m c⟩
 ·cases e
end Dd
namespace Dd
open Spec PyProof.Rows L2
end Dd
namespace Dd
open L2
def oN:List D->aa->ar D:=λb a=>match b with
 |[.int i]=>.ok (.int i) a
 |[.bl k]=>.ok (.int (if k then 1 else 0)) a
 |_=>.stuck
theorem Ef{K:Fg}:iL K oN (λb H Q=>(∃i,b=[.int i]/\Q (.int i) H)\/∃k,b=[.bl k]/\Q (.int (if k then 1 else 0)) H):=λh H j b g z f Q c d e q=>by
 unfold oN at e;split at e
 ·cases e;obtain⟨u,rfl,a⟩:=d.one;cases a;exact .inl ⟨_,rfl,q _ _ _ (.refl _ _) c (.int _)⟩
 ·cases e;obtain⟨u,rfl,a⟩:=d.one;cases a;exact .inr ⟨_,rfl,q _ _ _ (.refl _ _) c (.int _)⟩
 ·cases e
theorem Jv{b:Loc}(d:p∈b.g)(c:∀a,a∈g'->a∈b.g)(n:cV b a):cV ⟨b.m++[some p],g'⟩ a:=
 ⟨λz=>by
  rcases cM.mp z with z|z
  ·exact n.1 z
  ·simp at z;subst z
   exact n.2 d,λz=>n.2 (c _ z)⟩
theorem MS{b:Loc}(f:p∈b.g)(d:∀a,a∈g'->a∈b.g):Mv b H ⟨b.m++[some p],g'⟩ H:=⟨λe n=>⟨e,Jv f d n⟩,by
 show b.m.length<=(b.m++[some p]).length;rw[cq];exact eK _ _,λn a h q=>by
 have c:(b.m++[some p])[n]?=some (some a):=q;rw[f7 h] at c
 exact c⟩
theorem At.adopt{K:Fg}{b:Loc}(e:p∈b.g)(c:∀a,a∈g'->a∈b.g) (h:At K b H d v):At K ⟨b.m++[some p],g'⟩ H d v:=h.mv (MS e c)
theorem ah.adopt{K:Fg}{b:Loc}(e:p∈b.g)(c:∀a,a∈g'->a∈b.g) (h:ah K b H d v):ah K ⟨b.m++[Option.some p],g'⟩ H d v:=h.mv (MS e c)
theorem bv.adopt{K:Fg}(r:bv K ρ au H)(u:p∈ρ.g)(n:∀a,a∈g'->a∈ρ.g)(G:p∉g')(A:H p=some (.lst vs))(E:ah K ρ H xs vs):
  bv K ⟨ρ.m++[some p],g'⟩ (au++[.lst xs]) H:=by
 have s:some p∉ρ.m:=(r.gh p u).2;have w:∀(m:Nat),ρ.m[m]?≠some (some p):=λm e=>s (fj e)
 have l:∀(m:Nat) (b:Addr),(ρ.m++[some p])[m]?=some (some b)->(m < ρ.m.length/\ρ.m[m]?=some (some b))\/(m=ρ.m.length/\b=p):=λm b e=>by
  rcases gU m ρ.m.length with z|z
  ·rw[f7 z] at e;exact .inl ⟨z,e⟩
  ·rw[iE z] at e;have o:m-ρ.m.length=0:=by
    have:=(du.mp e).1;simp at this;lia
   rw[o] at e;simp at e;exact .inr ⟨by lia,e.symm⟩
 refine⟨by simp[r.len],λm k b t c=>?_,λm b y t c=>?_,λb j=>?_,λm y e x=>?_⟩
 ·rcases l m b t with⟨f,i⟩|⟨f,rfl⟩
  ·rcases l k b c with⟨g,q⟩|⟨g,rfl⟩
   ·exact r.inj m k b i q
   ·exact absurd i (w m)
  ·rcases l k b c with⟨g,q⟩|⟨g,_⟩
   ·exact absurd q (w k)
   ·lia
 ·rcases l m b t with⟨f,i⟩|⟨f,rfl⟩
  ·rw[f7 (by rw[←r.len];exact f)] at c;exact(r.obj m b y i c).map (λd v h=>h.adopt u n) (λ_ _ _ e=>e) rfl
  ·rw[f,r.len,iE (bi _)] at c;simp at c;subst c;exact⟨vs,A,E.adopt u n⟩
 ·obtain⟨f,g⟩:=r.gh b (n b j);refine⟨f,λz=>?_⟩;rcases cM.mp z with z|z
  ·exact g z
  ·simp at z;subst z;exact G j
 ·rcases gU m au.length with z|z
  ·rw[f7 z] at e;obtain⟨b,j⟩:=r.live m y e x;exact⟨b,by show(ρ.m++[some p])[m]?=_;rw[f7 (by rw[r.len];exact z)];exact j⟩
  ·have o:=(du.mp e).1;simp at o;have C:m=ρ.m.length:=by rw[r.len];lia
   exact⟨p,by show(ρ.m++[some p])[m]?=_;rw[C,iE (bi _)];simp⟩
def dU(g:SA) (k:Nat) (is:List Nat) (i:SG) (c:ST) (f:SE):SE:=λd j=>(g d j).bind λe b=>if e.length<=sizeLine then(aX i c f e (aV k is d) b).bind λh a=>.ok (.ref a.length) (a++[.lst h]) else .stuck
theorem F9{K:Fg}:∀x H Q,tD K (dU it k is bd c f) x H Q->ig (iD K it) k is (gD K bd) (kz K c) (tD K f) x H Q:=λx H Q w=>by
 obtain⟨Y,σ,au,v,S,a,T,e,q⟩:=w;obtain⟨xs,P,e1,e⟩:=zd e;split at e
 ·rename_i r;obtain⟨ys,a1,e2,e⟩:=zd e;cases e;refine uF a T e1 r e2 λg H1 p d H' J X u G j C s y i=>?_
  have l:p∈d.g:=by rw[C];exact f6
  have a0:some p∉d.m:=(i.gh p l).2;have sub:∀a,a∈g.g->a∈d.g:=λb U=>by rw[C];exact gZ _ U
  have t:p∉g.g:=λz=>by
   obtain⟨⟨ws,I⟩,_⟩:=u.gh p z;rw[G] at I;cases I
  have R:=i.adopt l sub t s y
  have E:bj g H1 ⟨d.m++[some p],g.g⟩ H':=⟨by
    show g.m.length<=(d.m++[some p]).length;rw[cq];exact aT j.len (eK _ _),λn b h e=>by
    have A:(d.m++[some p])[n]?=some (some b):=e;rw[f7 (cD h j.len)] at A
    exact j.old n b h A,λb o e m=>⟨(j.keep b o e m).1,λz=>by
    rcases cM.mp z with z|z
    ·exact(j.keep b o e m).2 z
    ·simp at z;subst z
     rw[G] at e;cases e⟩,rfl,j.frz⟩
  exact q _ _ _ (X.trans E) R (.last (ρ:=⟨d.m,g.g⟩) i.len.symm)
 ·cases e
theorem Ik{X:Cx}{N:List Str}{b:Pos}(d:X.calm=true)(I:X.N.Nodup)(l:X.N[i]?=some x)(J:L2.Loc X.env.scope x)(z:DI X tg iter it)(P:∀g C j s H,DG (dB X N scope g C j s H) tg bd)
  (n:∀g C j s H,mo (dB X N scope g C j s H) ifs (kz X.K c))(G:∀g C j s H,DE (dB X N scope g C j s H) elt f)(S:bh X N k is scope)
  (m:swapsWith (.ListComp elt [⟨tg,iter,ifs,0⟩] scope pos) (some (.Name x pos')) b.line X.env=pure true:=by rfl)
  (U:X.fn x=true\/X.env.scope.names.lookup x=some .local:=by first|exact .inl rfl|exact .inr rfl|assumption)
  (T:∀x,foldedSetIterable iter X.env x=pure x:=by intro _;rfl):jQ X (.Assign [.Name x pos'] (.ListComp elt [⟨tg,iter,ifs,0⟩] scope pos) b) (aH i (dU it k is bd c f)):=
 jo (vY d I l J z P n G S m U T) λE w H h=>by
  obtain⟨R,Q,au,fl,y,a,A,e,q⟩:=h;obtain⟨v,o,Y,e⟩:=zd e;cases e;exact F9 w H _ ⟨R,Q,au,v,_,a,A,Y,λp H' u x r t=>q _ _ _ x r ((a.ext x).set t i)⟩
noncomputable def jK:Expr->Bool
 |.Starred _ _=>false
 |_=>true
theorem Qn(h:jK e=true):starEach (e::es) env=(false,eval e env)::starEach es env:=by
 cases e<;>first|rfl|cases h
theorem Ib(b:DE X e f)(c:DA X es g)(a:jK e=true:=by rfl):DA X (e::es) (aB f g):=Gg b c (Qn a)
def ji(c:Bool):List D->aa->ar D:=λb a=>match b with
 |[x]=>match (bI a x).bind bF with
  |some (n::ns)=>.ok (.int (cS c n ns)) a
  |_=>.stuck
 |_=>.stuck
theorem FZ{K:Fg}:iL K (ji gt) (pM K gt):=λm H s r k z c Q b i e q=>by
 unfold ji at e;split at e
 ·split at e
  ·rename_i n j h;cases e;obtain⟨l,f,h⟩:=rc.mp h;obtain⟨u,rfl,a⟩:=i.one;obtain⟨p,o,rfl,g,d⟩:=tU b a f;have e:=qc d h;subst e;exact⟨p,n,j,rfl,g,q _ _ _ (.refl _ _) b (.int _)⟩
  ·cases e
 ·cases e
noncomputable def bx:List D->List D->List D
 |x::xs,y::ys=>.tup [x,y]::bx xs ys
 |_,_=>[]
def jc(g:SA):SA:=λd e=>(g d e).bind λf c=>match f with
 |[.tup a,.tup b]=>.ok (bx a b) c
 |_=>.stuck
theorem BU:∀{b a:List D}{i:Nat}{d:D},(bx b a)[i]?=some d->∃x y,b[i]?=some x/\a[i]?=some y/\d=.tup [x,y]
 |[],_,_,_,h=>by simp[bx] at h
 |_::_,[],_,_,h=>by simp[bx] at h
 |x::b,y::a,0,d,h=>by
  simp[bx] at h;exact⟨x,y,rfl,rfl,h.symm⟩
 |x::b,y::a,i+1,d,h=>by
  simp only[bx,LC] at h;obtain⟨f,c,g,e,j⟩:=BU h;exact⟨f,c,by simpa using g,by simpa using e,j⟩
theorem yP:∀{xs ys:List D},(bx xs ys).length=min xs.length ys.length
 |[],_=>by simp[bx]
 |_::_,[]=>by simp[bx]
 |_::xs,_::ys=>by simp[bx,yP (xs:=xs) (ys:=ys)]
theorem Ew(Q:Gl X "zip")(Y:X.mg "zip"=none)(ha:DA X [a,b] g)(U:starEach [a,b] X.env=[(false,eval a X.env),(false,eval b X.env)]:=by rfl)(w:starEach [b] X.env=[(false,eval b X.env)]:=by rfl):
  DI X (.Tuple elts k tpos) (.Call (.Name "zip" p) [a,b] [] pos) (jc g):=jC (FC Q Y ha U w) λτ H R o=>by
 obtain⟨T,S,z,xs,G,a,J,e,q⟩:=o;obtain⟨x,m,e1,e⟩:=zd e;refine⟨T,S,z,x,m,a,J,e1,λa0 H1 u P n C=>?_⟩;split at e
 ·rename_i as bs;cases e;obtain⟨u1,u2,rfl,b1,b2⟩:=C.two;cases b1 with
  |tup h1 h2 h3=>
   cases b2 with
   |tup k1 k2 k3=>
    refine⟨_,_,rfl,⟨_,bD.of h1⟩,⟨_,bD.of k1⟩,q _ _ _ P n ⟨λt H2 c i d e=>?_,λt H2 c i h=>?_⟩⟩
    ·obtain⟨x',y',I,ey,rfl⟩:=BU e;obtain⟨A,j,r⟩:=h3.get I;obtain⟨v2,f,s⟩:=k3.get ey;refine⟨⟨_,_,A,v2,bD.of (c.out h1 h2).1,bD.of (c.out k1 k2).1,j,f⟩,λy H3 E=>?_⟩;obtain⟨p,v,rfl,hH⟩:=E;rw[hH _ _ _ _ (bD.of (c.out h1 h2).1) (bD.of (c.out k1 k2).1) j f];exact⟨bj.new v _,λz l=>⟨l.new v _,At.newT l v (.cons (r.extG c) (.cons (s.extG c) .nil))⟩⟩
    ·rw[yP] at h;exact⟨_,_,bD.of (c.out h1 h2).1,bD.of (c.out k1 k2).1,by rw[h3.length,k3.length];lia⟩
 ·cases e
def pH(d:SG) (f:SE):SS:=λb c=>(f b c).bind λv a=>match d v b with
 |some σ1=>.ok (.nx σ1) a
 |none=>.stuck
end Dd
namespace Dd
open L2 PyProof.Rows
structure JE (X:Cx) (e:Expr) (f:SE):Prop where out:DE X e f
structure JT (X:Cx) (e:Expr) (f:ST):Prop where out:DT X e f
structure JW (X:Cx) (e:Expr) (f:ST):Prop where out:DW X e f
structure JA (X:Cx) (e:List Expr) (f:SA):Prop where out:DA X e f
structure JS (X:Cx) (s:Stmt) (f:SS):Prop where out:jQ X s f
structure JB (X:Cx) (s:List Stmt) (f:SS):Prop where out:mx X s f
structure JO (X:Cx) (e:Option Expr) (f:DS->aa->ar (Option Int)):Prop where out:DO X e f
structure JG (X:Cx) (e:Expr) (b:SG):Prop where out:DG X e b
structure Ax (X:Cx) (e:List Expr) (b:List D->DS->Option DS):Prop where out:xN X e b
structure JI (X:Cx) (tg iter:Expr) (f:SA):Prop where out:DI X tg iter f
structure tu (X:Cx) (ifs:List Expr) (c:ST):Prop where out:mo X ifs (kz X.K c)
theorem JW.pt(h:JW X e t):JT X e t:=⟨PW.pt h.out⟩
theorem zb(h:PE X e (lO i)):JE X e (aA i):=⟨Dw h⟩
theorem gn(h:PE X e (tC v))(k:∀a H,At X.K a H d v):JE X e (eC d):=⟨lh h k⟩
theorem zh{i j pos}:JE X (.Constant (.int i) j pos) (eC (.int i)):=⟨Dm⟩
theorem gR{b j pos}:JE X (.Constant (.bool b) j pos) (eC (.bl b)):=⟨MG⟩
theorem iN{j pos}:JE X (.Constant .none j pos) (eC .non):=⟨Dq⟩
theorem cG{x j pos}:JE X (.Constant (.str x) j pos) (eC (.str x)):=⟨Du⟩
theorem bB(c:cB X (binaryOp op) r)(h:fY X.K g r)(e:JE X a f)(d:JE X b f'):JE X (.BinOp a op b pos) (aU g f f'):=⟨MC c h e.out d.out⟩
theorem nc(h:cB X (compareOp op) r)(i:fY X.K g r)(c:JE X a f)(e:JE X b f')(d:behindInMarks op b=false):JE X (.Compare a [op] [b] pos) (aU g f f'):=⟨Dl h i c.out e.out d⟩
theorem zo(h:cB X (compareOp op) r)(i:fY X.K g r)(c:JE X a f)(e:JE X b f')(d:behindInMarks op b=false):JT X (.Compare a [op] [b] pos) (eB (aU g f f')):=⟨EF h i c.out e.out d⟩
theorem mF{op}(h:JE X a f):JE X (.BoolOp op [a] pos) f:=⟨Ds h.out⟩
section
variable {X:Cx}{a:Expr}{b:Expr}{rest:List Expr}{f:SE}{f':SE}{pos:Pos}
theorem mD(d:JE X a f)(c:JE X (.BoolOp .And (b::rest) pos) f'):JE X (.BoolOp .And (a::b::rest) pos) (fz f f'):=⟨Dk d.out c.out⟩
end
theorem Er(b:JE X a f):JE X (.UnaryOp .Not a pos) (mh f):=⟨Dr b.out⟩
theorem jq{op}(h:JT X a t)(b:op=.And\/op=.Or):JW X (.BoolOp op [a] pos) t:=⟨EJ h.out b⟩
section
variable {X:Cx}{a:Expr}{b:Expr}{rest:List Expr}{t:ST}{t':ST}{pos:Pos}
theorem tJ(d:JT X a t)(c:JW X (.BoolOp .And (b::rest) pos) t'):JW X (.BoolOp .And (a::b::rest) pos) (gE t t'):=⟨EI d.out c.out⟩
end
section
variable {X:Cx}{a:Expr}{b:Expr}{rest:List Expr}{t:ST}{t':ST}{pos:Pos}
theorem kM(d:JT X a t)(c:JW X (.BoolOp .Or (b::rest) pos) t'):JW X (.BoolOp .Or (a::b::rest) pos) (iQ t t'):=⟨DB d.out c.out⟩
end
theorem jS(b:JT X a t):JT X (.UnaryOp .Not a pos) (dC t):=⟨EG b.out⟩
theorem iM(e:JT X c t)(g:JE X a f)(d:JE X b f'):JE X (.IfExp c a b pos) (fO t f f'):=⟨ME e.out g.out d.out⟩
theorem zc:JA X [] aC:=⟨Et⟩
theorem kL{x1}(h:JA X es g):JE X (.Tuple es x1 pos) (aS g):=⟨Dv h.out⟩
theorem mE(h:JA X es g):JE X (.List es pos) (fy g):=⟨Do h.out⟩
theorem r0(h:JA X es g):JE X (.List es pos) (dR g):=⟨Ep h.out⟩
theorem js:JO X none bq:=⟨Gq⟩
theorem gJ(a:JE X e f):JO X (some e) (ay f):=⟨Gr a.out⟩
theorem gH(e:JE X a f)(d:JE X b f')(c:gm b):JE X (.Subscript a b pos) (aU cx f f'):=⟨MD e.out d.out c⟩
section
variable {X:Cx}{e:Expr}{f:SE}{pos:Pos}{lo:Option Expr}{hi:Option Expr}{l:DS->aa->ar (Option Int)}{h:DS->aa->ar (Option Int)}
theorem iU{d:Pos}(b:JE X e f)(c:JO X lo l)(a:JO X hi h):JE X (.Subscript e (.Slice lo hi none d) pos) (j7 f l h):=⟨MB b.out c.out a.out⟩
end
theorem zn{x:Str}{id:String}(h:bu X (.builtin id) r)(m:iL X.K g r)(k:Gl X x)(d:X.mg x=none)(i:bootBuiltins x=some (.builtin id))(c:JA X (e::es) f)(l:x≠"__name__":=by decide)(b:(x==("__debug__" : Str))=false:=by decide)(j:starEach (e::es) X.env=(false,eval e X.env)::starEach es X.env:=by rfl)(a:(backTo pos (starEach es X.env)).any (·.1)=false:=by rfl):JE X (.Call (.Name x p) (e::es) [] pos) (aG g f):=⟨Ga h m k d i c.out l b j a⟩
theorem iT{T:String}(h:bu X (.type T) r)(m:iL X.K g r)(k:Gl X x)(d:X.mg x=none)(i:bootBuiltins x=some (.type T))(c:JA X (e::es) f)(l:x≠"__name__":=by decide)(b:(x==("__debug__" : Str))=false:=by decide)(j:starEach (e::es) X.env=(false,eval e X.env)::starEach es X.env:=by rfl)(a:(backTo pos (starEach es X.env)).any (·.1)=false:=by rfl):JE X (.Call (.Name x p) (e::es) [] pos) (aG g f):=⟨HZ h m k d i c.out l b j a⟩
theorem Gd:JE X (.Dict [] [] pos) jg:=⟨En⟩
theorem Gc{X:Cx}(d:X.A.units+1<cLine)(b:JE X o f)(c:JE X i g)(a:oR i):JE X (.Subscript o i pos) (aU fw f g):=⟨Em d b.out c.out a⟩
theorem Ia{X:Cx}(c:X.A.units + 1<cLine)(a:JE X o f)(b:JE X e g)(d:JE X f' h)(m:M2 X o "get" apos e f' cpos):JE X (.Call (.Attribute o "get" apos) [e,f'] [] cpos) (gz f g h):=⟨Gb c a.out b.out d.out m⟩
theorem Ij{X:Cx}{a:Pos}(e:X.A.units+1<cLine)(j:JE X o f)(d:JE X i g)(c:JE X value h)(b:swapsWith value (some (.Subscript o i pos')) a.line X.env=pure false):JS X (.Assign [.Subscript o i pos'] value a) (gu f g h):=⟨Gu e j.out d.out c.out b⟩
theorem qd{b:Pos}(j:JE X o f)(h:JA X (e::es) ga)(c:attributeBase o "append" X.env (eval o X.env)=eval o X.env:=by rfl)(g:((backTo cpos (starEach (e::es) X.env)).all (λx=>!x.1)&&(backToKw cpos (keywordEach [] X.env)).all (λx=>x.1.isSome)
 && decide ((e::es).length + ([]:List Keyword).length + (if([]:List Keyword).isEmpty then 0 else 1)<30))=true:=by rfl) (d:(b.endLine==cpos.line)=true:=by rfl) (i:starEach (e::es) X.env=(false,eval e X.env)::starEach es X.env:=by rfl) (a:(backTo cpos (starEach es X.env)).any (·.1)=false:=by rfl):JE X (.Call (.Attribute o "append" b) (e::es) [] cpos) (bW f ga):=⟨HY j.out h.out c g d i a⟩
theorem Es{b:Pos}{a:Pos}(e:JE X o f)(c:attributeBase o "pop" X.env (eval o X.env)=eval o X.env:=by rfl)(d:(b.endLine==a.line)=true:=by rfl):JE X (.Call (.Attribute o "pop" b) [] [] a) (oJ f):=⟨Dt e.out c d⟩
theorem ui(a:JE X o f):JE X o (sZ f):=⟨MF a.out⟩
theorem cW:JB X [] ck:=⟨EB⟩
theorem JY:JS X (.Break pos) lT:=⟨Ii⟩
theorem zk(a:JE X e f):JS X (.Return (some e) pos) (ao f):=⟨ED a.out⟩
theorem o5{a:Pos}(c:JE X e f)(b:swapsWith e none a.line X.env=pure false:=by rfl):JS X (.Expr e a) (cR f):=⟨Gv c.out b⟩
theorem zq{X:Cx}{a:Pos}(h:X.N.Nodup)(d:X.N[i]?=some x)(j:L2.Loc X.env.scope x)(g:JE X e f)(b:swapsWith e (some (.Name x pos')) a.line X.env=pure false:=by rfl)(c:X.fn x=true\/X.env.scope.names.lookup x=some .local:=by first|exact .inl rfl|exact .inr rfl|assumption):JS X (.Assign [.Name x pos'] e a) (aH i f):=⟨EE h d j g.out b c⟩
theorem zg(a:JS X sm s):JB X [sm] s:=⟨EC a.out⟩
section
variable {X:Cx}{sm:Stmt}{rest:List Stmt}{s:SS}{t:SS}
theorem ze(b:JS X sm s)(a:JB X rest t):JB X (sm::rest) (aF s t):=⟨Gs b.out a.out⟩
end
theorem dg(d:JT X c b)(e:JB X a' s)(a:JB X b' t):JS X (.If c a' b' pos) (bU b s t):=⟨Dy d.out e.out a.out⟩
theorem vF{X:Cx}(h:X.N.Nodup)(c:X.N[i]?=some x)(a:L2.Loc X.env.scope x)(d:JE X e f)(j:xI X op ti)(k:AA X.K g ti)(b:X.fn x=true\/X.env.scope.names.lookup x=some .local:=by first|exact .inl rfl|exact .inr rfl|assumption):JS X (.AugAssign (.Name x pos') op e pos) (jJ i g f):=⟨Ez h c a d.out j k b⟩
theorem tW{a:Pos}(k:JE X value h)(l:JE X o f)(e:JE X i g)(b:∀v,assign (.Subscript o i pos') X.env v=(do
 let ov ←holding [v] (eval o X.env)
 let iv ←holding [v,ov] (eval i X.env)
 standAt pos'
 holding [v,ov,iv] (setItem ov iv v)
 release [v,ov,iv] []):=by intro _;rfl) (c:swapsWithSole [.Subscript o i pos'] value a.line X.env=pure false:=by rfl) (d:swappedStores [.Subscript o i pos'] value X.env=pure none:=by rfl) (j:(assignEach [.Subscript o i pos'] X.env).map (·.2)=[assign (.Subscript o i pos') X.env]:=by rfl):JS X (.Assign [.Subscript o i pos'] value a) (da f g h):=⟨Il k.out l.out e.out b c d j⟩
theorem zt{X:Cx}(c:X.N.Nodup)(b:X.N[i]?=some x)(a:L2.Loc X.env.scope x)(d:X.fn x=true\/X.env.scope.names.lookup x=some .local:=by first|exact .inl rfl|exact .inr rfl|assumption):JG X (.Name x pos) (gN i):=⟨Gi c b a d⟩
theorem M3:Ax X [] im:=⟨Gj⟩
theorem yB(c:JG X e t)(b:Ax X es u)(a:(assignEach (e::es) X.env).map (·.2)=assign e X.env::(assignEach es X.env).map (·.2):=by rfl):Ax X (e::es) (dz t u):=⟨Ic c.out b.out a⟩
theorem vC{X:Cx}(b:X.calm=true)(h:Ax X es u)(c:(assignEach es X.env).length=n:=by rfl)(a:(assignEach es X.env).findIdx? (·.1)=none:=by rfl):JG X (.Tuple es k pos) (gT n u):=⟨Eu b h.out c a⟩
theorem gp(a:JE X l f):JI X tg l (aJ f):=⟨Ev a.out⟩
theorem lf(d:Gl X "range")(b:X.mg "range"=none)(e:JA X [a] g)(c:starEach [a] X.env=[(false,eval a X.env)]:=by rfl):JI X tg (.Call (.Name "range" p) [a] [] pos) (jd g):=⟨JU d b e.out c⟩
theorem P6(h:Gl X "range")(e:X.mg "range"=none)(d:JA X [a,b] g)(f:starEach [a,b] X.env=[(false,eval a X.env),(false,eval b X.env)]:=by rfl)(c:starEach [b] X.env=[(false,eval b X.env)]:=by rfl):JI X tg (.Call (.Name "range" p) [a,b] [] pos) (xx g):=⟨JV h e d.out f c⟩
theorem Ie(a:JE X l f):JI X tg l (ik f):=⟨Gk a.out⟩
theorem kg{X:Cx}(c:PassesOwn (model X.prog X.w) X.A X.env X.xe)(d:X.calm=true)(f:JI X tg iter it)(g:JG X tg bd)(e:JB X body b)(a:∀x,foldedSetIterable iter X.env x=pure x:=by intro _;rfl):JS X (.For tg iter body [] pos) (dj it bd b):=⟨EA c d f.out g.out e.out a⟩
theorem yC{X:Cx}(a:PassesOwn (model X.prog X.w) X.A X.env X.xe)(d:JT X c t)(e:JB X body b):JS X (.While c body [] pos) (cZ t b):=⟨Im a d.out e.out⟩
theorem gP{X:Cx}{N:List Str}(d:X.calm=true)(h:JI X tg iter it)(j:∀a C b s H,JG (dB X N scope a C b s H) tg bd)(g:∀a C b s H,tu (dB X N scope a C b s H) ifs c)(i:∀a C b s H,JE (dB X N scope a C b s H) elt f)(S:bh X N k is scope)(e:∀x,foldedSetIterable iter X.env x=pure x:=by intro _;rfl):JE X (.ListComp elt [⟨tg,iter,ifs,0⟩] scope pos) (aI it k is bd c f):=⟨El d h.out (λa C b s H=>(j a C b s H).out) (λa C b s H=>(g a C b s H).out) (λa C b s H=>(i a C b s H).out) S e⟩
theorem yi{X:Cx}{N:List Str}{d:Pos}(e:X.calm=true)(q:X.N.Nodup)(g:X.N[i]?=some x)(m:L2.Loc X.env.scope x)(o:JI X tg iter it)(r:∀a C b s H,JG (dB X N scope a C b s H) tg bd)(l:∀a C b s H,tu (dB X N scope a C b s H) ifs c)(p:∀a C b s H,JE (dB X N scope a C b s H) elt f)(S:bh X N k is scope)(h:swapsWith (.ListComp elt [⟨tg,iter,ifs,0⟩] scope pos) (some (.Name x pos')) d.line X.env=pure true:=by rfl)(n:X.fn x=true\/X.env.scope.names.lookup x=some .local:=by first|exact .inl rfl|exact .inr rfl|assumption)(j:∀x,foldedSetIterable iter X.env x=pure x:=by intro _;rfl):JS X (.Assign [.Name x pos'] (.ListComp elt [⟨tg,iter,ifs,0⟩] scope pos) d) (aH i (aI it k is bd c f)):=⟨Gw e q g m o.out (λa C b s H=>(r a C b s H).out) (λa C b s H=>(l a C b s H).out) (λa C b s H=>(p a C b s H).out) S h n j⟩
theorem fU:tu X [] aK:=⟨Gn⟩
theorem tS(h:JT X c t):tu X [c] t:=⟨Go h.out⟩
theorem zm{X:Cx}(c:aj X.prog X.w X.K X.mg X.base x k ps F)(m:∀ f j v b,F f j=.ok v b->f.length=ps.length)(n:bP k X.A)(l:Gl X x)(h:JA X (e::es) g)(d:(x==("__debug__" : Str))=false:=by decide)(i:starEach (e::es) X.env=(false,eval e X.env)::starEach es X.env:=by rfl)(a:(backTo pos (starEach es X.env)).any (·.1)=false:=by rfl):JE X (.Call (.Name x p) (e::es) [] pos) (aG F g):=⟨Ek c m n l h.out d i a⟩
theorem zw{P:Program}{w:World}{K:Fg}{l:Str->Option Value}{base h:Heap}{x:Str}{d:Stmt}{N g:List Str}{k:Nat}{b:SS}(T:ap K x d)(X:K.In h)(G:h.Ns mainGlobals l)(S:ak N g (af d))(n:∀(kV i o:Value) (m:Option Addr) (c q:Value) (j:List Value),j.length=g.length->bindArgs (W.fnOf x x (cf d) (bt d) (af d) .none kV i o m c q) ⟨j,[]⟩=pure (g.zip j))(e:∀(f:Addr) (c:Value) (A:Around) (a:List Env) (s:Shared) (H:Hp) (E:XK),bP k (A.deeper (envOfC x (af d) s.heap.objs.size f c)) ->
 JB (dW ke P w K l base N x (af d) f c A a s H E).nox (bt d) b):aj P w K l base x (k+1) g (bV N.length g.length b):=F3 T X G S n (λf c A a s H E p=>(e f c A a s H E p).out)
theorem GM{P:Program}{w:World}{K:Fg}{j:Str->Option Value}{base:Heap}{e:Stmt}{N h:List Str}{k:Nat}{b:SS}{f:Addr}{i:FuncData}(F:oW K "law" "law" e f i)(S:ak N h (af e))(m:h.length=1)(d:∀(c:Value) (A:Around) (a:List Env) (s:Shared) (H:Hp) (E:XK),bP k (A.deeper (envOfC "law" (af e) s.heap.objs.size f c)) ->
 JB (dW ke P w K j base N "law" (af e) f c A a s H E).nox (bt e) b) (holds:∀ l:List Int,l.length<=63->∃ g,bV N.length 1 b [.scr (l.map .int)] []=.ok (.bl true) g):fS P w K j base ke (k + 1) f i h (iZ K):=Fa F S m (λc A a s H E n=>(d c A a s H E n).out) holds
theorem rX(h:JE X a f):JE X (.UnaryOp .USub a pos) (mZ hD f):=⟨Dp h.out⟩
theorem J0(l:cB X (compareOp op) r)(e:cB X (compareOp op') r')(m:fY X.K g r)(d:fY X.K g' r')(h:JE X a f)(k:JE X b f')(j:JE X c f'')(i:lastMarks [op,op'] [b,c]=false:=by with_unfolding_all rfl):JT X (.Compare a [op,op'] [b,c] pos) (eB (dA g g' f f' f'')):=⟨Io l e m d h.out k.out j.out i⟩
theorem iu(h:JE X a f)(c:∀b,isTrue a X.env b=(do let v ←b;standAt a.pos;holding [v] (truthy v)):=by intro _;rfl):JT X a (cn f):=⟨EH h.out c⟩
theorem BF{X:Cx}{N:List Str}{d:Pos}(e:X.calm=true)(q:X.N.Nodup)(g:X.N[i]?=some x)(m:L2.Loc X.env.scope x)(o:JI X tg iter it)(r:∀a C b s H,JG (dB X N scope a C b s H) tg bd)(l:∀a C b s H,tu (dB X N scope a C b s H) ifs c)(p:∀a C b s H,JE (dB X N scope a C b s H) elt f)(S:bh X N k is scope)(h:swapsWith (.ListComp elt [⟨tg,iter,ifs,0⟩] scope pos) (some (.Name x pos')) d.line X.env=pure true:=by rfl)(n:X.fn x=true\/X.env.scope.names.lookup x=some .local:=by first|exact .inl rfl|exact .inr rfl|assumption)(j:∀x,foldedSetIterable iter X.env x=pure x:=by intro _;rfl):JS X (.Assign [.Name x pos'] (.ListComp elt [⟨tg,iter,ifs,0⟩] scope pos) d) (aH i (dU it k is bd c f)):=⟨Ik e q g m o.out (λa C b s H=>(r a C b s H).out) (λa C b s H=>(l a C b s H).out) (λa C b s H=>(p a C b s H).out) S h n j⟩
theorem za(b:JE X e f)(c:JA X es g)(a:jK e=true:=by rfl):JA X (e::es) (aB f g):=⟨Ib b.out c.out a⟩
theorem Gm(h:Gl X "zip")(e:X.mg "zip"=none)(d:JA X [a,b] g)(f:starEach [a,b] X.env=[(false,eval a X.env),(false,eval b X.env)]:=by rfl)(c:starEach [b] X.env=[(false,eval b X.env)]:=by rfl):JI X (.Tuple elts k tpos) (.Call (.Name "zip" p) [a,b] [] pos) (jc g):=⟨Ew h e d.out f c⟩
end Dd
namespace L2
open Spec PyProof.Rows
section
open AutoSeq1
end
end L2
namespace Dd
open L2
end Dd
namespace L2
open Spec PyProof.Rows
end L2
namespace Dd
open L2 PyProof.Rows
end Dd
namespace L2
open Spec PyProof.Rows
def rq(K:Fg) (b:Bool):R2:=λx c H Q=>∃d p a,kc K H x d/\kc K H c p/\(p=.tuple a\/p=.list a)/\PySem.SeqAt.shaped d=true/\PySem.SeqAt.shaped p=true/\Q (.bl (if b then !a.any λy=>PyData.eqv y d else a.any λy=>PyData.eqv y d)) H
theorem vg(h:p=.tuple xs\/p=.list xs)(s:PySem.SeqAt.shaped p=true):PyData.canLayAll0 xs=true/\PyData.depthAll xs<=63:=by
 have:(PyData.canLayAll0 xs&&decide (PyData.depthAll xs+1<=64))=true:=by rcases h with rfl|rfl<;>exact s
 rw[eh] at this;exact⟨this.1,by have:=gX this.2;lia⟩
theorem yc(s:PySem.SeqAt.shaped d=true):d.canLay0=true:=by
 unfold PySem.SeqAt.shaped at s;rw[eh] at s;exact s.1
theorem u9{X:Cx}(z:X.A.units+64<cLine):cB X (compareOp .In) (rq X.K false):=by
 intro w s o H x y v u Q I k n h;obtain⟨d,p,c,l,m,b,e,j,q⟩:=h;obtain⟨r,g⟩:=nv I l k;obtain⟨A,i⟩:=nv I m n;obtain⟨f,t⟩:=vg b j;have a:X.A.units+1+min (PyData.depthAll c) d.depth<cLine:=by have:=pj (PyData.depthAll c) d.depth;lia
 rcases b with rfl|rfl
 ·exact SeqAt.in_tuple_reads i g f (yc e) a ⟨.bl _,H,I,rfl,q⟩
 ·exact SeqAt.in_list_reads i g f (yc e) a ⟨.bl _,H,I,rfl,q⟩
theorem Kt{X:Cx}(z:X.A.units+64<cLine):cB X (compareOp .NotIn) (rq X.K true):=by
 intro w s o H x y v u Q I k n h;obtain⟨d,p,c,l,m,b,e,j,q⟩:=h;obtain⟨r,g⟩:=nv I l k;obtain⟨A,i⟩:=nv I m n;obtain⟨f,t⟩:=vg b j;have a:X.A.units+1+min (PyData.depthAll c) d.depth<cLine:=by have:=pj (PyData.depthAll c) d.depth;lia
 rcases b with rfl|rfl
 ·exact SeqAt.notIn_tuple_reads i g f (yc e) a ⟨.bl _,H,I,rfl,q⟩
 ·exact SeqAt.notIn_list_reads i g f (yc e) a ⟨.bl _,H,I,rfl,q⟩
theorem Rh:fillsNumberSlot (.type "tuple") "mul"=pure false:=
 PySem.fillsNumberSlot_seq (id:="tuple.__mul__") (r:=some (.builtin "tuple.__rmul__")) wB.lookup (by decide +kernel) F.slot_tuple_rmul.lookup (by decide +kernel)
theorem Ho:seqRepeat? (.type "tuple")=pure (some (.builtin "tuple.__mul__")):=by
 unfold seqRepeat?;rw[PySem.seqSlot_of (T:="tuple") (name:="__mul__") (id:="tuple.__mul__") wB.lookup (by decide +kernel),PySem.seqSlot_of (T:="tuple") (name:="__rmul__") (id:="tuple.__rmul__") F.slot_tuple_rmul.lookup (by decide +kernel)]
 rfl
theorem Je(a:Int)(t:Tok)(l:Addr)(b:Array Value)(n:Nat)(f:Option Addr)(e:Array (Option Value)):
  Meets (Builtin.«int.__rmul__» ⟨[.int a t,.ref l],[]⟩) (λ_ R s=>s.heap.get? l=some { cls:=.type "tuple",dict:=f,data:=.seq b n,slots:=e }/\R (.ok (.ret Value.notImplemented)) s):=
 .of_wp λc w A R s h=>by
  obtain⟨j,g,d,i,os⟩:=s;obtain⟨k,h⟩:=h
  wp_walk
  exact⟨_,rfl,h⟩
theorem nb(h:b=false):decide (b=true)=false:=by rw[h];rfl
section
open AutoSeq1
variable (l:Addr)(items:Array Value)(n:Nat)(dd:Option Addr)(sl:Array (Option Value))(x:Int)(u:Tok)
theorem Kk(lo:-1000000<=x)(c:x<=0)(b:items.isEmpty=false):
  Meets (Builtin.«tuple.__mul__» ⟨[.ref l,.int x u],[]⟩) (λ_ R s=>s.heap.get? l=some { cls:=.type "tuple",dict:=dd,data:=.seq items n,slots:=sl }/\R (.ok (.ret (.ref s.heap.objs.size))) { s with heap:=s.heap.push { cls:=.type "tuple",data:=.seq #[] } }):=
 .of_wp λa w A R s h=>by
  obtain⟨f,g,d,e,os⟩:=s;obtain⟨i,h⟩:=h
  wp_walk
  try
   refine n0 ?c1 ?_
   case c1=>exact nb (by rw[sS];exact⟨bM '!',bM '!'⟩)
   wp_walk
  try
   refine n0 ?c1 ?_
   case c1=>exact nb (by rw[sS];exact⟨b,beq_false_of_ne '!'⟩)
   wp_walk
  try
   refine wpAny_ite_true ?c1 ?_
   case c1=>exact yb (by rw[zE];exact .inl (bH c))
   wp_walk
  exact⟨_,rfl,h⟩
theorem IK(b:x=1):
  Meets (Builtin.«tuple.__mul__» ⟨[.ref l,.int x u],[]⟩) (λ_ R s=>s.heap.get? l=some { cls:=.type "tuple",dict:=dd,data:=.seq items n,slots:=sl }/\R (.ok (.ret (.ref l))) s):=
 .of_wp λa w A R s h=>by
  obtain⟨e,g,d,c,os⟩:=s;obtain⟨f,h⟩:=h
  wp_walk
  try
   refine n0 ?c1 ?_
   case c1=>exact nb (by rw[sS];exact⟨bM '!',bM '!'⟩)
   wp_walk
  try
   refine wpAny_ite_true ?c1 ?_
   case c1=>exact yb (by rw[zE];exact .inr (by rw[b];rfl))
   wp_walk
  exact⟨_,rfl,h⟩
theorem Kj(o:2<=x)(m:x<=1000000)(f:items.isEmpty=false)(p:((items.size:Nat):Int)*x<=1000000)(i:Builtin.Tuple.tupleTooMany (((items.size:Nat):Int)*x)=false)
  (c:(List.foldl (λb a=>b++a) #[] (List.replicate x.toNat items)).size<=sizeLine):
  Meets (Builtin.«tuple.__mul__» ⟨[.ref l,.int x u],[]⟩) (λ_ R s=>s.heap.get? l=some { cls:=.type "tuple",dict:=dd,data:=.seq items n,slots:=sl }/\R (.ok (.ret (.ref s.heap.objs.size))) { s with heap:=s.heap.push { cls:=.type "tuple",data:=.seq (List.foldl (λb a=>b++a) #[] (List.replicate x.toNat items)) } }):=
 .of_wp λe w A R s h=>by
  obtain⟨k,g,d,j,os⟩:=s;obtain⟨q,h⟩:=h
  wp_walk
  try
   refine n0 ?c1 ?_
   case c1=>exact nb (by rw[sS];exact⟨bM '!',bM '!'⟩)
   wp_walk
  try
   refine n0 ?c1 ?_
   case c1=>exact nb (by rw[sS];exact⟨f,beq_false_of_ne '!'⟩)
   wp_walk
  try
   refine n0 ?c1 ?_
   case c1=>exact nb (by rw[sS];exact⟨bM '!',f⟩)
   wp_walk
  try
   refine n0 ?c1 ?_
   case c1=>exact bM '!'
   wp_walk
  try
   refine n0 ?c1 ?_
   case c1=>exact nb i
   wp_walk
  try (refine n0 (bM (Nat.not_lt.mpr c)) ?_;wp_walk)
  exact⟨_,rfl,h⟩
end
noncomputable def cI{α:Type}(a:List α) (n:Int):List α:=(List.replicate n.toNat a).flatten
theorem N7{c:Type}(b:List c):∀(n:Nat) (a:List c),(List.foldl (λ(e d:Array c)=>e++d) a.toArray (List.replicate n b.toArray))=(a++(List.replicate n b).flatten).toArray
 |0,a=>by simp
 |n+1,a=>by
  rw[kw,zG,kw,qV,←eu,←N7 b n (a++b)]
  congr 1
  simp
theorem aq.times(r:aq xs us):∀n:Nat,aq (List.replicate n xs).flatten (List.replicate n us).flatten
 |0=>.nil
 |n+1=>by
  rw[kw,qV,kw,qV];exact r.append (aq.times r n)
def pK(K:Fg):R2:=λx y H Q=>∃t a n,x=.ref t/\y=.int n/\bD K H t a/\a≠[]/\-1000000<=n/\n<=1000000/\(a.length:Int)*n<=1000000/\(n=1->Q (.ref t) H)/\(n≠1->∀p,H p=none->Q (.ref p) (aD H p (.tup (cI a n))))
theorem BN{b:Type}(a:List b):∀n:Nat,(List.replicate n a).flatten.length=n*a.length
 |0=>by simp
 |n+1=>by rw[kw,qV,cq,BN a n,Nat.succ_mul];lia
theorem AO:cB X (binaryOp .Mult) (pK X.K):=by
 intro aW s σ H x y v u Q I r1 r2 h;obtain⟨t,f,n,rfl,rfl,R,ne,lo,hi,hz,q1,q2⟩:=h;cases r1;obtain⟨g,rfl⟩:=r2;obtain⟨d,r,⟨o,e,E,m,J⟩,z⟩:=I.tuple R;obtain⟨cls,A,data,w⟩:=o;dsimp only at E J;subst E J;have len:=r.length;have j:d.toArray.isEmpty=false:=by
  cases d with
  |nil=>cases r;exact absurd rfl ne
  |cons a l=>rfl
 have k:∀{C:Value->Shared->Prop},wpAny (model X.prog X.w) X.A (call (.builtin "tuple.__mul__") [.ref t,.int n g]) C X.xe s->wpAny (model X.prog X.w) X.A (binaryOp .Mult (.ref t) (.int n g)) C X.xe s:=λ{C} hq=>
  wpAny_binaryOp_repeat_ref (T:="tuple") (U:="int") '"' ⟨_,e,rfl⟩ (λs'=>typeIs_int s' n g) Rh F.fills_int_mul F.slot_int_rmul Ho F.slot_int_index.lookup
   (mO F.slot_int_rmul (typeIs_int s n g) F.entry_int_rmul (F.args_int_rmul_2 _ _) (Je n g t d.toArray m A w) ⟨e,rfl,⟨_,e,rfl⟩,hq⟩)
 refine k ?_;by_cases c:n=1
 ·exact mO wB ⟨_,e,rfl⟩ Lb (Lj _ _) (IK t d.toArray m A w n g c) ⟨e,.ref t,H,I,rfl,q1 c⟩
 have done:∀ q:List Value,aq (cI f n) q->(cI f n).length<=sizeLine->EP X aW σ Q (.ref s.heap.objs.size) { s with heap:=s.heap.push { cls:=.type "tuple",data:=.seq q.toArray } }:=λq rt hl=>
  ⟨.ref s.heap.objs.size,_,I.laid (t':=s.toks) (o:=.tup (cI f n)) (λb ob hb=>bL _ hb) (bi _) ⟨hl,q,rt,IsTup.new s.heap _⟩,rfl,q2 c _ (I.hok.fresh (bi _))⟩
 have p:(cI f n).length=n.toNat*f.length:=BN f n.toNat;by_cases c2:n<=0
 ·refine mO wB ⟨_,e,rfl⟩ Lb (Lj _ _) (Kk t d.toArray m A w n g lo c2 j) ⟨e,?_⟩;have P:cI f n=[]:=by unfold cI;rw[show n.toNat=0 by lia];rfl
  exact done [] (by rw[P];exact .nil) (by rw[P];exact eJ _)
 ·have Y:n.toNat*f.length<=1000000:=by
   have:((n.toNat*f.length:Nat):Int)=(f.length:Int)*n:=by rw[Int.natCast_mul,Int.toNat_of_nonneg '!',Int.mul_comm]
   lia
  have i:n.toNat*f.length<=sizeLine:=by rw[hY];lia
  have G:List.foldl (λ(x1 x2:Array Value)=>x1++x2) #[] (List.replicate n.toNat d.toArray)=((List.replicate n.toNat d).flatten).toArray:=by
   have:=N7 d n.toNat []
   simpa using this
  have S:((d.toArray.size:Nat):Int)*n<=1000000:=by rw[cC,←len];exact hz
  refine mO wB ⟨_,e,rfl⟩ Lb (Lj _ _) (Kj t d.toArray m A w n g '!' hi j S (bM (by rw[hY];lia)) (by rw[G,cC,BN,←len];exact i)) ⟨e,?_⟩;rw[G];exact done _ (r.times n.toNat) (by rw[p];exact i)
end L2
namespace Dd
open L2 PyProof.Rows
def gw(a:Bool) (x c:D) (b:aa):ar D:=match dataOf b x,dataOf b c with
 |some d,some (.tuple xs)=>if PySem.SeqAt.shaped d=true/\PySem.SeqAt.shaped (.tuple xs)=true then .ok (.bl (if a then !xs.any λy=>PyData.eqv y d else xs.any λy=>PyData.eqv y d)) b else .stuck
 |some d,some (.list xs)=>if PySem.SeqAt.shaped d=true/\PySem.SeqAt.shaped (.list xs)=true then .ok (.bl (if a then !xs.any λy=>PyData.eqv y d else xs.any λy=>PyData.eqv y d)) b else .stuck
 |_,_=>.stuck
theorem qr{K:Fg}{f:Bool}:fY K (gw f) (rq K f):=λl H m x y u v z k Q c a b e q=>by
 unfold gw at e;split at e
 ·rename_i d i j h;split at e
  ·rename_i g;cases e;exact⟨_,_,i,sA c a j,sA c b h,.inl rfl,g.1,g.2,q _ _ _ (.refl _ _) c (.bl _)⟩
  ·cases e
 ·rename_i d i j h;split at e
  ·rename_i g;cases e;exact⟨_,_,i,sA c a j,sA c b h,.inr rfl,g.1,g.2,q _ _ _ (.refl _ _) c (.bl _)⟩
  ·cases e
 ·cases e
def eL(x y:D) (a:aa):ar D:=match x,y with
 |.tup xs,.int n=>if xs≠[]/\-1000000<=n/\n<=1000000/\(xs.length:Int)*n<=1000000 then .ok (.tup (cI xs n)) a else .stuck
 |_,_=>.stuck
theorem ah.times{K:Fg}{a:Loc}{H:Hp}{c:List D}{b:List V}(h:ah K a H c b):∀n:Nat,ah K a H (List.replicate n c).flatten (List.replicate n b).flatten
 |0=>.nil
 |n+1=>by
  rw[kw,qV,kw,qV];exact h.append (ah.times h n)
theorem AN{K:Fg}:fY K eL (pK K):=λj H k x y u v z g Q f a b e q=>by
 unfold eL at e;split at e
 ·rename_i xs n;split at e
  ·rename_i c;cases e;cases b;cases a with
   |tup h1 h2 h3=>
    have i:=h3.length;refine⟨_,_,n,rfl,rfl,bD.of h1,λz=>?_,c.2.1,c.2.2.1,by rw[i];exact c.2.2.2,λz=>?_,λz p d=>?_⟩
    ·subst z;cases h3;exact c.1 rfl
    ·subst z;refine q _ _ _ (.refl _ _) f ?_;have h:cI xs 1=xs:=by simp[cI]
     rw[h];exact .tup h1 h2 h3
    ·exact q _ _ _ (bj.new d _) (f.new d _) (.newT f d (h3.times n.toNat))
  ·cases e
 ·cases e
end Dd
namespace L2
open Spec PyProof.Rows PySem.W
end L2
namespace Dd
open L2 PyProof.Rows
end Dd
namespace L2
open Spec PyProof.Rows
end L2
namespace Dd
open L2 PyProof.Rows
end Dd
namespace Dd
variable {α:Type}
section
variable {motive:List α->Prop}
@[elab_as_elim] theorem Mi (us:List α) (a:us.length=0) (h:motive []):motive us:=by rw[List.eq_nil_of_length_eq_zero a];exact h
@[elab_as_elim] theorem rC {n:Nat}(us:List α) (b:us.length=n+1) (h:∀a us,us.length=n->motive (a::us)):motive us:=by
 cases us with
 |nil=>cases b
 |cons a us=>exact h a us (Nat.succ.inj b)
@[elab_as_elim] theorem cA (us:List α) (b:us.length=1) (h:∀a,motive [a]):motive us:=rC us b λa us b=>Mi us b (h a)
@[elab_as_elim] theorem fx (us:List α) (c:us.length=2) (h:∀a b,motive [a,b]):motive us:=rC us c λa us c=>cA us c (h a)
@[elab_as_elim] theorem kE (us:List α) (d:us.length=3) (h:∀a b c,motive [a,b,c]):motive us:=rC us d λa us d=>fx us d (h a)
end
end Dd
namespace Dd
open L2
end Dd
namespace L2
open Spec PyProof.Rows
end L2
namespace Dd
open L2 PyProof.Rows
end Dd
namespace L2
open Spec PyProof.Rows
end L2
namespace Dd
open L2
end Dd
namespace Dd
open L2 PyProof.Rows
end Dd
namespace L2
open Spec PyProof.Rows
end L2
namespace Dd
open L2
end Dd
namespace L2
open Spec PyProof.Rows
end L2
namespace Dd
open L2
end Dd
namespace L2
open Spec PyProof.Rows
theorem yA: bu X (.type "str") (λa H Q=>∃ i:Int,a=[.int i]/\-(2^60)<i/\i<2^60/\Q (.str (toString i)) H):=by
 intro e s b H a c Q I r h;obtain⟨i,rfl,f,d,q⟩:=h;obtain⟨u,rfl,t,rfl⟩:=vals1 r;exact str_of_int_fit (N:=2^60) (by split<;>lia) '"' λ_=>⟨.str (toString i),H,I.tok _,⟨_,rfl⟩,q⟩
end L2
namespace Dd
open L2
def dX:List D->aa->ar D:=λb a=>match b with
 |[.int i]=>if -(2^60)<i/\i<2^60 then .ok (.str (toString i)) a else .stuck
 |_=>.stuck
theorem xR{K:Fg}:iL K dX (λb H Q=>∃i:Int,b=[.int i]/\-(2^60)<i/\i<2^60/\Q (.str (toString i)) H):=λj H k b h z d Q f g e q=>by
 unfold dX at e;split at e
 ·split at e
  ·rename_i c;cases e;obtain⟨u,rfl,a⟩:=g.one;cases a;exact⟨_,rfl,c.1,c.2,q _ _ _ (.refl _ _) f (.str _)⟩
  ·cases e
 ·cases e
end Dd
namespace L2
open Spec PyProof.Rows
def rf(X:Cx) (g:List (Addr×Obj)) (C:Addr) (f:TA):TS:=λ_ a H=>f a H λd H1=>d.length<=sizeLine /\
 ∀(s:Shared) (b:List Value) (c:Heap) (e:Addr),Inv X g a H1 s->aq d b->Heap.MadeExcOf s.heap c e (.ref C) b->X.xe (.ref e) {s with heap:=c}
theorem IZ{X:Cx}(O:OwnCls x C bmB newId X.mg X.base)(Fn:ExcBaseFacts Bn newId inN bmN)(f:bmB.contains (.type Bn)=true)(t:ExcBaseFacts B nid initId bmB)(E:X.calm=true)(Q:Gl X x)(ha:PA X (e::es) ta)
  (G:(x==("__debug__" : Str))=false:=by decide)(m:starEach (e::es) X.env=(false,eval e X.env)::starEach es X.env:=by rfl)(d:(backTo cpos (starEach es X.env)).any (·.1)=false:=by rfl)
   {D:fD}(I:Inv X aW σ H s)(h:rf X aW C ta D σ H):
  wpAny (model X.prog X.w) X.A (exec (.Raise (some (.Call (.Name x np) (e::es) [] cpos)) none pos) X.env) (SP X aW D) X.xe s:=by
 obtain⟨tl,N,u,q,o,a,j,sub,k,b,z,n,l,v,i,w,r,S,P,g,T⟩:=O.obj;refine wpAny_Raise_call_subU (C:=C) (nm:=u) (q:=q) (N:=N) (bs:=o) (bm:=tl) (hdct:=a) (sn:=j) (sub:=sub) (ab:=k) (col:=b) (dd:=z) (k0:=n) (k1:=l) (k2:=v) (k3:=i) (k5:=w)
  Fn f t (mN:=r) (T.hasType t.hasBase) (I.ok.hd E) (by rw[m];show(false||(backTo cpos (starEach es X.env)).any (·.1))=false;rw[d];rfl) g (xV I Q O.bound ⟨rfl,?_⟩ G)
 have p:=ha cpos aW s σ H _ I h;rw[m] at p ⊢;refine Lr (hX p (λus Y hq=>?_) λ_ _ y=>y);obtain⟨vs,H1,c,A,R,q⟩:=hq;exact⟨rfl,by rw[←A.length];exact R,c.bk _ _ S,P.keeps c.bk,T.keeps c.bk,λJ e U=>q Y us J e c A U⟩
noncomputable def oQ(h:Heap) (e:Addr) (c:Value) (d:Option Addr) (f:Value):Prop:=∃a b,h.get? e=some a/\a.cls=c/\a.dict=d/\a.data=.fields b/\b[1]?=some f/\b[2]?=some .none
noncomputable def jO(h:Heap) (T:Addr) (x:Value):Prop:=∃o a,h.get? T=some o/\o.data=.fields a/\a[3]?=some x
structure Mv (ch fs:List Addr) (h h':Heap):Prop where
 keep:∀b o,b∉ch->b∉fs->h.get? b=some o->h'.get? b=some o
 slot:∀b o,b∉ch->b∈fs->h.get? b=some o->∃sl,h'.get? b=some {o with slots:=sl}
theorem Mv.trans{d:List Addr}(a:Mv d fs h h1)(b:Mv d fs h1 h2):Mv d fs h h2:=
 ⟨λc o x y e=>b.keep c o x y (a.keep c o x y e),λc o x y e=>let ⟨_,e1⟩:=a.slot c o x y e;let ⟨sl,e2⟩:=b.slot c _ x y e1;⟨sl,e2⟩⟩
theorem Mv.mono{c:List Addr}(a:Mv c fs h h')(k:∀b∈c,b∈ch'):Mv ch' fs h h':=
 ⟨λb o x y e=>a.keep b o (λz=>x (k b z)) y e,λb o x y e=>a.slot b o (λz=>x (k b z)) y e⟩
theorem Mv.set:Mv [a] fs h (h.update a f):=
 ⟨λb o x _ e=>by rw[mX _ _ (by rintro rfl;exact x (bX.mpr rfl))];exact e,
  λb o x _ e=>⟨o.slots,by rw[mX _ _ (by rintro rfl;exact x (bX.mpr rfl))];exact e⟩⟩
theorem AW{h:Heap}(b:h.get? e=some o)(a:o.data=.fields vs):
 (h.update e (Obj.mapFields (·.setIfInBounds i x))).get? e=some (o.mapFields (·.setIfInBounds i x)):=wI _ b (Ad (om a _))
theorem M9(o:Obj)(f:Array Value->Array Value):(o.mapFields f).cls=o.cls/\(o.mapFields f).dict=o.dict:=by
 obtain⟨a,b,c,d⟩:=o;cases c<;>exact⟨rfl,rfl⟩
theorem BO{M:Model}{s:Shared}{T:Addr}(r:oQ s.heap e cls dx (.ref T))(t:jO s.heap T x)(b:T≠e)
  (h:∀a,Mv [T] fs s.heap a->oQ a e cls dx (.ref T)->jO a T .none->Q () {s with heap:=a}):wpAny M A (setFlight (.ref e) none) Q E s:=by
 obtain⟨m,k,g,p,l,f,i,q⟩:=r;obtain⟨o,u,j,c,n⟩:=t;have d:=(wM.mp n).1;unfold setFlight;refine am (iz g f i ?_);rw[if_pos '&'];refine nZ j c d (h _ .set ⟨m,k,?_,p,l,f,i,q⟩ ⟨_,_,AW j c,om c _,?_⟩)
 ·rw[mX _ _ b];exact g
 ·simp[d]
theorem Nb{M:Model}{A:Around}{s:Shared}{L:Addr}(j:A.frames=some (a::outer))(r:s.heap.FunFrames base (a::outer))(I:a.frame=some L)
  (l:s.heap.get? e=some oe)(d:oe.data=.fields vs)(n:1<vs.size)(G:vs[2]?=some .none)
  (h:∀f,Mv [e] (eW (a::outer)) s.heap f->oQ f e oe.cls oe.dict (.ref s.heap.objs.size)->jO f s.heap.objs.size (rawInt L)->Q () {s with heap:=f}):
  wpAny M A (do setField (.ref e) 1 (←EntryCells.newEntry head (←frameOf a) .none (rawInt L) .none (←entryPlaceOf L nx))) Q E s:=by
 have w:e∉eW (a::outer):=λH=>by
  obtain⟨_,o,m,v⟩:=r.mem H;rw[l] at m;cases m;exact v vs d
 refine am (wpAny_frameOf_fun j r I λc g=>am (wpAny_entryPlaceOf λP p=>?_));unfold EntryCells.newEntry newFields;refine am (lI ?_ (by exact p.sizeOk5 _ _ _ _ _));have t:c.get? e=some oe:=(g.2.1 e w).trans l;have k:c.objs.size=s.heap.objs.size:=g.1;have u:=λJ:Obj=>bL (h:=c) J t
 refine nZ (u _) d n (h _ ⟨λb o x y q=>?_,λb o x y q=>?_⟩ ⟨_,_,AW (u _) d,(M9 _ _).1,(M9 _ _).2,om d _,by rw[k];simp[n],by rw[PL '"'];exact G⟩ ?_)
 ·rw[mX _ _ (by rintro rfl;exact x (bX.mpr rfl))];exact bL _ ((g.2.1 b y).trans q)
 ·obtain⟨C,z⟩:=g.2.2 b o q;refine⟨C,?_⟩;rw[mX _ _ (by rintro rfl;exact x (bX.mpr rfl))];exact bL _ z
 ·have i:e≠c.objs.size:=ef (bR t);rw[←k];refine⟨_,_,(mX _ _ i).trans (dD c rfl),rfl,?_⟩
  ·first
    | (simp;done)
    | (rcases p with rfl|⟨_,_,_,_,_,_,_,rfl⟩<;>simp)
theorem Qg{M:Model}{A:Around}{s:Shared}{L:Addr}(c:A.frames=some (a::outer))(m:s.heap.FunFrames base (a::outer))(d:a.frame=some L)
  (r:oQ s.heap e cls dx .none)(h:∀b,Mv [e] (eW (a::outer)) s.heap b->oQ b e cls dx (.ref s.heap.objs.size)->jO b s.heap.objs.size (rawInt L)->Q () {s with heap:=b}):
  wpAny M A (noteFrame (.ref e) a) Q E s:=by
 obtain⟨o,n,g,k,j,f,i,l⟩:=r;subst k j;unfold noteFrame;simp only[d];refine am (iz g f i ?_);rw[if_neg '"'];exact Nb c m d g f (wM.mp i).1 l h
theorem Kl{M:Model}{A:Around}{s:Shared}{L T:Addr}(m:A.frames=some (a::outer))(C:s.heap.FunFrames base (a::outer))(u:a.frame=some L)
  (r:oQ s.heap e cls dx (.ref T))(t:jO s.heap T .none)(g:T≠e)
  (h:∀c j,s.heap.get? j=none->(∃o,c.get? T=some o)->Mv [e,T] (eW (a::outer)) s.heap c->oQ c e cls dx (.ref j)->jO c j (rawInt L)->Q () {s with heap:=c}):
  wpAny M A (noteFrame (.ref e) a) Q E s:=by
 obtain⟨oe,Y,G,X,U,v,y,J⟩:=r;obtain⟨o,P,f,i,w⟩:=t;subst X U;unfold noteFrame;simp only[u];refine am (iz G v y ?_);rw[if_pos '&'];refine am (iz f i w ?_);rw[if_neg (by simp[rawInt])];refine am (nZ f i (wM.mp w).1 ?_);have H:Mv [e,T] (eW (a::outer)) s.heap (s.heap.update T (Obj.mapFields (·.setIfInBounds 3 .none))):=Mv.set.mono λb z=>by
  rw[bX] at z;subst z;exact gZ _ f6
 have n:(s.heap.update T (Obj.mapFields (·.setIfInBounds 3 .none))).get? e=some oe:=by rw[mX _ _ g];exact G
 have I:T∉eW (a::outer):=λR=>by
  obtain⟨_,x,d,k⟩:=C.mem R;rw[f] at d;cases d;exact k P i
 have p:(s.heap.update T (Obj.mapFields (·.setIfInBounds 3 Value.none))).objs.size=s.heap.objs.size:=by simp[Heap.update]
 refine Nb (s:={s with heap:=_}) (base:=base) m (C.of_keeps λb x d k=>?_) u n v (wM.mp y).1 J λc q S l=>h c s.heap.objs.size (Heap.get?_none_of_le (bi _)) ⟨_,q.keep T _ (λz=>g (bX.mp z)) I (AW f i)⟩ (H.trans (q.mono λb z=>?_)) (by rw[←p];exact S) (by rw[←p];exact l)
 ·refine⟨x,?_,rfl⟩;rw[mX _ _ (by rintro rfl;rw[f] at d;cases d;exact k _ i)];exact d
 ·rw[bX] at z;subst z;exact f6
noncomputable def HX:HO:=.ext λ_=>True
def cY(H:Hp) (a T:Addr):Hp:=aD (aD H T HX) a HX
structure ip (H:Hp) (h:Heap) (ea T:Addr) (cls:Value) (dx:Option Addr):Prop where
 r:oQ h ea cls dx (.ref T)
 t:jO h T .none
 ne:T≠ea
 fe:H ea=none
 ft:H T=none
theorem qf{T:Addr}:cY H ea T b=some HX/\(b=ea\/b=T)\/(b≠ea/\b≠T/\cY H ea T b=H b):=by
 unfold cY;by_cases h1:b=ea
 ·exact .inl ⟨by rw[h1,fh],.inl h1⟩
 ·by_cases h2:b=T
  ·exact .inl ⟨by rw[ca h1,h2,fh],.inr h2⟩
  ·exact .inr ⟨h1,h2,by rw[ca h1,ca h2]⟩
theorem nF{h:Heap}(e:∃o,h.get? a=some o):aE P w H h a HX:=⟨trivial,e,λ_ _ _ _=>trivial⟩
theorem aE.here(x:aE P w H h a o):∃ob,h.get? a=some ob:=by
 cases o with
 |lst xs=>obtain⟨_,_,_,_,e⟩:=x;exact⟨_,e⟩
 |tup xs=>obtain⟨_,_,_,p⟩:=x;obtain⟨_,e,_⟩:=p;exact⟨_,e⟩
 |dK kvs=>obtain⟨_,_,_,_,_,_,_,e,_⟩:=x;exact⟨_,e⟩
 |dT kvs=>obtain⟨_,_,_,_,_,_,_,e,_⟩:=x;exact⟨_,e⟩
 |set S n=>obtain⟨_,_,_,_,e,_⟩:=x;exact⟨_,e⟩
 |ins C dx fs=>exact⟨_,x.2.2.2.1⟩
 |own y=>exact x
 |xd fs=>obtain⟨_,⟨_,_,_,e,_⟩,_⟩:=x;exact⟨_,e⟩
 |rng lo hi=>obtain⟨_,_,_,e⟩:=x;exact⟨_,e⟩
 |frz ob u=>exact⟨_,x.1⟩
 |tbl ps=>exact⟨_,x⟩
 |met f y=>exact⟨_,x⟩
 |ext φ=>exact x.2.1
theorem Inv.flew{h':Heap}{T:Addr}(I:Inv X aW τ H0 s)(sub:∀b,H0 b=H b\/(H0 b=some HX/\H b=none))
  (g:∀b,b=ea\/b=T->s.heap.get? b=none\/H0 b=some HX)(d:∀b o,H0 b≠some HX->b∉eW X.stack->s.heap.get? b=some o->h'.get? b=some o)
  (h:∀b o,H0 b≠some HX->b∈eW X.stack->s.heap.get? b=some o->∃m,h'.get? b=some {o with slots:=m})(a:∀b o,s.heap.get? b=some o->∃k,h'.get? b=some k)
  (p:∃o,h'.get? ea=some o)(r:∃o,h'.get? T=some o):Inv X aW τ (cY H ea T) {s with heap:=h'}:=by
 have same:∀b o,H0 b=some o->o≠HX->cY H ea T b=some o:=λb o e n=>by
  obtain⟨ob,f⟩:∃ob,s.heap.get? b=some ob:=by
   have:=I.hok.lt e;exact(I.hok b o e).here
  rcases qf (H:=H) (ea:=ea) (T:=T) (b:=b) with⟨_,z⟩|⟨_,_,z⟩
  ·rcases g b z with y|y
   ·rw[f] at y;cases y
   ·rw[e] at y;exact absurd (eg y) n
  ·rw[z];rcases sub b with y|⟨y,_⟩
   ·rw[←y];exact e
   ·rw[e] at y;exact absurd (eg y) n
 refine I.call (g':=s.gens) (t':=s.toks) (d':=s.drawn) (ch:=[]) ⟨λb o e n f _=>d b o (by rw[n];intro z;cases z) f e,λb o e n f _=>h b o (by rw[n];intro z;cases z) f e,λb o e n _=>?_,λb o e _=>a b o e,λb l e=>same b _ e (by intro z;cases z),λb o u e=>same b _ e (by intro z;cases z),λb t e=>⟨#[],by rw[zW];exact same b _ e (by intro z;cases z)⟩⟩ (λb o e=>?_) I.bare (λ_ z=>nomatch z)
 ·rcases qf (H:=H) (ea:=ea) (T:=T) (b:=b) with⟨_,z⟩|⟨_,_,z⟩
  ·rcases g b z with y|y
   ·rw[e] at y;cases y
   ·rw[n] at y;cases y
  ·rw[z];rcases sub b with y|⟨y,_⟩
   ·rw[←y];exact n
   ·rw[n] at y;cases y
 ·rcases qf (H:=H) (ea:=ea) (T:=T) (b:=b) with⟨z,y⟩|⟨_,_,z⟩
  ·rw[z] at e;cases e
   rcases y with rfl|rfl
   ·exact nF p
   ·exact nF r
  ·rw[z] at e;have i:H0 b=some o:=by
    rcases sub b with y|⟨_,y⟩
    ·rw[y];exact e
    ·rw[e] at y;cases y
   by_cases hn:o=HX
   ·subst hn;obtain⟨ob,f⟩:=(I.hok b _ i).here;exact nF (a b ob f)
   ·have j:∀c,c=b\/H0 c=some (.own b)->H0 c≠some HX/\c∉eW X.stack:=λc hc=>by
     rcases hc with rfl|hc
     ·exact⟨by rw[i];exact λz=>hn (eg z),λz=>by rw[I.stkFree c z] at i;cases i⟩
     ·exact⟨by rw[hc];exact λz=>(nomatch z),λz=>by rw[I.stkFree c z] at hc;cases hc⟩
    exact(I.hok b o i).stay (λc u hc q=>d c u (j c hc).1 (j c hc).2 q) (λc hc=>same c _ hc (by intro z;cases z)) (λc l hc=>same c _ hc (by intro z;cases z))
theorem M5{X:Cx}{T:Addr}{s:Shared}{M:Model}(n:X.stack=X.env::X.outer)(G:X.env.frame=some X.env.locals)(F:ip H s.heap ea T cls dx)(I:Inv X aW τ (cY H ea T) s):
  wpAny M X.A (noteFrame (.ref ea) X.env) (λ_ Y=>∀(u:Around) (E:Value->Shared->Prop),wpAny M u (setFlight (.ref ea) none) (λ_ w=>∃c,ip H w.heap ea c cls dx/\Inv X aW τ (cY H ea c) w) E Y) E' s:=by
 have v:=I.stack;rw[n] at v;have r:∀b,cY H ea T b≠some HX->b∉[ea,T]:=λb h z=>by
  simp only[ce,iB,iy] at z;rcases qf (H:=H) (ea:=ea) (T:=T) (b:=b) with⟨y,_⟩|⟨P,R,_⟩
  ·exact h y
  ·rcases z with z|z
   ·exact P z
   ·exact R z
 refine Kl (base:=X.base) (I.ok.frames.trans (by rw[n])) v G F.r F.t F.ne λS c j U i x J u E=>?_
 rw[←n] at i;have g:c≠ea:=by
  rintro rfl;obtain⟨_,_,q,_⟩:=F.r;rw[j] at q;cases q
 refine BO (fs:=eW X.stack) x J g λQ k C A=>?_
 have e:∀b o,s.heap.get? b=some o->b∉[c]:=λb o q z=>by
  rw[bX] at z;subst z;rw[j] at q;cases q
 have I2:=I.flew (h':=Q) (H:=H) (ea:=ea) (T:=c) (λb=>by
   rcases qf (H:=H) (ea:=ea) (T:=T) (b:=b) with⟨y,z⟩|⟨_,_,y⟩
   ·exact .inr ⟨y,by rcases z with rfl|rfl<;>first|exact F.fe|exact F.ft⟩
   ·exact .inl y) (λb a=>by
   rcases a with rfl|rfl
   ·exact .inr (by unfold cY;rw[fh])
   ·exact .inl j) (λb o a d q=>k.keep b o (e b o q) d (i.keep b o (r b a) d q)) (λb o a d q=>by
   obtain⟨t,f⟩:=i.slot b o (r b a) d q;obtain⟨p,l⟩:=k.slot b _ (e b o q) d f;exact⟨p,l⟩) (λb o q=>by
   have f:∃o',S.get? b=some o':=by
    by_cases a:b∈[ea,T]
    ·simp only[ce,iB,iy] at a;rcases a with rfl|rfl
     ·obtain⟨_,_,y,_⟩:=x;exact⟨_,y⟩
     ·exact U
    ·by_cases d:b∈eW X.stack
     ·obtain⟨t,f⟩:=i.slot b o a d q;exact⟨_,f⟩
     ·exact⟨_,i.keep b o a d q⟩
   obtain⟨o1,f⟩:=f;by_cases d:b∈eW X.stack
   ·obtain⟨t,l⟩:=k.slot b _ (e b o q) d f;exact⟨_,l⟩
   ·exact⟨_,k.keep b _ (e b o q) d f⟩) (by obtain⟨_,_,y,_⟩:=C;exact⟨_,y⟩) (by obtain⟨_,_,y,_⟩:=A;exact⟨_,y⟩)
 have m:H c=none:=by
  cases q:H c with
  |none=>rfl
  |some o=>
   have q':cY H ea T c=some o:=by
    rcases qf (H:=H) (ea:=ea) (T:=T) (b:=c) with⟨_,z⟩|⟨_,_,y⟩
    ·rcases z with z|z
     ·exact absurd z g
     ·rw[z,F.ft] at q;cases q
    ·rw[y];exact q
   obtain⟨ob,a⟩:=(I.hok c o q').here;rw[j] at a;cases a
 exact⟨c,⟨C,A,g,F.fe,m⟩,I2⟩
theorem GF{T:Addr}{s:Shared}{M:Model}(F:ip H s.heap ea T cls dx)(I:Inv X aW τ (cY H ea T) s)
  (h:∀e,ip H e.heap ea T cls dx->Inv X aW τ (cY H ea T) e->Q () e):wpAny M A (setFlight (.ref ea) none) Q E' s:=by
 refine BO (fs:=eW X.stack) F.r F.t F.ne λk d j f=>?_
 have g:cY H ea T T=some HX:=by unfold cY;rw[ca F.ne,fh]
 have i:∀b,cY H ea T b≠some HX->b∉[T]:=λb h z=>by
  rw[bX] at z;subst z;exact h g
 refine h _ ⟨j,f,F.ne,F.fe,F.ft⟩ (I.flew (h':=k) (H:=H) (ea:=ea) (T:=T) (λb=>?_) (λb a=>.inr ?_) (λb o a c q=>d.keep b o (i b a) c q) (λb o a c q=>d.slot b o (i b a) c q) (λb o q=>?_) (by obtain⟨_,_,y,_⟩:=j;exact⟨_,y⟩) (by obtain⟨_,_,y,_⟩:=f;exact⟨_,y⟩))
 ·rcases qf (H:=H) (ea:=ea) (T:=T) (b:=b) with⟨y,z⟩|⟨_,_,y⟩
  ·exact .inr ⟨y,by rcases z with rfl|rfl<;>first|exact F.fe|exact F.ft⟩
  ·exact .inl y
 ·rcases a with rfl|rfl
  ·unfold cY;rw[fh]
  ·exact g
 ·by_cases a:b∈[T]
  ·rw[bX] at a;subst a
   obtain⟨_,_,y,_⟩:=f;exact⟨_,y⟩
  ·by_cases c:b∈eW X.stack
   ·obtain⟨m,l⟩:=d.slot b _ a c q;exact⟨_,l⟩
   ·exact⟨_,d.keep b _ a c q⟩
def pT(P:Program) (w:World):rV:=λa H s E e b=>∃c T C f d,e=.ref c/\b.os=s.os/\AllBare b.gens/\Un (eW a) [] H (cY d c T) s.heap b.heap/\ff P w (cY d c T) b.heap/\ip d b.heap c T (.ref C) f/\E (.ref C) f d
def kI(X:Cx) (R:St->Value->Option Addr->Hp->Prop):Prop:=∀(d:List (Addr×Obj)) (c:St) (H:Hp) (a T C:Addr) (b:Option Addr) (s:Shared),ip H s.heap a T (.ref C) b->Inv X d c (cY H a T) s->R c (.ref C) b H->X.xe (.ref a) s
def pR(X:Cx) (R:St->Value->Option Addr->Hp->Prop):Prop:=∀(f:List (Addr×Obj)) (e:St) (H:Hp) (c C:Addr) (d:Option Addr) (a s:Shared),Inv X f e H a->(∀b o,a.heap.get? b=some o->s.heap.get? b=some o)->s={a with heap:=s.heap,toks:=s.toks}->a.heap.get? c=none->oQ s.heap c (.ref C) d .none->R e (.ref C) d H->X.xe (.ref c) s
section
variable {P:Program}{w:World}{K:Fg}{mg:Str->Option Value}{base:Heap}{N:List Str}{qual:Str}{scope:Scope}{f:Addr}{cd:Value}{A:Around}{outer:List Env}{s₀:Shared}{H₀:Hp}{E:XK}
theorem AY:kI (dW (pT P w) P w K mg base N qual scope f cd A outer s₀ H₀ E) (λ_ c b H=>E c b H):=by
 intro l n H e T C b s F I i;show wpAny _ _ (leaving _ _) _ _ s;unfold leaving;refine am (bp (M5 rfl rfl F I) λ_ m g=>bp (g _ _) λ_ k d=>?_);obtain⟨j,h,a⟩:=d;exact⟨e,j,C,b,H,rfl,a.os,a.bare,a.base,a.hok,h,i⟩
theorem yx:pR (dW (pT P w) P w K mg base N qual scope f cd A outer s₀ H₀ E) (λ_ c v H=>E c v H):=by
 intro aW τ H ea C v j s I e G m r R;have X:s.heap.FunFrames base (dW (pT P w) P w K mg base N qual scope f cd A outer s₀ H₀ E).stack:=I.stack.of_keeps λb o q _=>⟨o,e b o q,rfl⟩
 show wpAny _ _ (leaving _ _) _ _ s;unfold leaving;refine am (Qg (base:=base) I.ok.frames X rfl r λh1 i r1 S=>?_);have oe:∃o,s.heap.get? ea=some o:=by obtain⟨_,_,q,_⟩:=r;exact⟨_,q⟩
 have h:s.heap.objs.size≠ea:=by
  obtain⟨_,q⟩:=oe;exact cb (ef (bR q))
 have n:j.heap.get? s.heap.objs.size=none:=by
  cases q:j.heap.get? s.heap.objs.size with
  |none=>rfl
  |some o=>exact absurd (bR (e _ _ q)) (nX _)
 refine BO (fs:=eW (dW (pT P w) P w K mg base N qual scope f cd A outer s₀ H₀ E).stack) r1 S h λY l Q J=>?_
 have a:∀b o,j.heap.get? b=some o->b∉[ea]/\b∉[s.heap.objs.size]:=λb o q=>by
  refine⟨λz=>?_,λz=>?_⟩
  ·rw[bX] at z;subst z;rw[m] at q;cases q
  ·rw[bX] at z;subst z;rw[n] at q;cases q
 have k:=I.flew (h':=Y) (H:=H) (ea:=ea) (T:=s.heap.objs.size) (λb=>.inl rfl) (λb p=>by
   rcases p with rfl|rfl
   ·exact .inl m
   ·exact .inl n) (λb o _ d q=>l.keep b o (a b o q).2 d (i.keep b o (a b o q).1 d (e b o q))) (λb o _ d q=>by
   obtain⟨U,u⟩:=i.slot b o (a b o q).1 d (e b o q);obtain⟨g,t⟩:=l.slot b _ (a b o q).2 d u;exact⟨g,t⟩) (λb o q=>by
   by_cases d:b∈eW (dW (pT P w) P w K mg base N qual scope f cd A outer s₀ H₀ E).stack
   ·obtain⟨U,u⟩:=i.slot b o (a b o q).1 d (e b o q);obtain⟨g,t⟩:=l.slot b _ (a b o q).2 d u;exact⟨_,t⟩
   ·exact⟨_,l.keep b o (a b o q).2 d (i.keep b o (a b o q).1 d (e b o q))⟩) (by obtain⟨_,_,y,_⟩:=Q;exact⟨_,y⟩) (by obtain⟨_,_,y,_⟩:=J;exact⟨_,y⟩)
 have x:∀b,j.heap.get? b=none->H b=none:=λb p=>by
  cases q:H b with
  |none=>rfl
  |some o=>obtain⟨ob,z⟩:=(I.hok b o q).here;rw[p] at z;cases z
 refine⟨ea,s.heap.objs.size,C,v,H,rfl,?_,?_,k.base,k.hok,⟨Q,J,h,x _ m,x _ n⟩,R⟩
 ·show s.os=_;rw[G];exact k.os
 ·show AllBare s.gens;rw[G];exact k.bare
end
noncomputable def rF:List Value:=[.type "ValueError",.type "Exception",.type "BaseException",.type "object"]
def mw(K:Fg) (x:Str) (C:Addr):Prop:=W.nsIn K mainGlobals x=some (some (.ref C))/\W.excIn K C rF "ValueError.__new__"=true
theorem GA{K:Fg}(X:K.In h)(G:h.Ns mainGlobals mg)(e:mw K x C):OwnCls x C rF "ValueError.__new__" mg h:=by
 obtain⟨k,q⟩:=e;refine⟨jY X G k,?_⟩;unfold W.excIn at q;cases hl:K.lookup C with
 |none=>rw[hl] at q;cases q
 |some o=>
  rw[hl] at q;split at q
  ·next _ dd cd sl ho=>
   obtain rfl:=eg ho;split at q
   ·next _ _ C' bm k0 k1 k2 k3 n k5 hm hs=>
    simp only[eh,jX,sM] at q;obtain⟨⟨⟨⟨⟨d,f⟩,c⟩,g⟩,a⟩,b⟩:=q;obtain⟨u,w,j,v,s,p,t,sub,r,m,i⟩:=cd;dsimp only at hm c a b;obtain⟨l⟩:=sl;dsimp only at hs;subst d f c hm hs;exact⟨_,_,_,_,_,_,_,_,_,_,_,_,_,_,_,_,_,X _ _ hl,.of_isNs (W.isNs_of_in X a),W.nsMap_none_of_in X a b,W.tail_of_in X g⟩
   ·cases q
  ·cases q
theorem GL{s:Shared}{K:Fg}(k:K.In s.heap)(t:s.heap.get? a=some o)(n:o.cls=.ref C)(e:W.kitOne K (.ref C) c=some true)(h:Q (.bool true) s):
  wpAny (model b w) A (call (.builtin "isinstance") [.ref a,c]) Q E s:=by
 refine call_isinstance (S:=λ_ R i=>i=s/\R (.ok (.ret (.bool true))) s) (λb w A R i l=>isinstance_outer ?_ (by intro z;cases z)) ⟨rfl,h⟩;obtain⟨rfl,f⟩:=l;obtain⟨j,g,d,u,os⟩:=i;have LT:W.Looks (model b w) j (typeOf (.ref a)) (.ref C):=n ▸ (W.Looks.ld t).andThen .now
 unfold W.kitOne at e;unfold Builtin.«isinstance.nested»;refine am (LT.at ?_);split at e
 ·next q=>
  rw[if_pos q]
  first
   |exact am (kt f)
   |exact am (kt (ba f))
 ·next q=>
  rw[if_neg q];obtain⟨r,p,m⟩:=W.kit_cls (M:=model b w) k e;refine am (r.at ?_);rw[if_pos '"']
  k_delta "plainIsInstance"
  refine am (am (p.at ?_));simp only[Bool.not_true,ku,gS];refine am ((show W.Looks (model b w) j (isInstance (.ref a) c) true from LT.andThen m).at ?_)
  first
   |exact ba (ba f)
   | (simp only[f5];first|exact ba (ba f)|exact ba f)
def Mf(K:Fg) (d:List V) (H:Hp) (Q:VK):Prop:=∃a o C c b,d=[.ref a,c]/\RelV c b/\(∀u,RelV c u->u=b)/\H a=some (.frz o HX)/\o.cls=.ref C/\W.kitOne K (.ref C) b=some true/\Q (.bl true) H
theorem HR:bu X (.builtin "isinstance") (Mf X.K):=by
 intro n s j H l k Q I r h;obtain⟨a,o,C,c,p,rfl,_,g,i,d,e,q⟩:=h;obtain⟨u,m,rfl,f,b⟩:=vals2 r;obtain rfl:=g _ b;cases(show u=Value.ref a from f);exact GL I.kIn (I.hok a _ i).1 d e ⟨.bl true,H,I,rfl,q⟩
abbrev Cx.tryc(X:Cx) (E:Value->Shared->Prop) (pn:List (Addr×Obj)):Cx:={X with xe:=E,pn:=X.pn++pn}
abbrev Cx.caught(X:Cx) (e:Value):Cx:={X with A:=X.A.mark (some e),calm:=false,xe:=λ_ _=>False}
theorem Cx.Ok.tryc{X:Cx}(a:X.Ok):(X.tryc E aW).Ok:=⟨a.mod,a.kind,a.glob,a.blt,a.above,a.inj,a.has,a.cab,a.hd,a.frames,a.stk,a.exf,a.bs,a.bsz,a.noex,a.exfs,a.funs,a.frf⟩
theorem Cx.Ok.untryc{X:Cx}(a:(X.tryc E aW).Ok):X.Ok:=⟨a.mod,a.kind,a.glob,a.blt,a.above,a.inj,a.has,a.cab,a.hd,a.frames,a.stk,a.exf,a.bs,a.bsz,a.noex,a.exfs,a.funs,a.frf⟩
theorem Cx.Ok.caught{X:Cx}(a:X.Ok):(X.caught e).Ok:=⟨a.mod,a.kind,a.glob,a.blt,a.above,a.inj,a.has,a.cab,(λz=>Bool.noConfusion (show false=true from z)),a.frames,a.stk,a.exf,a.bs,a.bsz,a.noex,a.exfs,a.funs,a.frf⟩
theorem Inv.tryc(I:Inv X aW σ H s):Inv (X.tryc E aW) [] σ H s:=⟨I.ok.tryc,I.os,I.bare,I.base,I.loc,I.cell,I.free,I.freeC,λp a=>I.pin p (by rw[fE] at a;exact a),I.hok,I.len,I.hnd⟩
theorem Inv.untryc{X:Cx}(I:Inv (X.tryc E aW) pins' σ H s):Inv X aW σ H s:=⟨I.ok.untryc,I.os,I.bare,I.base,I.loc,I.cell,I.free,I.freeC,λp a=>I.pin p (ra _ a),I.hok,I.len,I.hnd⟩
theorem Inv.caught(I:Inv X aW σ H s)(a:oV (X.A.mark (some e)) H):Inv (X.caught e) aW σ H s:=⟨I.ok.caught,I.os,I.bare,I.base,I.loc,I.cell,I.free,I.freeC,I.pin,I.hok,I.len,a⟩
theorem Inv.uncaught{X:Cx}(a:X.Ok)(b:X.calm=true)(I:Inv (X.caught e) aW σ H s):Inv X aW σ H s:=⟨a,I.os,I.bare,I.base,I.loc,I.cell,I.free,I.freeC,I.pin,I.hok,I.len,oV.none (a.hd b)⟩
theorem SP.untryc{X:Cx}{D:fD}(h:SP (X.tryc E aW) pins' D f s):SP X aW D f s:=by
 cases f with
 |next=>obtain⟨a,b,I,q⟩:=h;exact⟨a,b,I.untryc,q⟩
 |brk=>obtain⟨a,b,I,q⟩:=h;exact⟨a,b,I.untryc,q⟩
 |cont=>obtain⟨a,b,I,q⟩:=h;exact⟨a,b,I.untryc,q⟩
 |ret u=>obtain⟨v,a,b,I,r,q⟩:=h;exact⟨v,a,b,I.untryc,r,q⟩
theorem Inv.forget{g:Heap}(I:Inv X aW σ H s)(A:g.Ns X.env.locals m)(r:Heap.SameBut X.env.locals s.heap g):Inv X aW (σ.map λ_=>none) H {s with heap:=g,toks:=t'}:=by
 have e:∀b o,b≠X.env.locals->s.heap.get? b=some o->g.get? b=some o:=λb o n q=>by rw[r.2 b n];exact q
 have h:∀b o,X.s₀.heap.get? b=some o->b≠X.env.locals:=λb o q=>ef (cD (bR q) I.ok.above)
 have j:∀b u,H b=some u->b≠X.env.locals:=λb u q z=>by rw[z,I.free] at q;cases q
 refine⟨I.ok,I.os,I.bare,⟨λb o q n f x=>e b o (h b o q) (I.base.keep b o q n f x),λb o q n f x=>?_,I.base.free,λb o q x=>?_,I.base.tups,I.base.frzs,I.base.tbls⟩,⟨m,A,λi x v _ q _=>?_⟩,λx c q=>?_,I.free,I.freeC,λp w=>?_,λb u q=>?_,by rw[ax];exact I.len,I.hnd⟩
 ·obtain⟨t,z⟩:=I.base.slot b o q n f x;exact⟨t,e b _ (h b o q) z⟩
 ·obtain⟨l,z⟩:=I.base.there b o q x;exact⟨l,e b _ (h b o q) z⟩
 ·rw[dm] at q;cases z:σ[i]?<;>rw[z] at q<;>cases q
 ·obtain⟨v,o,y,k⟩:=I.cell x c q;exact⟨v,o,e c o (I.cne x c q) y,k⟩
 ·obtain⟨a,b,c,d⟩:=I.pin p w;exact⟨e _ _ c a,b,c,d⟩
 ·exact(I.hok b u q).stay (λc v hc z=>e c v (by rcases hc with rfl|hc;exact j _ _ q;exact j _ _ hc) z) (λ_ z=>z) λ_ _ z=>z
def RH(K:Fg) (B:Addr) (i:Nat) (d:TS) (rt:VK):St->Value->Option Addr->Hp->Prop:=λf a e H=>W.exmOne K a (.ref B)=some true /\
 ∀b T o,H b=none->H T=none->T≠b->o.cls=a->o.dict=e->(∃c,o.data=.fields c/\c[2]?=some .none)->d {nx:=λ_ _=>False,rt:=rt} (f.set i (some (.ref b))) (aD (aD H T HX) b (.frz o HX))
section
variable {X:Cx}{body:List Stmt}{x:Str}{n:Str}{B:Addr}{i:Nat}{b0:Stmt}{suite:List Stmt}{xp:Pos}{hp:Pos}{pos:Pos}{tb:(St->Value->Option Addr->Hp->Prop)->TS}{ts:TS}
theorem FG(hc:X.calm=true)(au:X.stack=X.env::X.outer)(fr:X.env.frame=some X.env.locals)(hN:X.N.Nodup)(hi:X.N[i]?=some n)(k:X.env.kindOf n=some .local)(hg:Gl X x)(hB:W.nsIn X.K mainGlobals x=some (some (.ref B)))
  (hb:∀(R:St->Value->Option Addr->Hp->Prop) (E:Value->Shared->Prop) (S:List (Addr×Obj)),kI (X.tryc E S) R->io (X.tryc E S) body (tb R))(hs:∀ e,io (X.caught e) (b0::suite) ts)(hd:(x==("__debug__" : Str))=false:=by decide):
  PS X (.Try body [.ExceptHandler (some (.Name x xp)) (some n) (b0::suite) hp] [] [] pos) (λD p H=>tb (RH X.K B i ts D.rt) D p H):=by
 intro g s p H D I h;have Q:=I.ok;refine wpAny_Try_except ?_;refine hX (hb _ (λe P=>wpAny (model X.prog X.w) X.A (noteFrame e X.env) (λ_ s2=>wpAny (model X.prog X.w) X.A (setFlight e none) (λ_ r=>wpAny (model X.prog X.w) X.A (handleBy e X.env [.ExceptHandler (some (.Name x xp)) (some n) (b0::suite) hp]) (SP X g D) X.xe r) X.xe s2) X.xe P) g ?_ [] s p H D I.tryc h) (λf P q=>?_) λ_ _ q=>q
 rotate_left
 ·cases f with
  |next=>obtain⟨c,y,A,q'⟩:=q;exact ww ⟨c,y,A.untryc,q'⟩
  |brk=>exact SP.untryc q
  |cont=>exact SP.untryc q
  |ret u=>exact SP.untryc q
 intro w τ y b T C dx s' F A G;obtain⟨hm,G⟩:=G;refine bp (M5 au fr F A.untryc) λ_ s2 h2=>bp (h2 X.A X.xe) λ_ r j=>?_
 obtain⟨Y,F1,a⟩:=j;refine wpAny_handleBy_cons (codeAny_handlers_test ?_) (by intro z;cases z);refine LK a.ok.kind hg (Calls.loadGlobal_global (by rw[a.ok.glob];exact a.mod.glob.keeps a.bk) (jY a.mod.kin a.mod.glob hB) ?_) hd;obtain⟨h3,g3,d3,t3,a0⟩:=r;obtain⟨oe,vs,r1,r2,r3,r4,r5,r6⟩:=id F1.r;refine(W.exm_one (M:=model X.prog X.w) a.kIn (r2 ▸ (W.Looks.ld r1).andThen .now) hm).at ?_;rw[if_pos rfl];refine codeAny_handlers_suite_as ?_;refine GF F1 a λs4 d I4=>?_
 obtain⟨o,ws,t,q2,q3,U,q5,q6⟩:=id d.r;have I5:Inv X g τ (aD (aD y Y HX) b (.frz o HX)) s4:=by
  have z:=I4.write (h':=s4.heap) (t':=s4.toks) (x:=b) (e:=b) (o:=.frz o HX) (by unfold cY;rw[fh];trivial) (.inl rfl) (λ_ _ _ q=>q) ⟨_,t⟩ ⟨t,nF ⟨_,t⟩⟩;unfold cY at z;rw[HC] at z;exact z
 refine yu (v:=.ref b) I5 hN hi (.inl k) rfl (λs5 I6=>?_) (.inr k);refine hX (hs (.ref b) g s5 _ _ _ (I6.caught λv z=>⟨b,o,(eg z).symm,fh,ws,U,q6⟩) (G b Y o d.fe d.ft d.ne q2 q3 ⟨_,U,q6⟩)) (λf s6 q=>?_) λ_ _ z=>z.elim
 cases f with
 |next=>obtain⟨_,_,_,z⟩:=q;exact z.elim
 |brk=>obtain⟨_,_,_,z⟩:=q;exact z.elim
 |cont=>obtain⟨_,_,_,z⟩:=q;exact z.elim
 |ret u=>
  obtain⟨v,c,H6,J,rv,q⟩:=q;obtain⟨m,l,_⟩:=id J.loc;refine wpAny_nameGoes k l (by rw[Q.kind];rfl) λh7 m7 n7 s7=>?_
  exact⟨v,_,H6,(J.uncaught Q hc).forget n7 s7,rv,q⟩
end
end L2
namespace L2
namespace St
end St
end L2
namespace L2
open PySem.W PyProof.Rows Spec
namespace St
end St
end L2
namespace L2
open Spec PyProof.Rows PySem.W
end L2
namespace Dd
open L2 PyProof.Rows
end Dd
namespace L2
open Spec PyProof.Rows PySem.W
end L2
namespace Dd
open L2 PyProof.Rows
abbrev hL:=L2.St->Value->Option Addr->Hp->Prop
def SY(K:Fg) (c:Loc) (H:Hp) (x:fG) (C:Addr) (a:Option Addr):Prop:=W.nsIn K mainGlobals x.cls=some (some (.ref C)) /\
 ((x.at_=[]/\a=none)\/∃ i d b,x.at_=[i]/\a=some d/\H d=some (.frz b (.xd [("at",.int i)]))/\cV c d)
def jx(K:Fg) (e:Loc) (H:Hp) (c:aa) (x:fG) (R:XK):Prop:=∀a b C d,bj e H a b->bv K a c b->SY K a b x C d->R (.ref C) d b
theorem jx.ext{K:Fg}{f c:Loc}{H H1:Hp}{b:aa}{x:fG}{R:XK}(e:bj f H c H1)(h:jx K f H b x R):jx K c H1 b x R:=λd g C i a=>h d g C i (e.trans a)
def tX(K:Fg) (R:hL) (f:SE):TE:=λh H Q=>∃d e g,cm K d H e h/\bv K d g H/\((∃v a,f e g=.ok v a/\∀b c u,bj d H b c->bv K b a c->At K b c v u->Q u c)\/∃x a,f e g=.exc x a/\jx K d H a x (R h))
def LR(K:Fg) (R:hL) (f:SS):TS:=λE g H=>∃b c d,cm K b H c g/\bv K b d H/\((∃e a,f c d=.ok e a/\hU K b H a E e)\/∃x a,f c d=.exc x a/\jx K b H a x (R g))
structure JX (X:Cx) (R:hL) (e:Expr) (f:SE):Prop where out:PE X e (tX X.K R f)
structure tr (X:Cx) (R:hL) (s:Stmt) (f:SS):Prop where out:PS X s (LR X.K R f)
structure m4 (X:Cx) (R:hL) (s:List Stmt) (f:SS):Prop where out:io X s (LR X.K R f)
def bS{α:Type}(f:DS->aa->ar α):DS->aa->ar α:=λa b=>match f a b with
 |.exc _ _=>.stuck
 |r=>r
theorem oY{c:Type}{f:DS->aa->ar c}{a:DS}{b st':aa}{v:c}(h:bS f a b=.ok v st'):f a b=.ok v st':=by
 unfold bS at h;split at h
 ·cases h
 ·exact h
theorem AL{c:Type}{f:DS->aa->ar c}{b:DS}{d a:aa}{x:fG}(h:bS f b d=.exc x a):False:=by
 unfold bS at h;split at h
 ·cases h
 ·rename_i e;exact e x a h
theorem sD{d i:Type}{f:DS->aa->ar d}{g:d->aa->ar i}{b:DS}{c st':aa}{x:fG}(h:(bS f b c).bind g=.exc x st'):∃v a,f b c=.ok v a/\g v a=.exc x st':=by
 cases e:bS f b c with
 |ok v a=>rw[e] at h;exact⟨v,a,oY e,h⟩
 |exc y w=>exact(AL e).elim
 |stuck=>rw[e] at h;cases h
def dH(P:Program) (w:World) (K:Fg) (l:Str->Option Value) (base:Heap) (x:Str) (k:Nat) (g:List Str) (F:cg):Prop:=
 ∃f i,fS P w K l base (pT P w) k f i g (λj H Q E=>∃d e h,ah K d H e j/\bv K d h H/\j.length=g.length/\((∃v a,F e h=.ok v a/\∀b c u,bj d H b c->bv K b a c->At K b c v u->Q u c)\/∃x a,F e h=.exc x a/\jx K d H a x E))/\Binds K i g []/\W.keepIn K (.ref f)=true/\l x=some (.ref f)
theorem o3{R:hL}(h:JB X body s):m4 X R body (bS s):=⟨tG h.out λE j H c=>by
 obtain⟨f,e,i,a,g,q⟩:=c;rcases q with⟨v,b,d,q⟩|⟨x,b,d,_⟩
 ·exact⟨f,e,i,v,b,a,g,oY d,q⟩
 ·exact(AL d).elim⟩
theorem xT{X:Cx}{R:hL}(c:dH X.prog X.w X.K X.mg X.base x k ps F)(hw:kI X R)(hn:∀ i au,i.length≠ps.length->F i au=.stuck)(hr:bP k X.A)(hg:Gl X x)(ha:JA X (e::es) g)(a2:(x==("__debug__" : Str))=false:=by decide)
  (he:starEach (e::es) X.env=(false,eval e X.env)::starEach es X.env:=by rfl)(a0:(backTo pos (starEach es X.env)).any (·.1)=false:=by rfl):JX X R (.Call (.Name x p) (e::es) [] pos) (aG F (bS g)):=by
 obtain⟨fa,fd,G,b,kp,m⟩:=c;refine⟨λaW s U H Q I ⟨ρ,σ,au,a,rp,h⟩=>?_⟩;obtain⟨i,f,P,h1⟩:∃i f,g σ au=.ok i f/\((∃v d,F i f=.ok v d/\∀l t u,bj ρ H l t->bv X.K l d t->At X.K l t v u->Q u t)\/∃x d,F i f=.exc x d/\jx X.K ρ H d x (R U)):=by
  rcases h with⟨v,d,P,q⟩|⟨x,d,P,q⟩
  ·obtain⟨i,f,e2,n⟩:=zd P;exact⟨i,f,oY e2,.inl ⟨v,d,n,q⟩⟩
  ·obtain⟨i,f,e2,n⟩:=sD P;exact⟨i,f,e2,.inr ⟨x,d,n,q⟩⟩
 refine zU (xV I hg m ?_ a2);refine Lo (h₀:=X.base) I.ok.mod.kin kp (bp (ha.out pos aW s U H (λE H1=>∃j,bj ρ H j H1/\bv X.K j f H1/\ah X.K j H1 i E) I ⟨ρ,σ,au,i,f,a,rp,P,λj H1 u Y w S=>⟨j,Y,w,S⟩⟩) λus s1 ⟨E,H1,y,r,j,Y,w,S⟩=>⟨y.kIn,?_⟩) he a0;have o:E.length=ps.length:=by
  rw[S.length];by_cases hl:i.length=ps.length
  ·exact hl
  ·rcases h1 with⟨v,d,n,_⟩|⟨x,d,n,_⟩<;>(rw[hn i f hl] at n;cases n)
 have r2:aq E (us++[]):=by rw[fE];exact r
 refine wpAny_call (wk (G.run X.A X.stack s1 H1 ⟨us,[]⟩ (us++[]) E Q (R U) hr y.env0 (b s1 us y.kIn (by rw[fE,←r.length];exact o)) r2 ⟨j,i,f,S,w,o,?_⟩) λr s' A=>?_)
 ·rcases h1 with⟨v,d,n,q⟩|⟨x,d,n,q⟩
  ·exact .inl ⟨v,d,n,λl t u x2=>q l t u (Y.trans x2)⟩
  ·exact .inr ⟨x,d,n,q.ext Y⟩
 ·cases r with
  |error er=>
   obtain⟨ea,T,C,dx,t,rfl,os,J,un,a3,Fl,hR⟩:=A;exact hw aW U t ea T C dx s' Fl (y.call' (ch:=[]) os un a3 J (λ_ z=>nomatch z)) hR
  |ok fl=>
   cases fl with
   |ret u=>exact y.after A
   |next=>exact False.elim A
   |brk=>exact False.elim A
   |cont=>exact False.elim A
theorem Gy{R:hL}(n:JX X R e f):tr X R (.Return (some e) pos) (ao f):=⟨jo (qH n.out) λE p H h=>by
 obtain⟨k,i,j,a,m,q⟩:=h;refine⟨k,i,j,a,m,?_⟩;rcases q with⟨o,d,b,q⟩|⟨x,d,b,q⟩
 ·obtain⟨v,g,c,l⟩:=zd b;cases l;exact .inl ⟨v,_,c,q⟩
 ·cases c:f i j with
  |ok v g=>unfold ao at b;rw[c] at b;cases b
  |exc y w=>unfold ao at b;rw[c] at b;cases b;exact .inr ⟨_,_,rfl,q⟩
  |stuck=>unfold ao at b;rw[c] at b;cases b⟩
theorem AH{X:Cx}{R:hL}{c:Pos}(t:X.N.Nodup)(p:X.N[i]?=some x)(z:L2.Loc X.env.scope x)(s:JX X R e f)(C:swapsWith e (some (.Name x pos')) c.line X.env=pure false:=by rfl)(G:X.fn x=true\/X.env.scope.names.lookup x=some .local:=by first|exact .inl rfl|exact .inr rfl|assumption):
  tr X R (.Assign [.Name x pos'] e c) (aH i f):=⟨jo (ve t p z s.out C G) λE P H j=>by
 obtain⟨A,m,n,a,r,q⟩:=j;refine⟨A,m,n,a,r,?_⟩;rcases q with⟨Q,k,b,q⟩|⟨x,k,b,q⟩
 ·obtain⟨v,g,d,J⟩:=zd b;cases J;exact .inl ⟨v,_,d,λI H1 u l h o=>q _ _ _ l h ((a.ext l).set o i)⟩
 ·cases d:f m n with
  |ok v g=>unfold aH at b;rw[d] at b;cases b
  |exc y w=>unfold aH at b;rw[d] at b;cases b;exact .inr ⟨_,_,rfl,q⟩
  |stuck=>unfold aH at b;rw[d] at b;cases b⟩
theorem tH{R:hL}(a:tr X R sm s):m4 X R [sm] s:=⟨AT a.out⟩
def S0(R:hL):Prop:=∀b a,R b=R a
section
variable {X:Cx}{R:hL}{sm:Stmt}{rest:List Stmt}{s:SS}{t:SS}{x:Str}
theorem p9(n:S0 R)(p:tr X R sm s)(m:m4 X R rest t):m4 X R (sm::rest) (aF s t):=⟨tG (Br p.out m.out) λE u H h=>by
 obtain⟨l,i,k,a,o,q⟩:=h;refine⟨l,i,k,a,o,?_⟩;cases e0:s i k with
 |stuck=>rcases q with⟨d,c,b,q⟩|⟨x,c,b,q⟩<;>(unfold aF at b;rw[e0] at b;cases b)
 |exc y w=>
  rcases q with⟨d,c,b,q⟩|⟨x,c,b,q⟩
  ·unfold aF at b;rw[e0] at b;cases b
  ·unfold aF at b;rw[e0] at b;cases b;exact .inr ⟨_,_,rfl,q⟩
 |ok d st1=>
  refine .inl ⟨d,st1,rfl,?_⟩;cases d with
  |nx σ1=>
   refine λf H1 e j g r=>⟨f,σ1,st1,r,g,?_⟩
   rcases q with⟨d,c,b,q⟩|⟨x,c,b,q⟩
   ·unfold aF at b;rw[e0] at b;exact .inl ⟨d,c,b,q.ext j⟩
   ·unfold aF at b;rw[e0] at b;exact .inr ⟨x,c,b,by rw[n e u];exact q.ext j⟩
  |brk σ1=>rcases q with⟨d,c,b,q⟩|⟨x,c,b,q⟩<;>(unfold aF at b;rw[e0] at b;cases b);exact q
  |ct σ1=>rcases q with⟨d,c,b,q⟩|⟨x,c,b,q⟩<;>(unfold aF at b;rw[e0] at b;cases b);exact q
  |ret v=>rcases q with⟨d,c,b,q⟩|⟨x,c,b,q⟩<;>(unfold aF at b;rw[e0] at b;cases b);exact q⟩
end
theorem nK{R:hL}(w:JT X c b)(A:m4 X R a' s)(y:m4 X R b' t):tr X R (.If c a' b' pos) (bU (bS b) s t):=⟨jo (qu w.out A.out y.out) λE p H m=>by
 obtain⟨n,f,u,a,z,q⟩:=m;obtain⟨v,e,k,q⟩:∃v e,b f u=.ok v e/\((∃g d,(if v=true then s f e else t f e)=.ok g d/\hU X.K n H d E g)\/∃x d,(if v=true then s f e else t f e)=.exc x d/\jx X.K n H d x (R p)):=by
  rcases q with⟨g,d,k,q⟩|⟨x,d,k,q⟩
  ·obtain⟨v,e,i,o⟩:=zd k;exact⟨v,e,oY i,.inl ⟨g,d,o,q⟩⟩
  ·obtain⟨v,e,i,o⟩:=sD k;exact⟨v,e,i,.inr ⟨x,d,o,q⟩⟩
 refine⟨n,f,u,v,e,a,z,k,λh H1 l j=>?_⟩;have r:((∃g d,(if v=true then s f e else t f e)=.ok g d/\hU X.K h H1 d E g)\/∃x d,(if v=true then s f e else t f e)=.exc x d/\jx X.K h H1 d x (R p)):=by
  rcases q with⟨g,d,i,q⟩|⟨x,d,i,q⟩
  ·exact .inl ⟨g,d,i,q.ext l⟩
  ·exact .inr ⟨x,d,i,q.ext l⟩
 cases v with
 |true=>exact ja ⟨h,f,e,a.ext l,j,r⟩
 |false=>exact jb ⟨h,f,e,a.ext l,j,r⟩⟩
def gG(K:Fg) (c:Loc) (H:Hp) (E:fD) (R:XK) (r:ar Fl):Prop:=(∃b a,r=.ok b a/\hU K c H a E b)\/∃x a,r=.exc x a/\jx K c H a x R
section
variable {x:Str}
theorem gG.ext{K:Fg}{c b:Loc}{H H1:Hp}{E:fD}{R:XK}{r:ar Fl}(e:bj c H b H1)(h:gG K c H E R r):gG K b H1 E R r:=by
 rcases h with⟨d,a,h,q⟩|⟨x,a,h,q⟩
 ·exact .inl ⟨d,a,h,q.ext e⟩
 ·exact .inr ⟨x,a,h,q.ext e⟩
end
theorem gG.stuck{K:Fg}{a:Loc}{H:Hp}{E:fD}{R:XK}(h:gG K a H E R .stuck):False:=by
 rcases h with⟨_,_,h,_⟩|⟨_,_,h,_⟩<;>cases h
theorem gG.okE{K:Fg}{b:Loc}{H:Hp}{E:fD}{R:XK}{fl:Fl}{a:aa}(h:gG K b H E R (.ok fl a)):hU K b H a E fl:=by
 rcases h with⟨_,_,h,q⟩|⟨_,_,h,_⟩
 ·cases h;exact q
 ·cases h
theorem gG.excE{K:Fg}{b:Loc}{H:Hp}{E:fD}{R:XK}{x:fG}{a:aa}(h:gG K b H E R (.exc x a)):jx K b H a x R:=by
 rcases h with⟨_,_,h,_⟩|⟨_,_,h,q⟩
 ·cases h
 ·cases h;exact q
def fK(c:Str) (g:SA):SS:=λb d=>(g b d).bind λe a=>if e.length<=sizeLine then .exc ⟨c,[]⟩ a else .stuck
section
variable {X:Cx}{R:hL}{e:Expr}{es:List Expr}{g:SA}{s:SS}{t:SS}{pos:Pos}{x:Str}{F:cg}
theorem yD{C:Addr}{S c:Pos}(hw:pR X R)(o:mw X.K x C)(A:X.calm=true)(hg:Gl X x)(ha:JA X (e::es) g)(P:(x==("__debug__" : Str))=false:=by decide)(U:starEach (e::es) X.env=(false,eval e X.env)::starEach es X.env:=by rfl)
  (j:(backTo c (starEach es X.env)).any (·.1)=false:=by rfl):tr X R (.Raise (some (.Call (.Name x S) (e::es) [] c)) none pos) (fK x (bS g)):=by
 refine⟨λG s n H E I ⟨r,p,z,a,T,q⟩=>?_⟩;obtain⟨h,b,f,hl,q⟩:∃h b,g p z=.ok h b/\h.length<=sizeLine/\jx X.K r H b ⟨x,[]⟩ (R n):=by
  rcases q with⟨fl,k,f,q⟩|⟨y,k,f,q⟩
  ·obtain⟨v,b,w,d⟩:=zd f;split at d<;>cases d
  ·obtain⟨v,b,w,d⟩:=sD f;split at d
   ·cases d;exact⟨v,_,w,by assumption,q⟩
   ·cases d
 refine IZ (GA I.mod.kin I.mod.glob o) F.excBase_ValueError '"' F.excBase_ValueError A hg ha.out P U j I ⟨r,p,z,h,b,a,T,f,λm H1 u Y i J=>⟨by rw[J.length];exact hl,λQ us h' ee I1 rv l=>?_⟩⟩;obtain⟨t,h1,h2,h3⟩:=l.there;exact hw G n H1 ee C none Q _ I1 l.keeps rfl l.new ⟨_,_,h1,rfl,rfl,rfl,rfl,rfl⟩ (q m H1 C none Y i ⟨o.1,.inl ⟨rfl,rfl⟩⟩)
end
def lS(i:Nat) (d:List Str) (b u:SS):SS:=λa c=>match b a c with
 |.exc x st1=>if x.cls∈d then(match u (a.set i (some (.exn x.cls x.at_))) st1 with
  |.ok (.ret v) st2=>.ok (.ret v) st2
  |_=>.stuck) else .stuck
 |r=>r
theorem HB{K:Fg}{B:Addr}{i:Nat}{Q:List Str}{u:SS}{E:fD}{s:Loc}{m:DS}{G:L2.St}{H:Hp}{b g:aa}{y:fG}{I:Fl}(t:∀c∈Q,∀C,W.nsIn K mainGlobals c=some (some (.ref C))->W.exmOne K (.ref C) (.ref B)=some true)(a:cm K s H m G)
  (e:(if y.cls∈Q then(match u (m.set i (some (.exn y.cls y.at_))) b with
  |.ok (.ret v) st2=>ar.ok (Fl.ret v) st2
  |_=>.stuck) else .stuck)=.ok I g) (q:hU K s H g E I):jx K s H b y (RH K B i (sX K u) E.rt G):=by
 split at e
 ·next hmem=>
  refine λk H1 C dx U f A=>⟨t _ hmem C A.1,λea T o h1 h h3 S P R=>?_⟩
  have l:aD H1 T HX ea=none:=by rw[ca h3.symm];exact h1
  have J:=U.trans ((bj.new h HX).trans (bj.new l (.frz o HX)));have z:=(f.new h HX).new l (.frz o HX);have oe:cV k ea:=tZ (f.new h HX) l;refine⟨k,m.set i (some (.exn y.cls y.at_)),b,?_⟩;cases e3:u (m.set i (some (.exn y.cls y.at_))) b with
  |stuck=>rw[e3] at e;cases e
  |exc _ _=>rw[e3] at e;cases e
  |ok fl2 st2=>
   rw[e3] at e;cases fl2 with
   |ret v=>
    cases e;refine⟨.ret v,_,(a.ext J).set (.exn ⟨C,o,A.1,⟨fh,oe⟩,S,R,?_⟩) i,z,rfl,λr H' w x3=>q r H' w (J.trans x3)⟩;rcases A.2 with⟨x,p⟩|⟨j,d,X,x,p,n,Y⟩
    ·exact .inl ⟨x,by rw[P,p]⟩
    ·refine .inr ⟨j,d,X,x,by rw[P,p],?_,Y⟩;rw[ca (zx (by rw[ca (zx n h)];exact n) l),ca (zx n h)];exact n
   |nx _=>cases e
   |brk _=>cases e
   |ct _=>cases e
 ·cases e
section
variable {X:Cx}{R:hL}{x:Str}
theorem Gx{i:Nat}{n:Str}{cs:List Str}(m:X.calm=true)(f:X.stack=X.env::X.outer)(l:X.env.frame=some X.env.locals)(z:X.N.Nodup)(t:X.N[i]?=some n)(o:X.env.kindOf n=some .local)(A:Gl X x)(s:W.nsIn X.K mainGlobals x=some (some (.ref B)))
  (h:∀c∈cs,∀C,W.nsIn X.K mainGlobals c=some (some (.ref C))->W.exmOne X.K (.ref C) (.ref B)=some true)
  (v:∀(R:hL) (E:Value->Shared->Prop) (d:List (Addr×Obj)),kI (X.tryc E d) R->m4 (X.tryc E d) R body b)(I:∀ e,JB (X.caught e) (P::suite) u)(p:(x==("__debug__" : Str))=false:=by decide):
  JS X (.Try body [.ExceptHandler (some (.Name x xp)) (some n) (P::suite) hp] [] [] pos) (lS i cs b u):=⟨jo (FG m f l z t o A s (tb:=λR=>LR X.K R b) (ts:=sX X.K u) (λR E d J=>(v R E d J).out) (λe=>(I e).out) p) λE Q H g=>by
 obtain⟨G,j,k,S,r,a,w,e,q⟩:=g;refine⟨G,j,k,a,w,?_⟩;unfold lS at e;cases e0:b j k with
 |stuck=>rw[e0] at e;cases e
 |ok fl1 st1=>rw[e0] at e;cases e;exact .inl ⟨_,_,rfl,q⟩
 |exc y st1=>
  rw[e0] at e
  exact .inr ⟨y,st1,rfl,HB h a e q⟩⟩
end
section
variable {P:Program}{w:World}{K:Fg}{mg:Str->Option Value}{base:Heap}{h:Heap}{x:Str}{au:Stmt}{N:List Str}{ps:List Str}{k:Nat}{b:SS}
theorem xS(T:ap K x au)(X:K.In h)(G:h.Ns mainGlobals mg)(S:ak N ps (af au))
  (bd:∀(kV m pm:Value) (J:Option Addr) (e ct:Value) (C:List Value),C.length=ps.length->bindArgs (W.fnOf x x (cf au) (bt au) (af au) .none kV m pm J e ct) ⟨C,[]⟩=pure (ps.zip C))
  (i:∀(f:Addr) (e:Value) (A:Around) (d:List Env) (s:Shared) (H:Hp) (E:XK),bP k (A.deeper (envOfC x (af au) s.heap.objs.size f e)) ->
   m4 (dW (pT P w) P w K mg base N x (af au) f e A d s H E) (λ_ c dx H=>E c dx H) (bt au) b):dH P w K mg base x (k+1) ps (bV N.length ps.length b):=by
 obtain⟨f,fd,a,F⟩:=T;refine⟨f,fd,?_,F.binds bd,F.kp,jY X G a⟩;obtain⟨oc,od,kV,m,pm,J,e,ct,a0,rfl,lk,o⟩:=F.ex;refine uk lk o S (λU H Q E h=>by obtain⟨_,_,_,_,_,n,_⟩:=h;exact n) λA d s H U Q E l v=>⟨_,(i f e A d s H E l).out,?_⟩
 obtain⟨R,p,j,Y,rp,n,q⟩:=v;have hd:p.length=ps.length:=by rw[←Y.length];exact n
 have as:cm K R H (p.map Option.some++List.replicate (N.length-ps.length) none) (L2.start N U):=by
  unfold L2.start;rw[n];exact Y.some.append (.nones _)
 unfold bV at q;rw[if_pos hd] at q;refine⟨R,_,j,as,rp,?_⟩;cases l:b (p.map Option.some++List.replicate (N.length-ps.length) none) j with
 |stuck=>rw[l] at q;rcases q with⟨_,_,z,_⟩|⟨_,_,z,_⟩<;>cases z
 |exc y w1=>
  rw[l] at q;rcases q with⟨_,_,z,_⟩|⟨_,_,z,q⟩
  ·cases z
  ·cases z;exact .inr ⟨_,_,rfl,q⟩
 |ok fl st2=>
  rw[l] at q;refine .inl ⟨fl,st2,rfl,?_⟩;cases fl with
  |ret w1=>rcases q with⟨_,_,z,q⟩|⟨_,_,z,_⟩<;>cases z;exact λg I u x r t=>q g I u x r t
  |nx σ=>rcases q with⟨_,_,z,q⟩|⟨_,_,z,_⟩<;>cases z;exact λg I τ x r t=>q g I .non x r .non
  |brk σ=>rcases q with⟨_,_,z,_⟩|⟨_,_,z,_⟩<;>cases z
  |ct σ=>rcases q with⟨_,_,z,_⟩|⟨_,_,z,_⟩<;>cases z
end
theorem sB(a:List D)(c:aa)(h:a.length≠np):bV n np b a c=.stuck:=by unfold bV;rw[if_neg h]
def jf(i:Nat) (d:List Str):SE:=λa b=>match a[i]? with
 |some (some (.exn c _))=>if c∈d then .ok (.bl true) b else .stuck
 |_=>.stuck
theorem uJ{cs:List Str}(z:Gl X "isinstance")(k:X.mg "isinstance"=none)(s:PE X (.Name n p1) (lO i))(g:PE X (.Name d p2) (tC dv))(r:RelV dv cv)(t:∀ u,RelV dv u->u=cv)
  (w:∀ c∈cs,∀ C,W.nsIn X.K mainGlobals c=some (some (.ref C))->W.kitOne X.K (.ref C) cv=some true):JE X (.Call (.Name "isinstance" p) [.Name n p1,.Name d p2] [] pos) (jf i cs):=
 ⟨eI (Ng HR z k kP (se s (se g nO))) λJ H Q f=>by
  obtain⟨G,E,I,v,j,a,x,e,q⟩:=f;unfold jf at e;split at e
  ·next c l hi=>
   split at e
   ·next hc=>
    cases e;obtain⟨u,y,b⟩:=a.get hi;cases b with
    |exn b=>
     obtain⟨C,o,h,A,m,_⟩:=b;exact⟨_,y,_,o,C,dv,cv,rfl,r,t,A.1,m,w c hc C h,q _ _ _ (.refl _ _) x (.bl true)⟩
   ·cases e
  ·cases e⟩
theorem qA{K:Fg}{P:Addr->Prop}:∀c∈([]:List Str),∀C,W.nsIn K mainGlobals c=some (some (.ref C))->P C:=λ_ h=>nomatch h
theorem AF{K:Fg}{P:Addr->Prop}{c:Str}{d:List Str}{b:Addr}(h:W.nsIn K mainGlobals c=some (some (.ref b)))(p:P b)(r:∀c∈d,∀C,W.nsIn K mainGlobals c=some (some (.ref C))->P C):
  ∀a∈c::d,∀C,W.nsIn K mainGlobals a=some (some (.ref C))->P C:=λa hc C e=>by
 rcases ce.mp hc with rfl|hc
 ·rw[h] at e;cases e;exact p
 ·exact r a hc C e
end Dd
namespace L2
open Spec PyProof.Rows
end L2
namespace Dd
open L2 PyProof.Rows
end Dd
namespace L2
open Spec PyProof.Rows
end L2
namespace Dd
open L2 PyProof.Rows
end Dd
namespace L2
open Spec PyProof.Rows
end L2
namespace Dd
open L2 PyProof.Rows
end Dd
namespace L2
open Spec PyProof.Rows
end L2
namespace L2
open Spec PyProof.Rows Builtin Builtin.ObjectAttr
end L2
namespace L2
open Spec PyProof.Rows
end L2
namespace Dd
open L2 PyProof.Rows
end Dd
namespace L2
open Spec PyProof.Rows
end L2
namespace Dd
open L2 PyProof.Rows
end Dd
namespace L2
open Spec PyProof.Rows
end L2
namespace Dd
open L2 PyProof.Rows
end Dd
namespace L2
open Spec PyProof.Rows
theorem NY:∀{d:List Str}{c:List Value},aq (d.map V.str) c->∃l:List (Str×Tok),c=strValues l/\l.map (·.1)=d
 |[],_,h=>by cases h;exact⟨[],rfl,rfl⟩
 |x::d,_,h=>by
  cases h with
  |cons a b=>
   obtain⟨l,rfl,e⟩:=NY b;obtain⟨t,rfl⟩:=(show ∃t,_=Value.str x t from a)
   exact⟨(x,t)::l,rfl,by rw[dr,e]⟩
def w8(K:Fg):V->List V->Hp->VK->Prop:=λx c H Q=>∃(a:Str) (l:Addr) (b:List Str),x=.str a/\c=[.ref l]/\cp K H l (b.map V.str)/\JoinOk a b=true/\Q (.str (Txt.join a b)) H
theorem GQ: rS X "str.join" (w8 X.K):=by
 intro z s n H x p v o Q I c j h;obtain⟨b,l,w,rfl,rfl,m,a,q⟩:=h;obtain⟨t,rfl⟩:=c;obtain⟨u,rfl,f⟩:=j.one;cases(show u=Value.ref l from f);obtain⟨g,r,d,_⟩:=I.list m;obtain⟨y,rfl,e⟩:=NY r;exact SC.join d.isList e a λi k=>⟨.str _,H,I.tok k,⟨i,rfl⟩,q⟩
end L2
namespace Dd
open L2 PyProof.Rows
noncomputable def fP:List D->Option (List Str)
 |[]=>some []
 |.str x::ds=>(fP ds).map (x::·)
 |_::_=>none
theorem Ny{K:Fg}{g:Loc}{H:Hp}:∀{f:List D}{b:List V}{c:List Str},ah K g H f b->fP f=some c->b=c.map V.str
 |[],b,c,a,h=>by cases h;cases a;rfl
 |d::f,b,c,a,h=>by
  unfold fP at h;split at h
  ·rename_i e;cases e
  ·rename_i x j e;cases e;obtain⟨i,e,rfl⟩:=fH.mp h;cases a with
   |cons a1 a2=>cases a1;rw[Ny a2 e];rfl
  ·cases h
def dS(f:SE) (g:SA):SE:=λc e=>(f c e).bind λx b=>match x with
 |.str sep=>(g c b).bind λd a=>match d with
  |[.lst ds]=>match fP ds with
   |some ts=>if JoinOk sep ts=true then .ok (.str (Txt.join sep ts)) a else .stuck
   |none=>.stuck
  |_=>.stuck
 |_=>.stuck
section
variable {X:Cx}{o:Expr}{e:Expr}{es:List Expr}{f:SE}{ga:SA}{apos:Pos}{cpos:Pos}
theorem p0(I:JE X o f)(U:JA X (e::es) ga)(c:attributeBase o "join" X.env (eval o X.env)=eval o X.env:=by rfl)
  (h:((backTo cpos (starEach (e::es) X.env)).all (λx=>!x.1)&&(backToKw cpos (keywordEach [] X.env)).all (λx=>x.1.isSome)
   && decide ((e::es).length+([]:List Keyword).length+(if([]:List Keyword).isEmpty then 0 else 1)<30))=true:=by rfl)
  (d:(apos.endLine==cpos.line)=true:=by rfl)(P:starEach (e::es) X.env=(false,eval e X.env)::starEach es X.env:=by rfl)(b:(backTo cpos (starEach es X.env)).any (·.1)=false:=by rfl):
  JE X (.Call (.Attribute o "join" apos) (e::es) [] cpos) (dS f ga):=⟨eI (ls Af F.slot_str_join F.type_str_join GQ I.out U.out c h d P b) λτ H Q j=>by
 obtain⟨J,r,au,v,A,a,G,e,q⟩:=j;obtain⟨x,g,Y,e⟩:=zd e;refine⟨J,r,au,x,g,a,G,Y,λl H1 u p i t=>?_⟩;split at e
 ·rename_i k;obtain⟨s,n,e2,e⟩:=zd e;cases t;refine⟨rfl,l,r,g,s,n,a.ext p,i,e2,λE H2 ws R m y=>?_⟩;split at e
  ·rename_i ds;split at e
   ·rename_i C z;split at e
    ·rename_i S;cases e;obtain⟨w,rfl,T⟩:=y.one;cases T with
     |lst k1 k2 k3=>
      have e:=Ny k3 z;subst e;exact⟨k,_,C,rfl,rfl,cp.of k1,S,q _ _ _ (p.trans R) m (.str _)⟩
    ·cases e
   ·cases e
  ·cases e
 ·cases e⟩
end
end Dd
namespace L2
open Spec PyProof.Rows
end L2
namespace Dd
open L2 PyProof.Rows
end Dd
namespace L2
open Spec PyProof.Rows
end L2
namespace Dd
open L2 PyProof.Rows
end Dd
namespace L2
open Spec PyProof.Rows
end L2
namespace Dd
open Spec PyProof.Rows L2
end Dd
namespace L2
open Spec PyProof.Rows PySem.W
end L2
namespace Dd
open Spec PyProof.Rows L2
end Dd
namespace Dd
open L2 PyProof.Rows
end Dd
namespace L2
open Spec PyProof.Rows PySem.W
end L2
namespace Dd
open L2 PyProof.Rows
end Dd
namespace L2
open Spec PyProof.Rows
theorem Om:typeLookup (.type "str") "__int__"=pure none:=by rw[typeLookup_type,Lu]; kernel_rfl
theorem OZ:typeLookup (.type "str") "__index__"=pure none:=by rw[typeLookup_type,Lu]; kernel_rfl
theorem O0:typeLookup (.type "str") "__trunc__"=pure none:=by rw[typeLookup_type,Lu]; kernel_rfl
theorem gc(a:e<10):e=0\/e=1\/e=2\/e=3\/e=4\/e=5\/e=6\/e=7\/e=8\/e=9:=by lia
theorem Rg(c d:Nat)(e:c<10)(b:d<10)(u:Tok):Meets (Builtin.«int.__new__» ⟨[.type "int",.str ⟨#[48 + c,48 + d]⟩ u],[]⟩) (Made.int ((10*c + d:Nat):Int)).spec:=
 Meets.of_wp λj w A R s o=>by
  obtain⟨p,g,r,m,os⟩:=s;have q:=F.conv_sub_int;have z:=F.madeHere_int;have n:(⟨p,g,r,m,os⟩:Shared).TypeIs (.str ⟨#[48 + c,48 + d]⟩ u) "str":=rfl
  have y:=Om;have l:=OZ;have v:=O0
  repeat (any_goals (first|assumption|wp_step))
  have h:((⟨#[48+c,48+d]⟩:Str).cps.all λx=>decide (x<128))=true:=by simp;lia
  have k:(if((⟨#[48+c,48+d]⟩:Str).cps.all λx=>decide (x<128))=true then(⟨#[48+c,48+d]⟩:Str).cps.toList else Unicode.numberText (⟨#[48+c,48+d]⟩:Str).cps.toList)=[48+c,48+d]:=by rw[if_pos h]
  rw[k];have f:List.takeWhile (λx=>x != 0) [48+c,48+d]=[48+c,48+d]:=by simp
  rw[f,if_pos '&'];refine am (ba ?_);clear q z n y l v h k f;dsimp only;split
  ·rename_i a
   exfalso
   rcases gc e with rfl|rfl|rfl|rfl|rfl|rfl|rfl|rfl|rfl|rfl<;>rcases gc b with rfl|rfl|rfl|rfl|rfl|rfl|rfl|rfl|rfl|rfl<;>cases a
  ·rename_i a
   exfalso
   rcases gc e with rfl|rfl|rfl|rfl|rfl|rfl|rfl|rfl|rfl|rfl<;>rcases gc b with rfl|rfl|rfl|rfl|rfl|rfl|rfl|rfl|rfl|rfl<;>cases a
  ·rename_i i a;have t:i=((10*c+d:Nat):Int):=by
    rcases gc e with rfl|rfl|rfl|rfl|rfl|rfl|rfl|rfl|rfl|rfl<;>rcases gc b with rfl|rfl|rfl|rfl|rfl|rfl|rfl|rfl|rfl|rfl<;>(cases a;rfl)
   subst t;rw[if_pos '&']
   repeat (any_goals (first|assumption|wp_step))
   all_goals first|exact⟨_,rfl,o⟩|skip
  ·rename_i a
   exfalso
   rcases gc e with rfl|rfl|rfl|rfl|rfl|rfl|rfl|rfl|rfl|rfl<;>rcases gc b with rfl|rfl|rfl|rfl|rfl|rfl|rfl|rfl|rfl|rfl<;>cases a
theorem Rf(c:Nat)(b:c<10)(u:Tok):Meets (Builtin.«int.__new__» ⟨[.type "int",.str ⟨#[48 + c]⟩ u],[]⟩) (Made.int (c:Int)).spec:=
 Meets.of_wp λf w A R s m=>by
  obtain⟨n,g,p,k,os⟩:=s;have o:=F.conv_sub_int;have v:=F.madeHere_int;have l:(⟨n,g,p,k,os⟩:Shared).TypeIs (.str ⟨#[48 + c]⟩ u) "str":=rfl
  have t:=Om;have j:=OZ;have r:=O0
  repeat (any_goals (first|assumption|wp_step))
  have e:((⟨#[48+c]⟩:Str).cps.all λx=>decide (x<128))=true:=by simp;lia
  have h:(if((⟨#[48+c]⟩:Str).cps.all λx=>decide (x<128))=true then(⟨#[48+c]⟩:Str).cps.toList else Unicode.numberText (⟨#[48+c]⟩:Str).cps.toList)=[48+c]:=by rw[if_pos e]
  rw[h];have d:List.takeWhile (λx=>x != 0) [48+c]=[48+c]:=by simp
  rw[d,if_pos '&'];refine am (ba ?_);clear o v l t j r e h d;dsimp only;split
  ·rename_i a
   exfalso
   rcases gc b with rfl|rfl|rfl|rfl|rfl|rfl|rfl|rfl|rfl|rfl<;>cases a
  ·rename_i a
   exfalso
   rcases gc b with rfl|rfl|rfl|rfl|rfl|rfl|rfl|rfl|rfl|rfl<;>cases a
  ·rename_i i a;have q:i=(c:Int):=by
    rcases gc b with rfl|rfl|rfl|rfl|rfl|rfl|rfl|rfl|rfl|rfl<;>(cases a;rfl)
   subst q;rw[if_pos '&']
   repeat (any_goals (first|assumption|wp_step))
   all_goals first|exact⟨_,rfl,m⟩|skip
  ·rename_i a
   exfalso
   rcases gc b with rfl|rfl|rfl|rfl|rfl|rfl|rfl|rfl|rfl|rfl<;>cases a
def eA(x:Str):Option Nat:=match x.cps.toList with
 |[c]=>if 48<=c/\c<58 then some (c-48) else none
 |[c,d]=>if(48<=c/\c<58)/\48<=d/\d<58 then some (10*(c-48)+(d-48)) else none
 |_=>none
theorem BB: bu X (.type "int") (λb H Q=>∃ x n,b=[.str x]/\eA x=some n/\Q (.int (n:Int)) H):=by
 intro k s i H b j Q I r h;obtain⟨x,n,rfl,a,q⟩:=h;obtain⟨u,rfl,g⟩:=r.one;obtain⟨t,rfl⟩:=g;unfold eA at a;split at a
 ·rename_i c e;split at a
  ·rename_i f;cases a;obtain rfl:x=⟨#[48+(c-48)]⟩:=by
    obtain⟨⟨l⟩⟩:=x;have:l=[c]:=e;subst this;rw[show 48+(c-48)=c by lia]
   exact call_int_1 (Rf _ '!' t) (show(Made.int _).post _ s from⟨rfl,⟨.int _,H,I.tok _,⟨_,rfl⟩,q⟩⟩)
  ·cases a
 ·rename_i c d e;split at a
  ·rename_i f;cases a;obtain rfl:x=⟨#[48+(c-48),48+(d-48)]⟩:=by
    obtain⟨⟨l⟩⟩:=x;have:l=[c,d]:=e;subst this;rw[show 48+(c-48)=c by lia,show 48+(d-48)=d by lia]
   exact call_int_1 (Rg _ _ '!' '!' t) (show(Made.int _).post _ s from⟨rfl,⟨.int _,H,I.tok _,⟨_,rfl⟩,q⟩⟩)
  ·cases a
 ·cases a
theorem NX:∀l:List (Str×Tok),aq ((l.map (·.1)).map V.str) (strValues l)
 |[]=>.nil
 |p::l=>.cons ⟨p.2,rfl⟩ (NX l)
open Builtin Builtin.Str in
def ro:V->List V->Hp->VK->Prop:=λx c H Q=>∃a b:Str,x=.str a/\c=[.str b]/\(b.length==0)=false/\a.length<=sizeLine/\(Txt.split a b).length<=sizeLine/\∀p,H p=none->Q (.ref p) (aD H p (.lst ((Txt.split a b).map V.str)))
open Builtin Builtin.Str in
theorem IJ: rS X "str.split" ro:=by
 intro p s m H x z v y Q I n f h;obtain⟨a,b,rfl,rfl,d,r,j,q⟩:=h;obtain⟨t,rfl⟩:=n;obtain⟨w,rfl,g⟩:=f.one;obtain⟨u,rfl⟩:=g;have c:∀(l:List (Str×Tok)) (k:Nat),l.map (·.1)=Txt.split a b->s.toks<=k->EP X p m Q (.ref s.heap.objs.size) { s with toks:=k,heap:=s.heap.push { cls:=.type "list",data:=.seq (strValues l).toArray } }:=λl k e A=>by
  have f:=NX l;rw[e] at f;exact⟨.ref s.heap.objs.size,_,I.laid (t':=k) (o:=.lst ((Txt.split a b).map V.str)) (λb C d=>bL _ d) (bi _) ⟨by rw[ax];exact j,_,0,f,dD _ rfl⟩,rfl,q _ (I.hok.fresh (bi _))⟩
 cases h1:(decide (a.length<b.length)||decide (strKind a<strKind b))
 ·cases hf:(occurrences a b 0 a.length (a.length+1)).isEmpty
  ·have i:Txt.split a b=partsBetween a (occurrences a b 0 a.length (a.length+1)) b.length:=(if_neg (Lq h1)).trans (if_neg (Lq hf));refine mO F.slot_str_split (qN _ _ _) La (Li _ _) (meets_str_split_sep a b t u h1 d hf r (by rw[←i];exact j)) ?_;show wants _ _ _ { s with toks:=_,heap:=s.heap.push { cls:=.type "list",data:=.seq (strsFrom s.toks (partsBetween a (occurrences a b 0 a.length (a.length + 1)) b.length)).toArray } }
   rw[strsFrom_eq];exact c (numbered s.toks _) _ ((numbered_texts _ _).trans i.symm) (eK _ _)
  ·exact mO F.slot_str_split (qN _ _ _) La (Li _ _) (meets_str_split_not_found a b t u h1 d hf)
    (c [(a,t)] s.toks ((if_neg (Lq h1)).trans (if_pos hf)).symm (bi _))
 ·exact mO F.slot_str_split (qN _ _ _) La (Li _ _) (meets_str_split_cannot_occur a b t u h1)
   (c [(a,t)] s.toks (if_pos h1).symm (bi _))
noncomputable def MO(x:Str):It:=⟨λi _=>i<x.cps.toList.length,λi H y a=>a=H/\∃c,x.cps.toList[i]?=some c/\y=.str ⟨#[c]⟩,λi _=>x.cps.toList.length<=i⟩
theorem Jm{K:Fg}(it:Addr)(x:Str)(t:Tok):iK P w K tg (MO x) [it] it (λi h=>h.IsStrIter it "str_ascii_iterator" x t i) where
 mem:=by simp
 obj:=λi h a b f=>by
  have e:b=it:=by simpa using f
  subst e;obtain⟨o,e,c,d⟩:=a;exact⟨o,e,λv z=>by rw[d] at z;cases z⟩
 keep:=λi h j a k=>let ⟨o,e,r⟩:=a;⟨o,k it '&' o e,r⟩
 item:=by
  intro X n A u J i Q s S H E I l a y;subst n A u;obtain⟨c,R⟩:∃c,x.cps.toList[i]?=some c:=⟨_,bQ (show i<x.cps.toList.length from y)⟩
  obtain⟨q,C,f2,G,m,p⟩:=l it '&';refine wpAny_pyNext_ascii_item a (c:=c) (by rw[←gj];exact R) λj g sb=>?_
  have Y:Inv X Q S H {s with heap:=j,toks:=s.toks+1}:=I.turned (t':=s.toks+1) (λb o f e=>(sb.2 b f).trans e) q C G m p;obtain⟨o,e,T,d⟩:=id g;exact⟨_,rfl,lm (s:={s with heap:=j,toks:=s.toks+1}) e T d '"' ⟨.str ⟨#[c]⟩,H,Y,⟨_,rfl⟩,⟨rfl,c,R,rfl⟩,g,λb f=>(l b f).1⟩⟩
 done:=by
  intro X n A u J i Q s S H E I l a y;subst n A u;obtain⟨q,C,f2,G,m,p⟩:=l it '&';exact wpAny_pyNext_ascii_end (I.ok.hd J) a (by rw[←gj];exact ot y) λj U=>⟨rfl,I.turned (t':=s.toks) (λb o f e=>U b o f e) q C G m p⟩
 self:=λ_ _ _ _ _ a h=>wpAny_pyIter_striter_ascii a h
def Mp(b:TE):TI:=λa H R=>b a H λx H1=>∃z:Str,x=.str z/\(z.cps.all (· < 128))=true/\R (MO z) H1
theorem FB(n:PE X l tl):PI X tg l (Mp tl):=by
 intro k s f H R I h;refine bp (n k s f H _ I h) λv a c=>?_
 obtain⟨x,H1,d,g,i⟩:=c;obtain⟨z,e,m,q⟩:=i;subst e;obtain⟨t,rfl⟩:=g;refine wpAny_pyIter_ascii m ?_;refine⟨a.heap.objs.size,[a.heap.objs.size],_,_,H1,rfl,d.kept (t':=a.toks) λb o e=>bL _ e,Jm _ z t,⟨_,dD _ rfl,rfl,rfl⟩,λb j=>?_,q⟩;have e:b=a.heap.objs.size:=by simpa using j
 subst e;exact d.fpOk (bi _) (d.hok.fresh (bi _))
end L2
namespace Dd
open L2 PyProof.Rows
def fX:List D->aa->ar D:=λb a=>match b with
 |[.str x]=>match eA x with
  |some n=>.ok (.int (n:Int)) a
  |none=>.stuck
 |_=>.stuck
theorem AE{K:Fg}:iL K fX (λb H Q=>∃x n,b=[.str x]/\eA x=some n/\Q (.int (n:Int)) H):=λi H j b h z c Q d f e q=>by
 unfold fX at e;split at e
 ·split at e
  ·rename_i g;cases e;obtain⟨u,rfl,a⟩:=f.one;cases a;exact⟨_,_,rfl,g,q _ _ _ (.refl _ _) d (.int _)⟩
  ·cases e
 ·cases e
def bT:List D->aa->ar D:=λb a=>match b with
 |[.str z]=>if z.length<=sizeLine then .ok (.int z.length) a else .stuck
 |_=>.stuck
theorem pZ{K:Fg}:iL K bT (λb H Q=>∃z,b=[.str z]/\z.length<=sizeLine/\Q (.int z.length) H):=λi H j b h z c Q d f e q=>by
 unfold bT at e;split at e
 ·split at e
  ·rename_i g;cases e;obtain⟨u,rfl,a⟩:=f.one;cases a;exact⟨_,rfl,g,q _ _ _ (.refl _ _) d (.int _)⟩
  ·cases e
 ·cases e
def eT(a:Bool) (x y:D) (b:aa):ar D:=match x,y with
 |.str i,.str j=>.ok (.bl (if a then !(!(Builtin.Str.occurrences j i 0 j.length 1).isEmpty) else !(Builtin.Str.occurrences j i 0 j.length 1).isEmpty)) b
 |_,_=>.stuck
theorem uY{K:Fg}:fY K (eT false) (λx y H Q=>∃i j,x=.str i/\y=.str j/\Q (.bl (!(Builtin.Str.occurrences j i 0 j.length 1).isEmpty)) H):=λg H f x y u v z d Q c a b e q=>by
 unfold eT at e;split at e
 ·cases a;cases b;cases e
  exact⟨_,_,rfl,rfl,q _ _ _ (.refl _ _) c (.bl _)⟩
 ·cases e
theorem vT{K:Fg}:fY K (eT true) (λx y H Q=>∃i j,x=.str i/\y=.str j/\Q (.bl (!(!(Builtin.Str.occurrences j i 0 j.length 1).isEmpty))) H):=λg H f x y u v z d Q c a b e q=>by
 unfold eT at e;split at e
 ·cases a;cases b;cases e
  exact⟨_,_,rfl,rfl,q _ _ _ (.refl _ _) c (.bl _)⟩
 ·cases e
def i3(x y:D) (a:aa):ar D:=match x,y with
 |.str i,.str j=>if i.length+j.length<=sizeLine then .ok (.str (i++j)) a else .stuck
 |_,_=>.stuck
theorem GK:xI X .Add (λx y H Q=>∃i j,x=.str i/\y=.str j/\i.length+j.length<=sizeLine/\Q (.str (i++j)) H):=Qx
theorem DM{K:Fg}:AA K i3 (λx y H Q=>∃i j,x=.str i/\y=.str j/\i.length+j.length<=sizeLine/\Q (.str (i++j)) H):=λg H h x y u v z c Q d a b e q=>by
 unfold i3 at e;split at e
 ·split at e
  ·rename_i f;cases a;cases b;cases e
   exact⟨_,_,rfl,rfl,f,q _ _ _ (.refl _ _) d (.str _)⟩
  ·cases e
 ·cases e
noncomputable def signs(z:Str):List D:=z.cps.toList.map λc=>.str ⟨#[c]⟩
def hG(f:SE):SA:=λb c=>(f b c).bind λx a=>match x with
 |.str z=>if(z.cps.all (· < 128))=true then .ok (signs z) a else .stuck
 |_=>.stuck
theorem EZ{K:Fg}:mq K ρ H (MO z) (signs z) where
 item:=λb H2 x i d e=>by
  unfold signs at e;rw[dm,fH] at e;obtain⟨c,f,rfl⟩:=e;refine⟨(du.mp f).1,λy H3 g=>?_⟩;obtain⟨rfl,j,a,rfl⟩:=g;rw[f] at a;cases a;exact⟨.refl _ _,λ_ r=>⟨r,.str _⟩⟩
 done:=λb H2 x i h=>by
  unfold signs at h;rw[ax] at h;exact h
theorem AG(s:JE X l f):JI X tg l (hG f):=⟨jC (FB s.out) λv H R d=>by
 obtain⟨i,g,k,t,h,a,m,e,q⟩:=d;obtain⟨x,b,o,e⟩:=zd e;refine⟨i,g,k,x,b,a,m,o,λn H1 u j c p=>?_⟩;split at e
 ·split at e
  ·rename_i z r;cases e;cases p;exact⟨z,rfl,r,q _ _ _ j c EZ⟩
  ·cases e
 ·cases e⟩
def dQ(f:SE) (g:SA):SE:=λe i=>(f e i).bind λx d=>match x with
 |.str a=>(g e d).bind λh c=>match h with
  |[.str b]=>if(b.length==0)=false/\a.length<=sizeLine/\(Txt.split a b).length<=sizeLine then .ok (.lst ((Txt.split a b).map .str)) c else .stuck
  |_=>.stuck
 |_=>.stuck
theorem vw{K:Fg}:∀l:List Str,ah K ρ H (l.map .str) (l.map V.str)
 |[]=>.nil
 |_::l=>.cons (.str _) (vw l)
theorem tR{d:Pos}(R:JE X o f)(ha:JA X (e::es) ga)(g:attributeBase o "split" X.env (eval o X.env)=eval o X.env:=by rfl)
  (j:((backTo cpos (starEach (e::es) X.env)).all (λx=>!x.1)&&(backToKw cpos (keywordEach [] X.env)).all (λx=>x.1.isSome)
   && decide ((e::es).length+([]:List Keyword).length+(if([]:List Keyword).isEmpty then 0 else 1)<30))=true:=by rfl)
  (h:(d.endLine==cpos.line)=true:=by rfl)(T:starEach (e::es) X.env=(false,eval e X.env)::starEach es X.env:=by rfl)(c:(backTo cpos (starEach es X.env)).any (·.1)=false:=by rfl):
  JE X (.Call (.Attribute o "split" d) (e::es) [] cpos) (dQ f ga):=⟨eI (ls Af F.slot_str_split F.type_str_split IJ R.out ha.out g j h T c) λτ H Q m=>by
 obtain⟨S,A,au,v,I,a,P,e,q⟩:=m;obtain⟨x,i,e1,e⟩:=zd e;refine⟨S,A,au,x,i,a,P,e1,λr H1 u z l E=>?_⟩;split at e
 ·rename_i s;obtain⟨C,y,e2,e⟩:=zd e;cases E;refine⟨rfl,r,A,i,C,y,a.ext z,l,e2,λJ H2 ws U k G=>?_⟩;split at e
  ·rename_i b;split at e
   ·rename_i t;cases e;obtain⟨w,rfl,Y⟩:=G.one;cases Y;exact⟨s,b,rfl,rfl,t.1,t.2.1,t.2.2,λp n=>q _ _ _ ((z.trans U).trans (bj.new n _)) (k.new n _) (.newL k n (vw _))⟩
   ·cases e
  ·cases e
 ·cases e⟩
end Dd
namespace L2
open Spec PyProof.Rows
structure kH (h:Heap) (z tI tO i1 i2:Addr) (x0:Str) (tk:Tok) (t2:Addr) (f0:Value) (j:Nat):Prop where
 zip:IsZip h z tI tO f0
 its:IsPair h tI (.ref i1) (.ref i2)
 out:∃a b,IsPair h tO a b
 it1:h.IsStrIter i1 "str_ascii_iterator" x0 tk j
 it2:h.IsTupleIter i2 t2 j
theorem Jd{A:Around}{s:Shared}(l:A.handled=none)(d:s.heap.IsStrIter it "str_ascii_iterator" x t i)
  (k:∀ c,x.cps[i]?=some c->∀ b,b.IsStrIter it "str_ascii_iterator" x t (i + 1)->Heap.SameBut it s.heap b->Q (.str ⟨#[c]⟩ s.toks) { s with heap:=b,toks:=s.toks + 1 })
  (j:x.cps[i]?=none->∀ b e,Heap.ExtBut it s.heap b->(∃ o,b.get? e=some o/\o.cls=.type "StopIteration")->E (.ref e) { s with heap:=b }):wpAny (model prog w) A (Builtin.SmallTypes.nextOf (.ref it)) Q E s:=by
 obtain⟨o,g,h,f⟩:=id d;refine am (wpAny_callSpecial?_slot (name:=Str.ofString "__next__") d.typeIs F.slot_str_ascii_iterator_next (lG F.slot_str_ascii_iterator_next d.typeIs F.entry_str_ascii_iterator_next ?_ (F.args_str_ascii_iterator_next_1 _)))
 show wpAny _ _ (field (.ref it) 0 >>= _) _ _ s;refine am (iz g f (x:=.str x t) rfl ?_);show wpAny _ _ (field (.ref it) 1 >>= _) _ _ s;refine am (iz g f (x:=.int i 0) rfl ?_);cases hx:x.cps[i]? with
 |some c=>
  simp only[kT,hx];refine am (nZ g f '&' (am (wpAny_mkStr (ba ⟨_,rfl,ba (k c hx _ ?_ (wF ..))⟩) (by show 1<=sizeLine;decide))));exact⟨_,wI _ g (Ad (om f _)),(Le ..).trans h,by rw[om f];simp[rawInt]⟩
 |none=>
  simp only[kT,hx];refine am (kt (am (nZ g f '&' (am (wj ?_)))));show wpAny _ _ (newExc (.type "StopIteration") [] >>= _) _ _ _
  refine am ?_;simp only[newExc,newTuple];refine am (lI ?_ (by size_fits));refine am (m:=firstArgMember _ _) (wpAny_of_eq (a:=Value.none) (by first|rfl|(simp only[firstArgMember];rfl)) ?_);refine lI ?_ (by size_fits);simp only[raiseNew];refine am (wpAny_handled ?_);rw[show A.in1.handled=none from l];exact am (ba (wpAny_throw (j hx _ _ (((wF ..).extBut.push _).push _) ⟨_,dD _ rfl,rfl⟩)))
theorem KW{A:Around}{s:Shared}(hh:A.handled=none)(R:iJ z tI tO i1 i2 t2 t2)(Z:kH s.heap z tI tO i1 i2 x0 tk t2 .none j)(hy:s.heap.IsTuple t2 ys)
  (hQ:∀c y,x0.cps[j]?=some c->ys[j]?=some y->∀g,kH g z tI tO i1 i2 x0 tk t2 (rawInt s.heap.objs.size) (j+1)->IsPair g s.heap.objs.size (.str ⟨#[c]⟩ s.toks) y->g.objs.size=s.heap.objs.size+1 ->
   (∀c o,c∉[z,tO,i1,i2]->s.heap.get? c=some o->g.get? c=some o)->Q (.done (.ret (.ref s.heap.objs.size))) {s with heap:=g,toks:=s.toks+1})
  (hE:x0.cps[j]?=none\/ys[j]?=none->∀ g e k,(∀ c o,c∉[z,tO,i1,i2]->s.heap.get? c=some o->g.get? c=some o)->(∃ o,g.get? e=some o/\o.cls=.type "StopIteration")->E (.ref e) { s with heap:=g,toks:=k }):wpAny (model prog w) A (Builtin.«zip.__next__» ⟨[.ref z],[]⟩) Q E s:=by
 obtain⟨n1,n2,P,n4,n5,n6,n7,n8,n9,U⟩:=ye z tI tO i1 i2 0 R.nd;have a2:=R.o2;simp only[ce,iB,iy,not_or] at a2;obtain⟨q1,q2,q3,q4,q5⟩:=a2;obtain⟨Y,hI,⟨a,b,hO⟩,k1,k2⟩:=Z;refine(?_:wpAny _ _ (field (.ref z) 2 >>= _) Q E s);refine am (iz Y rfl (x:=.bool false) rfl (?_:wpAny _ _ (field (.ref z) 3 >>= _) _ _ _));refine am (iz Y rfl (x:=.ref tI) rfl (am (nY hI rfl (?_:wpAny _ _ (Builtin.SmallTypes.ownedTupleIsFree (.ref z) >>= _) _ _ _))));refine am (m:=Builtin.SmallTypes.ownedTupleIsFree (.ref z)) (show wpAny _ _ (field (.ref z) 0 >>= _) _ _ _ from am (iz Y rfl (x:=.none) rfl (ba ?_)));simp only[f5];refine am (kt (am (iz Y rfl (x:=.ref tO) rfl (am (mS Y '&' λg1 a7 t=>?_)))));have n:IsZip g1 z tI tO .ellipsis:=a7;simp only[zH,K6,List.forIn_nil,List.zipIdx_nil];refine am (am (am (zD (?_:wpAny _ _ (Builtin.SmallTypes.nextOf (.ref i1) >>= _) _ _ _))));refine am (Jd hh (s:={s with heap:=g1}) (k1.extBut t.extBut (cb P)) (λc G g2 k3 u=>ba ?_) λG g2 ee eb he=>?_)
 ·generalize hx0:Value.str ⟨#[c]⟩ s.toks=x;have T:IsPair g2 tO a b:=u.extBut _ _ n8 (t.extBut _ _ (cb n2) hO);refine am (nY T rfl (am (zZ (s:={s with heap:=g2,toks:=s.toks+1}) T λg3 a5 l=>am (wj (ba ?_)))));have a3:IsPair g3 tO x b:=a5;refine am (am (zD (?_:wpAny _ _ (Builtin.SmallTypes.nextOf (.ref i2) >>= _) _ _ _)));refine am (Bt hh (s:={s with heap:=g3,toks:=s.toks+1}) (((k2.extBut t.extBut (cb n4)).extBut u.extBut (cb U)).extBut l.extBut (cb n9)) (((hy.extBut t.extBut q1).extBut u.extBut q4).extBut l.extBut q3) (λy H g4 k4 e4=>ba ?_) λH g4 ee eb he=>?_)
  ·have S:IsPair g4 tO x b:=e4.extBut _ _ n9 a3;refine am (nY S rfl (am (zZ (s:={s with heap:=g4,toks:=s.toks+1}) S λf a6 C=>am (wj (ba (ba ?_))))));have v:IsPair f tO x y:=a6;refine am (nY v rfl (am (wpAny_newTuple ?_)));have sz:f.objs.size=s.heap.objs.size:=by rw[C.1,e4.1,l.1,u.1,t.1]
   have a1:IsZip f z tI tO .ellipsis:=C.extBut _ _ n2 (e4.extBut _ _ n4 (l.extBut _ _ n2 (u.extBut _ _ P n)));have kp:∀c o,c∉[z,tO,i1,i2]->s.heap.get? c=some o->f.get? c=some o:=λc o d e=>by
    simp only[ce,iB,iy,not_or] at d;exact C.extBut _ _ d.2.1 (e4.extBut _ _ d.2.2.2 (l.extBut _ _ d.2.1 (u.extBut _ _ d.2.2.1 (t.extBut _ _ d.1 e))))
   have m1:f.IsStrIter i1 "str_ascii_iterator" x0 tk (j + 1):=((k3.extBut l.extBut (cb n8)).extBut e4.extBut U).extBut C.extBut (cb n8)
   have m2:f.IsTupleIter i2 t2 (j+1):=k4.extBut C.extBut (cb n9);have lz:z<f.objs.size:=bR a1;have a9:IsZip (f.push { cls:=.type "tuple",data:=.seq #[x,y] }) z tI tO .ellipsis:=bL _ a1
   refine am (m:=Builtin.SmallTypes.ownedTupleHandOut (.ref z) (.ref f.objs.size)) (am (mS a9 '&' λg7 a8 e7=>?_));have a0:IsZip g7 z tI tO (rawInt f.objs.size):=a8;refine mS a0 '&' λg8 a4 e8=>ba ?_
   have p:IsZip g8 z tI tO (rawInt f.objs.size):=a4;have X:∀c o,c≠z->f.get? c=some o->g8.get? c=some o:=λc o d e=>e8.extBut _ _ d (e7.extBut _ _ d (bL _ e))
   have hT:IsPair g8 f.objs.size x y:=e8.extBut _ _ (mP lz) (e7.extBut _ _ (mP lz) (dD _ rfl));have s8:g8.objs.size=f.objs.size+1:=by rw[e8.1,e7.1,lD]
   rw[sz] at p hT s8;have b1:IsPair f tI (.ref i1) (.ref i2):=kp _ _ (by simp[cb n1,n5,n6,n7]) hI;have b0:=hQ c y G H g8 ⟨p,X _ _ (cb n1) b1,⟨x,y,X _ _ (cb n2) v⟩,(let ⟨o,e,r⟩:=m1;⟨o,X _ o (cb P) e,r⟩),m2.at λo e=>X _ o (cb n4) e⟩ (hx0 ▸ hT) s8 λc o d e=>X c o (λq=>d (by simp[q])) (kp c o d e)
   show Q (.done (.ret (.ref f.objs.size))) _;rw[sz];exact b0
  ·obtain⟨oe,h,i⟩:=he;have I:IsZip g4 z tI tO .ellipsis:=eb _ _ n4 (l.extBut _ _ n2 (u.extBut _ _ P n));have nz:ee≠z:=λq=>by rw[q,I] at h;cases h;simp at i
   refine mS I '&' λf _ C=>hE (.inr H) f ee _ (λc o d e=>?_) ⟨oe,C.extBut _ _ nz h,i⟩
   simp only[ce,iB,iy,not_or] at d;exact C.extBut _ _ d.1 (eb _ _ d.2.2.2 (l.extBut _ _ d.2.1 (u.extBut _ _ d.2.2.1 (t.extBut _ _ d.1 e))))
 ·obtain⟨oe,h,i⟩:=he;have J:IsZip g2 z tI tO .ellipsis:=eb _ _ P n;have nz:ee≠z:=λq=>by rw[q,J] at h;cases h;simp at i
  refine mS J '&' λg3 _ l=>hE (.inl G) g3 ee _ (λc o d e=>?_) ⟨oe,l.extBut _ _ nz h,i⟩
  simp only[ce,iB,iy,not_or] at d;exact l.extBut _ _ d.1 (eb _ _ d.2.2.1 (t.extBut _ _ d.1 e))
theorem NZ{A:Around}{s:Shared}(u:A.handled=none)(R:iJ z tI tO i1 i2 t2 t2)(Z:kH s.heap z tI tO i1 i2 x0 tk t2 .none j)(v:s.heap.IsTuple t2 ys)
  (r:∀c y,x0.cps[j]?=some c->ys[j]?=some y->∀g,kH g z tI tO i1 i2 x0 tk t2 (rawInt s.heap.objs.size) (j+1)->IsPair g s.heap.objs.size (.str ⟨#[c]⟩ s.toks) y->g.objs.size=s.heap.objs.size+1 ->
   (∀c o,c∉[z,tO,i1,i2]->s.heap.get? c=some o->g.get? c=some o)->Q (some (.ref s.heap.objs.size)) {s with heap:=g,toks:=s.toks+1})
  (m:x0.cps[j]?=none\/ys[j]?=none->∀g k,(∀c o,c∉[z,tO,i1,i2]->s.heap.get? c=some o->g.get? c=some o)->Q none {s with heap:=g,toks:=k}):wpAny (model prog w) A (pyNext (.ref z)) Q E s:=by
 have T:s.TypeIs (.ref z) "zip":=⟨_,Z.zip,rfl⟩
 unfold pyNext;refine am (wn (wpAny_callSpecial?_slot (name:=Str.ofString "__next__") T Ac (lG Ac T F.entry_zip_next (KW u R Z v (λx y a h g d p l n=>⟨_,rfl,ba (r x y a h g d p l n)⟩) λa g e f k q=>?_) (F.args_zip_next_1 _))))
 obtain⟨o,t,i⟩:=q;exact am (wpAny_isInstance (T:="StopIteration") (b:=true) ⟨o,t,i⟩ isSubtype_stop (ba (m a g f k)))
def xL(K:Fg) (d:Str) (b:Addr):It:=
 ⟨λi H=>∃a c y,bD K H b a/\d.cps.toList[i]?=some c/\a[i]?=some y,
  λi H u e=>∃p,H p=none/\u=.ref p/\∀a c y,bD K H b a->d.cps.toList[i]?=some c->a[i]?=some y->e=aD H p (.tup [.str ⟨#[c]⟩,y]),
  λi H=>∃a,bD K H b a/\(d.cps.toList.length<=i\/a.length<=i)⟩
theorem KJ{K:Fg}(R:iJ z n p l i2 b b):
  iK P w K (.Tuple elts k tpos) (xL K x0 b) [z,n,p,l,i2] z (λi h=>kH h z n p l i2 x0 tk b .none i) where
 mem:=by simp
 obj:=λi h d c U=>by
  obtain⟨u,v,J⟩:=d.out;obtain⟨o1,e1,_,d1⟩:=d.it1;obtain⟨o2,j,_,d2⟩:=d.it2;have a:c=z\/c=n\/c=p\/c=l\/c=i2:=by simpa using U
  rcases a with rfl|rfl|rfl|rfl|rfl
  ·exact⟨_,d.zip,λv q=>by cases(show Data.fields _=Data.cell v from q)⟩
  ·exact⟨_,d.its,λv q=>by cases(show Data.seq _ _=Data.cell v from q)⟩
  ·exact⟨_,J,λv q=>by cases(show Data.seq _ _=Data.cell v from q)⟩
  ·exact⟨o1,e1,λv q=>by rw[d1] at q;cases q⟩
  ·exact⟨o2,j,λv q=>by rw[d2] at q;cases q⟩
 keep:=λi h h' d G=>by
  obtain⟨u,v,J⟩:=d.out;exact⟨G z '&' _ d.zip,G n '&' _ d.its,⟨u,v,G p '&' _ J⟩,(let ⟨o,e,r⟩:=d.it1;⟨o,G l '&' o e,r⟩),d.it2.at λo e=>G i2 '&' o e⟩
 item:=by
  intro X hP hw hK U i aW s σ H E I hf d hg;subst hP hw hK;obtain⟨ys,cc,y,x,hx,hy⟩:=hg;obtain⟨f,C,p2,a4⟩:=I.tuple x;obtain⟨u2,Y,a5⟩:=C.get hy;have a3:x0.cps[i]?=some cc:=by rw[←gj];exact hx
  refine NZ (I.ok.hd U) R d (show s.heap.IsTuple b f.toArray from p2) (λt T e1 j g Z hT a6 kp=>?_) λe=>?_
  ·have f1:t=cc:=by rw[a3] at e1;exact(eg e1).symm
   have f2:T=u2:=by rw[pB,Y] at j;exact(eg j).symm
   subst f1 f2;refine⟨_,rfl,wpAny_letOwnedTupleGo_zip Z.zip λg2 a8 S=>?_⟩;have a2:∀c∈[z,n,p,l,i2],c<s.heap.objs.size:=λc a=>by
    obtain⟨uu,vv,J⟩:=d.out;obtain⟨o1,e1,_⟩:=d.it1;obtain⟨o2,j,_⟩:=d.it2;have a0:c=z\/c=n\/c=p\/c=l\/c=i2:=by simpa using a
    rcases a0 with rfl|rfl|rfl|rfl|rfl
    ·exact bR d.zip
    ·exact bR d.its
    ·exact bR J
    ·exact bR e1
    ·exact bR j
   have a7:=a2 z '&';have I1:Inv X aW σ (aD H s.heap.objs.size (.tup [.str ⟨#[t]⟩,y])) { s with heap:=s.heap.push { cls:=.type "tuple",data:=.seq #[.str ⟨#[t]⟩ s.toks,T] },toks:=s.toks + 1 }:=
    I.laid (λ_ _ q=>bL _ q) (bi _) ⟨by simp;decide,[.str ⟨#[t]⟩ s.toks,T],.cons ⟨_,rfl⟩ (.cons a5 .nil),⟨_,dD _ rfl,rfl,_,rfl⟩⟩
   have a1:∀c∈[z,n,p,l,i2],fC X aW (aD H s.heap.objs.size (.tup [.str ⟨#[t]⟩,y])) c:=λc a=>by
    obtain⟨f0,fr⟩:=hf c a;exact⟨by rw[ca (ef (a2 c a))];exact f0,fr⟩
   have I2:Inv X aW σ (aD H s.heap.objs.size (.tup [.str ⟨#[t]⟩,y])) {s with heap:=g2,toks:=s.toks+1}:=by
    refine Inv.turnedL (s:={ s with heap:=s.heap.push { cls:=.type "tuple",data:=.seq #[.str ⟨#[t]⟩ s.toks,T] },toks:=s.toks + 1 }) (h':=g2) (t':=s.toks + 1) (ch:=[z,n,p,l,i2]) I1 (λc o a q=>?_) a1
    have q':(s.heap.push { cls:=.type "tuple",data:=.seq #[.str ⟨#[t]⟩ s.toks,T] }).get? c=some o:=q
    have cz:c≠z:=λe=>a (by simp[e])
    rcases Heap.get?_push_cases q' with⟨e1,j⟩|e1
    ·rw[e1,j];exact S.extBut _ _ (mP a7) hT
    ·exact S.extBut _ _ cz (kp c o (λm=>a (by simp at m ⊢;rcases m with m|m|m|m<;>simp[m])) e1)
   obtain⟨d1,d2,d3,d4,_⟩:=ye z n p l i2 0 R.nd;obtain⟨uu,vv,J⟩:=Z.out;refine⟨.ref s.heap.objs.size,_,I2,rfl,⟨s.heap.objs.size,I.fresh,rfl,λbs c' y' hb ex ey=>?_⟩,⟨a8,S.extBut _ _ (cb d1) Z.its,⟨uu,vv,S.extBut _ _ (cb d2) J⟩,(let ⟨o,e,r⟩:=Z.it1;⟨o,S.extBut _ _ (cb d3) e,r⟩),Z.it2.extBut S.extBut (cb d4)⟩,λc a=>(a1 c a).1⟩;rw[hx] at ex;rw[I.tuple_inj hb x,hy] at ey;cases ex;cases ey
   rfl
  ·rcases e with e|e
   ·rw[a3] at e;cases e
   ·rw[pB,Y] at e;cases e
 done:=by
  intro X hP hw hK U i aW s σ H E I hf d hg;subst hP hw hK;obtain⟨ys,x,hl⟩:=hg;obtain⟨f,C,p2,a4⟩:=I.tuple x;have l2:=C.length;refine NZ (I.ok.hd U) R d (show s.heap.IsTuple b f.toArray from p2) (λt T e1 j g Z hT a6 kp=>?_) λ_ g G kp=>⟨rfl,I.turnedL (t':=G) (ch:=[z,n,p,l,i2]) (λc o a e=>kp c o (λm=>a (by simp at m ⊢;rcases m with m|m|m|m<;>simp[m])) e) hf⟩
  rw[←gj] at e1;rw[pB] at j;have g1:=(du.mp e1).1;have g2:=(du.mp j).1;lia
 self:=λA i s Q E d h=>zJ d.zip h
noncomputable abbrev pE(a:Str) (b:Tok):Obj:={ cls:=.type "str_ascii_iterator",data:=.fields #[.str a b,.int 0 0] }
abbrev i8(h:Heap) (a:Str) (b:Tok):Heap:=h.push (pE a b)
abbrev i7(h:Heap) (a:Str) (b:Tok) (c:Addr):Heap:=(i8 h a b).push (j4 c)
abbrev i6(h:Heap) (a:Str) (b:Tok) (c:Addr):Heap:=(i7 h a b c).push (two (.ref h.objs.size) (.ref (i8 h a b).objs.size))
abbrev i5(h:Heap) (a:Str) (b:Tok) (c:Addr):Heap:=(i6 h a b c).push (two .none .none)
abbrev gx(h:Heap) (a:Str) (b:Tok) (c:Addr):Heap:=(i5 h a b c).push (o4 (i7 h a b c).objs.size (i6 h a b c).objs.size)
theorem Js(a:Str)(c:Tok)(b:Addr)(ys:Array Value):
  Meets (Builtin.«zip.__new__» ⟨[.type "zip",.str a c,.ref b],[]⟩) (λ_ R s=>(a.cps.all (· < 128))=true/\s.heap.IsTuple b ys/\R (.ok (.ret (.ref (i5 s.heap a c b).objs.size))) { s with heap:=gx s.heap a c b }):=
 .of_wp λi w A R s h=>by
  obtain⟨k,g,d,e,os⟩:=s;obtain⟨j,l,h⟩:=h;have sub:=sub_zip;have f:Heap.IsTuple (Shared.heap ⟨k.push (pE a c),g,d,e,os⟩) b ys:=l.push _
  wp_walk using wpAny_pyIter_ascii j,sN f
  exact⟨_,rfl,h⟩
theorem JD{s:Shared}{a:Str}(u:(a.cps.all (· < 128))=true)(r:s.heap.IsTuple l2 ys)
  (h:∀g z j p f i,iJ z j p f i l2 l2->kH g z j p f i a tk l2 .none 0->(∀c∈[z,j,p,f,i],s.heap.objs.size<=c) ->
   (∀ c o,s.heap.get? c=some o->g.get? c=some o)->Q (.ref z) { s with heap:=g }):wpAny (model prog w) A (call (.type "zip") [.str a tk,.ref l2]) Q E s:=by
 have b:l2<s.heap.objs.size:=by obtain⟨_,e,_⟩:=r;exact bR e
 refine callType_new F.called_zip '"' (F.typeCall_zip_2 _ _) (F.newCall_zip_2 _ _) (λn=>PK n _ _) F.entry_zip_new (Js a tk l2 ys) ⟨u,r,?_⟩;have l:(i8 s.heap a tk).objs.size=s.heap.objs.size+1:=lD ..
 have d:(i7 s.heap a tk l2).objs.size=s.heap.objs.size+2:=(lD ..).trans (by rw[l]);have m:(i6 s.heap a tk l2).objs.size=s.heap.objs.size+3:=(lD ..).trans (by rw[d]);have q:(i5 s.heap a tk l2).objs.size=s.heap.objs.size+4:=(lD ..).trans (by rw[m]);have t:(gx s.heap a tk l2).get? (i5 s.heap a tk l2).objs.size=some _:=dD _ rfl;have v:(gx s.heap a tk l2).get? (i6 s.heap a tk l2).objs.size=some _:=bL _ (dD _ rfl);have x:(gx s.heap a tk l2).get? (i7 s.heap a tk l2).objs.size=some _:=bL _ (bL _ (dD _ rfl));have y:(gx s.heap a tk l2).get? (i8 s.heap a tk).objs.size=some _:=bL _ (bL _ (bL _ (dD _ rfl)));have C:(gx s.heap a tk l2).get? s.heap.objs.size=some _:=bL _ (bL _ (bL _ (bL _ (dD _ rfl))));have k:=h (gx s.heap a tk l2) (i5 s.heap a tk l2).objs.size (i7 s.heap a tk l2).objs.size (i6 s.heap a tk l2).objs.size s.heap.objs.size (i8 s.heap a tk).objs.size
  (by rw[q,m,d,l];exact(yp b b).1) ⟨t,x,⟨_,_,v⟩,⟨_,C,rfl,rfl⟩,⟨_,y,rfl,rfl⟩⟩
  (by rw[q,m,d,l];exact(yp b b).2) λc o e=>bL _ (bL _ (bL _ (bL _ (bL _ e))))
 exact⟨⟨_,t,rfl⟩,k⟩
def xt(K:Fg) (d:TA):TI:=λc H R=>d c H λe H1=>∃a b,e=[.str a,.ref b]/\(a.cps.all (· < 128))=true/\(∃f,bD K H1 b f)/\R (xL K a b) H1
theorem He(A:Gl X "zip")(G:X.mg "zip"=none)(Q:PA X [a,b] ta)
  (E:starEach [a,b] X.env=[(false,eval a X.env),(false,eval b X.env)]:=by rfl)(i:starEach [b] X.env=[(false,eval b X.env)]:=by rfl):
  PI X (.Tuple elts k tpos) (.Call (.Name "zip" p) [a,b] [] pos) (xt X.K ta):=by
 intro t s C H R I h;refine Call_ (pW I A G PyProof.Rows.boot_zip (wN (bp (Q pos t s C H _ I h) λus m ⟨vs,H1,j,J,P⟩=>?_) (by rw[E,i]) (by rw[i];rfl)));obtain⟨x0,b,e,y,⟨ys,v⟩,q⟩:=P;subst e;obtain⟨u1,u2,rfl,T,Y⟩:=vals2 J;obtain⟨tk,rfl⟩:=T;cases Y;obtain⟨d,n,U,u⟩:=j.tuple v;refine JD y (show m.heap.IsTuple b d.toArray from U) λg z w S o r R Z f x=>?_
 refine zJ Z.zip ?_;exact⟨z,[z,w,S,o,r],_,_,H1,rfl,j.kept (t':=m.toks) x,KJ R,Z,λc l=>j.fpOk (f c l) (j.hok.fresh (f c l)),q⟩
theorem Ki: rS X "str.startswith" (λx d H Q=>∃ a b:Str,x=.str a/\d=[.str b]/\Q (.bl (Txt.startswith a b)) H):=by
 intro j s g H x d v i Q I e f h;obtain⟨a,b,rfl,rfl,q⟩:=h;obtain⟨t,rfl⟩:=e;obtain⟨w,rfl,c⟩:=f.one;obtain⟨u,rfl⟩:=c;exact SC.startswith ⟨.bl _,H,I,rfl,q⟩
theorem vV(h:IsPart v o):∃l:Option (Int×Tok),v=partValue l/\l.map (·.1)=o:=by
 cases h with
 |none=>exact⟨none,rfl,rfl⟩
 |int i t=>exact⟨some (i,t),rfl,rfl⟩
theorem FQ:oO X (λx lo d H Q=>∃z:Str,x=.str z/\z.length<=sizeLine/\(StrLaws.sliceText z lo d).length<=sizeLine/\Q (.str (StrLaws.sliceText z lo d)) H):=by
 intro o s k H x v p n lo d m Q I f g j i h;obtain⟨z,rfl,r,b,q⟩:=h;obtain⟨t,rfl⟩:=f;obtain⟨l,rfl,rfl⟩:=vV j;obtain⟨u,rfl,rfl⟩:=vV i;refine⟨"str",_,F.slot_str_getitem.lookup,qN s z t,wpAny_getItem_str_slice (show Heap.IsSlice _ _ l u none from g) rfl ?_⟩
 unfold sliceMade;unfold StrLaws.sliceText at q b;have e:slicePicked z l u none=Builtin.Str.strSliceIndices (l.map (·.1)) (u.map (·.1)) 1 z.length:=rfl;rw[e];split
 ·rename_i c;have a:((1:Int)==1&&(Builtin.Str.strSliceIndices (l.map (·.1)) (u.map (·.1)) 1 z.length).length==z.length)=true:=c;rw[if_pos a] at q;exact⟨.str z,H,I,⟨t,rfl⟩,q⟩
 ·rename_i c;have a:¬ ((1:Int)==1&&(Builtin.Str.strSliceIndices (l.map (·.1)) (u.map (·.1)) 1 z.length).length==z.length)=true:=c;rw[if_neg a] at q b;exact⟨b,⟨.str _,H,I.tok _,⟨_,rfl⟩,q⟩⟩
theorem IU(n:PE X v1 t1)(m:PE X v2 t2):PE X (.JoinedStr [.FormattedValue v1 (-1) none q1,.FormattedValue v2 (-1) none q2] pos)
  (λa H Q=>t1 a H λx H1=>∃z:Str,x=.str z/\z.length<=1000/\t2 a H1 λy H2=>∃i:Int,y=.int i/\0<=i/\i<=1000/\Q (.str (Str.empty++z++toString i)) H2):=by
 intro f s a H Q I h;have b:∀x y:Str,(x++y).length=x.length+y.length:=strLen_append
 have d:(Str.empty).length=0:=rfl;refine JoinedStr_many (joinParts_cons (FormattedValue_plain (bp (n f _ a H _ I h) λu A c=>?_)));obtain⟨x,H1,o,j,z,l,E,q⟩:=c;subst l;obtain⟨tk,rfl⟩:∃tk,u=Value.str z tk:=j
 refine formatField_str (λG k=>⟨by rw[b,d,hY];lia,joinParts_cons (FormattedValue_plain (bp (m f _ a H1 _ (o.tok k) q) λu J ⟨y,H2,t,g,i,p,w,v,q⟩=>?_))⟩) (by rw[hY];lia);subst p;obtain⟨r,rfl⟩:∃tk,u=Value.int i tk:=g
 have len:=len_str_of_int i;have C:i.natAbs<=1000:=by lia
 have e:(toString i:Str).length=(Str.ofString (toString i)).length:=rfl;refine formatField_int_small (jw (Nat.log2_le_self _) '!') ⟨?_,joinParts_nil ⟨.str (Str.empty++z++toString i),H2,(t.tok _).tok _,⟨_,rfl⟩,q⟩ ?_⟩
 ·rw[b,b,d,hY,e];lia
 ·rw[b,b,d,hY,e];lia
end L2
namespace Dd
open L2 PyProof.Rows
def gk(f:SE) (g:SA):SE:=λe i=>(f e i).bind λx d=>match x with
 |.str a=>(g e d).bind λh c=>match h with
  |[.str b]=>.ok (.bl (Txt.startswith a b)) c
  |_=>.stuck
 |_=>.stuck
theorem JQ{d:Pos}(I:JE X o f)(T:JA X (e::es) ga)(g:attributeBase o "startswith" X.env (eval o X.env)=eval o X.env:=by rfl)
  (j:((backTo cpos (starEach (e::es) X.env)).all (λx=>!x.1)&&(backToKw cpos (keywordEach [] X.env)).all (λx=>x.1.isSome)
   && decide ((e::es).length+([]:List Keyword).length+(if([]:List Keyword).isEmpty then 0 else 1)<30))=true:=by rfl)
  (h:(d.endLine==cpos.line)=true:=by rfl)(P:starEach (e::es) X.env=(false,eval e X.env)::starEach es X.env:=by rfl)(c:(backTo cpos (starEach es X.env)).any (·.1)=false:=by rfl):
  JE X (.Call (.Attribute o "startswith" d) (e::es) [] cpos) (gk f ga):=⟨eI (ls Af F.slot_str_startswith F.type_str_startswith Ki I.out T.out g j h P c) λτ H Q l=>by
 obtain⟨J,t,Y,v,C,a,G,e,q⟩:=l;obtain⟨x,i,U,e⟩:=zd e;refine⟨J,t,Y,x,i,a,G,U,λm H1 u r k z=>?_⟩;split at e
 ·rename_i s;obtain⟨y,p,e2,e⟩:=zd e;cases z;refine⟨rfl,m,t,i,y,p,a.ext r,k,e2,λE H2 ws R n A=>?_⟩;split at e
  ·rename_i b;cases e;obtain⟨w,rfl,S⟩:=A.one;cases S;exact⟨s,b,rfl,rfl,q _ _ _ (r.trans R) n (.bl _)⟩
  ·cases e
 ·cases e⟩
def cP(f:SE) (lo e:DS->aa->ar (Option Int)):SE:=λa g=>(f a g).bind λx d=>(lo a d).bind λl c=>(e a c).bind λh b=>match x with
 |.str z=>if z.length<=sizeLine/\(StrLaws.sliceText z l h).length<=sizeLine then .ok (.str (StrLaws.sliceText z l h)) b else .stuck
 |_=>.stuck
theorem k7{lo:Option Expr}(C:JE X e f)(J:JO X lo l)(I:JO X hi h):JE X (.Subscript e (.Slice lo hi none p2) pos) (cP f l h):=⟨eI (Nh FQ C.out J.out I.out) λY H Q g=>by
 obtain⟨E,m,G,v,w,a,A,e,q⟩:=g;obtain⟨x,b,S,e⟩:=zd e;obtain⟨y,c,U,e⟩:=zd e;obtain⟨z,i,P,e⟩:=zd e;refine⟨E,m,G,x,b,a,A,S,λn H1 u k d t=>?_⟩;refine⟨n,m,b,y,c,a.ext k,d,U,λj H2 s p=>?_⟩;refine⟨j,m,c,z,i,a.ext (k.trans s),p,P,λR H3 T o=>?_⟩;split at e
 ·split at e
  ·rename_i r;cases e;cases t;exact⟨_,rfl,r.1,r.2,q _ _ _ (k.trans (s.trans T)) o (.str _)⟩
  ·cases e
 ·cases e⟩
def cu(x y:D) (a:aa):ar D:=match x,y with
 |.str z,.int i=>if 0<=i/\i<2^63/\i<z.length then(match z.cps[i.toNat]? with
  |some c=>.ok (.str ⟨#[c]⟩) a
  |none=>.stuck) else .stuck
 |_,_=>.stuck
theorem Fi{K:Fg}:fY K cu (λx y H Q=>∃z i c,x=.str z/\y=.int i/\0<=i/\i<2^63/\i<z.length/\z.cps[i.toNat]?=some c/\Q (.str ⟨#[c]⟩) H):=λj H k x y u v z f Q h a b e q=>by
 unfold cu at e;split at e
 ·split at e
  ·rename_i d;split at e
   ·rename_i c g;cases a;cases b;cases e
    exact⟨_,_,c,rfl,rfl,d.1,d.2.1,d.2.2,g,q _ _ _ (.refl _ _) h (.str _)⟩
   ·cases e
  ·cases e
 ·cases e
theorem ng(e:JE X a f)(d:JE X b f')(c:jm b):JE X (.Subscript a b pos) (aU cu f f'):=⟨eI (QJ e.out d.out c) (lr Fi)⟩
def Av(x y:D) (a:aa):ar D:=match x,y with
 |.str z,.int i=>if z.length<=1000/\0<=i/\i<=1000 then .ok (.str (Str.empty++z++toString i)) a else .stuck
 |_,_=>.stuck
theorem Ge(A:JE X a f)(r:JE X b f'):JE X (.JoinedStr [.FormattedValue a (-1) none q1,.FormattedValue b (-1) none q2] pos) (aU Av f f'):=⟨eI (IU A.out r.out) λJ H Q g=>by
 obtain⟨t,l,G,v,o,a,s,e,q⟩:=g;obtain⟨x,c,E,e⟩:=zd e;obtain⟨y,C,I,e⟩:=zd e;refine⟨t,l,G,x,c,a,s,E,λi H1 u k d m=>?_⟩;unfold Av at e;split at e
 ·split at e
  ·rename_i h;cases e;cases m;refine⟨_,rfl,h.1,i,l,c,_,_,a.ext k,d,I,λp H2 w z j n=>?_⟩;cases n;exact⟨_,rfl,h.2.1,h.2.2,q _ _ _ (k.trans z) j (.str _)⟩
  ·cases e
 ·cases e⟩
def gy(f:SE):ST:=λb c=>(f b c).bind λv a=>match v with
 |.str z=>if z.length<=sizeLine then .ok ((z.length:Int) != 0) a else .stuck
 |_=>.stuck
theorem M4(h:JE X a f)(p:∀b,isTrue a X.env b=(do let v ←b;standAt a.pos;holding [v] (truthy v)):=by intro _;rfl):JT X a (gy f):=⟨lu (Nj h.out p) λy H Q i=>by
 obtain⟨l,j,n,v,k,c,o,e,q⟩:=i;obtain⟨x,d,w,e⟩:=zd e;refine⟨l,j,n,x,d,c,o,w,λs H1 u m g r=>?_⟩;split at e
 ·split at e
  ·rename_i t;cases e;cases r;exact⟨_,⟨t,rfl⟩,q _ _ m g⟩
  ·cases e
 ·cases e⟩
def me(g:SA):SA:=λc d=>(g c d).bind λe a=>match e with
 |[.str z,.tup b]=>if(z.cps.all (· < 128))=true then .ok (bx (signs z) b) a else .stuck
 |_=>.stuck
theorem Ig(Q:Gl X "zip")(hm:X.mg "zip"=none)(ha:JA X [a,b] g)(Y:starEach [a,b] X.env=[(false,eval a X.env),(false,eval b X.env)]:=by rfl)(w:starEach [b] X.env=[(false,eval b X.env)]:=by rfl):
  JI X (.Tuple elts k tpos) (.Call (.Name "zip" p) [a,b] [] pos) (me g):=⟨jC (He Q hm ha.out Y w) λτ H R o=>by
 obtain⟨U,T,C,xs,I,a,J,e,q⟩:=o;obtain⟨x,m,e1,e⟩:=zd e;refine⟨U,T,C,x,m,a,J,e1,λa0 H1 u P n E=>?_⟩;split at e
 ·rename_i z bs;split at e
  ·rename_i S;cases e;obtain⟨u1,u2,rfl,b1,b2⟩:=E.two;cases b1;cases b2 with
   |tup k1 k2 k3=>
    refine⟨z,_,rfl,S,⟨_,bD.of k1⟩,q _ _ _ P n ⟨λt H2 j i d e=>?_,λt H2 j i h=>?_⟩⟩
    ·obtain⟨x',y',s,ey,rfl⟩:=BU e;unfold signs at s;rw[dm,fH] at s;obtain⟨c,A,rfl⟩:=s;obtain⟨v2,f,r⟩:=k3.get ey;refine⟨⟨_,c,v2,bD.of (j.out k1 k2).1,A,f⟩,λy H3 G=>?_⟩;obtain⟨p,v,rfl,hH⟩:=G;rw[hH _ _ _ (bD.of (j.out k1 k2).1) A f];exact⟨bj.new v _,λC l=>⟨l.new v _,At.newT l v (.cons (.str _) (.cons (r.extG j) .nil))⟩⟩
    ·rw[yP] at h;unfold signs at h;rw[ax] at h;exact⟨_,bD.of (j.out k1 k2).1,by rw[k3.length];lia⟩
  ·cases e
 ·cases e⟩
end Dd
namespace L2
open Spec PyProof.Rows PySem.W
end L2
namespace Dd
open Spec PyProof.Rows PySem.W L2
end Dd
namespace Dd
open L2
def ua:cg:=bV 5 2 (aF (aH 2 (eC (.int 0)))
 (aF (bU (eB (aU db (aA 1) (aG bE (aB (aA 0) aC)))) (aH 2 (aG kG (aB (aU cx (aA 0) (aA 1)) aC))) ck)
 (aF (aH 3 (aU aO (aU cL (eC (.int 7919)) (aA 1)) (eC (.int 17))))
 (aF (dj (jd (aB (aG mm (aB (aG bE (aB (aA 0) aC)) (aB (eC (.int 60)) aC))) aC)) (gN 4) (aH 3 (aU ez (aU aO (aU aO (aU cL (aA 3) (eC (.int 48271))) (aU ez (aU cx (aA 0) (aA 4)) (eC (.int 2147483647)))) (aA 4)) (eC (.int 2147483629)))))
 (aF (bU (eB (aU db (aA 2) (aU xm (eC (.int 10)) (eC (.int 18))))) (aH 2 (eC (.int 0))) ck)
 (ao (dR (aB (aA 2) (aB (aA 3) aC)))))))))
def nw:cg:=bV 3 1 (aF (aH 1 jg)
 (aF (dj (aJ (aA 0)) (gN 2) (gu (aA 1) (aA 2) (aU aO (gz (aA 1) (aA 2) (eC (.int 0))) (eC (.int 1)))))
 (ao (aG aY (aB (aG fA (aB (aI (ik (aA 1)) 1 [1] (gN 0) (eB (aU dE (aU ez (aU fw (aA 1) (aA 0)) (eC (.int 2))) (eC (.int 1)))) (aA 0)) aC)) aC)))))
def zp:cg:=bV 5 2 (aF (bU (eB (aU kX (aU cx (aA 0) (eC (.int 0))) (eC (.int 0)))) (aF (aH 2 (aU ez (aU cx (aA 0) (eC (.int 0))) (aA 1)))
 (aF (da (aA 0) (eC (.int 0)) (aU lZ (aU cx (aA 0) (eC (.int 0))) (aA 1)))
 (ao (aA 2)))) ck)
 (aF (aH 3 (eC (.int 0)))
 (aF (aH 4 (eC (.int 1)))
 (aF (cZ (eB (aU db (aA 4) (aA 1))) (aF (da (aA 0) (eC (.int 1)) (aU ez (aU aO (aU cL (aU cx (aA 0) (eC (.int 1))) (eC (.int 48271))) (eC (.int 7919))) (eC (.int 2147483647))))
 (aF (aH 3 (aU aO (aU cL (aA 3) (eC (.int 1073741789))) (aU ez (aU cL (aU lZ (aU cx (aA 0) (eC (.int 1))) (eC (.int 8))) (eC (.int 69621))) (eC (.int 1073741789)))))
 (aH 4 (aU cL (aA 4) (eC (.int 1073741789)))))))
 (ao (aU ez (aA 3) (aA 1)))))))
def yZ:cg:=bV 6 2 (aF (aH 2 (aS aC))
 (aF (aH 3 (aA 1))
 (aF (dj (jd (aB (aG zp (aB (aA 0) (aB (eC (.int 7)) aC))) aC)) (gN 4) (bU (eB (aU kX (aA 3) (eC (.int 0)))) (aF (aH 5 (aU aO (eC (.int 1)) (aG zp (aB (aA 0) (aB (aU cx (fy (aB (aA 3) (aB (aG mm (aB (aA 3) (aB (eC (.int 4)) aC))) aC))) (aG zp (aB (aA 0) (aB (eC (.int 2)) aC)))) aC)))))
 (aF (aH 2 (aU aO (aA 2) (aS (aB (aA 5) aC))))
 (aH 3 (aU fN (aA 3) (aA 5))))) ck))
 (ao (aA 2)))))
def nT:cg:=bV 1 1 (ao (fz (aU sY (aG bE (aB (aA 0) aC)) (eC (.int 6))) (aU sY (aG gd (aB (aA 0) aC)) (eC (.int 16)))))
def o6:cg:=bV 1 1 (ao (fz (aG av (aB (aA 0) (aB (eC (.ty "int")) aC))) (mh (aG av (aB (aA 0) (aB (eC (.ty "bool")) aC))))))
def yS:cg:=bV 2 2 (aF (bU (eB (aU dE (aA 1) (eC (.int 0)))) (ao (aA 0)) ck)
 (aF (bU (eB (aU db (aG bE (aB (aA 0) aC)) (eC (.int 6)))) (ao (aU aO (aA 0) (aS (aB (aA 1) aC)))) ck)
 (ao (aU aO (j7 (aA 0) bq (ay (mZ hD (eC (.int 1))))) (aS (aB (aU aO (aU cx (aA 0) (mZ hD (eC (.int 1)))) (aA 1)) aC))))))
def y9:cg:=bV 5 3 (aF (aH 3 (aI (jd (aB (aA 1) aC)) 1 [0,2] (gN 0) aK (aG yZ (aB (aA 1) (aB (aA 2) aC)))))
 (aF (bU (gE (eB (aU dE (aG zp (aB (aA 0) (aB (eC (.int 2)) aC))) (eC (.int 1)))) (eB (aU kX (aA 1) (eC (.int 0))))) (aF (aH 4 (aG (ji true) (aB (aI (aJ (aA 3)) 1 [] (gN 0) aK (aG gd (aB (aA 0) aC))) aC)))
 (aH 3 (aI (aJ (aA 3)) 1 [4] (gN 0) aK (aG yS (aB (aA 0) (aB (aU fN (aA 1) (aG gd (aB (aA 0) aC))) aC)))))) ck)
 (ao (aG nw (aB (aA 3) aC)))))
def o9:cg:=bV 1 1 (ao (aG (gC true) (aB (aI (jc (aB (aA 0) (aB (j7 (aA 0) (ay (eC (.int 1))) bq) aC))) 2 [] (gT 2 (dz (gN 0) (dz (gN 1) im))) aK (aU db (aA 0) (aA 1))) aC)))
def yy:cg:=bV 1 1 (aF (bU (dC (cn (aG av (aB (aA 0) (aB (eC (.ty "tuple")) aC))))) (ao (eC (.bl false))) ck)
 (ao (fz (aG (gC true) (aB (aI (aJ (aA 0)) 1 [] (gN 0) aK (fz (aG o6 (aB (aA 0) aC)) (aU Au (aA 0) (eC (.int 1))))) aC)) (aG nT (aB (aA 0) aC)))))
def yK:cg:=bV 1 1 (aF (bU (dC (cn (aG av (aB (aA 0) (aB (eC (.ty "tuple")) aC))))) (ao (eC (.bl false))) ck)
 (ao (fz (aG (gC true) (aB (aI (aJ (aA 0)) 1 [] (gN 0) aK (aG yy (aB (aA 0) aC))) aC)) (aG o9 (aB (aA 0) aC)))))
def PJ:SS:=(aF (aH 7 (aG zp (aB (aA 0) (aB (aU aO (aA 3) (eC (.int 1))) aC))))
 (aF (da (aA 5) (aU ez (aU aO (aA 4) (aA 6)) (aA 1)) (aA 7))
 (aH 3 (aU fN (aA 3) (aA 7)))))
def sJ:cg:=bV 8 3 (aF (aH 3 (aG zp (aB (aA 0) (aB (aU aO (aA 2) (eC (.int 1))) aC))))
 (aF (aH 4 (aG zp (aB (aA 0) (aB (aA 1) aC))))
 (aF (aH 5 (dU (jd (aB (aA 1) aC)) 1 [] (gN 0) aK (eC (.int 0))))
 (aF (dj (jd (aB (aU fN (aA 1) (eC (.int 1))) aC)) (gN 6) PJ)
 (aF (da (aA 5) (aU ez (aU fN (aU aO (aA 4) (aA 1)) (eC (.int 1))) (aA 1)) (aA 3))
 (ao (aG aY (aB (aA 5) aC))))))))
def yR:cg:=bV 2 2 (aF (bU (iQ (dC (cn (aG av (aB (aA 1) (aB (eC (.ty "tuple")) aC))))) (eB (aU lY (aG bE (aB (aA 1) aC)) (aA 0)))) (ao (eC (.bl false))) ck)
 (ao (aG (gC true) (aB (aI (aJ (aA 1)) 1 [] (gN 0) aK (fz (aG o6 (aB (aA 0) aC)) (aU Au (aA 0) (eC (.int 0))))) aC))))
def yz:cg:=bV 2 2 (aF (bU (dC (cn (aG av (aB (aA 1) (aB (eC (.ty "tuple")) aC))))) (ao (eC (.bl false))) ck)
 (ao (fz (aG (gC true) (aB (aI (aJ (aA 1)) 1 [0] (gN 0) aK (aG yR (aB (aA 1) (aB (aA 0) aC)))) aC)) (aG o9 (aB (aA 1) aC)))))
def PF:SS:=(cR (oJ (aA 1)))
def zA:cg:=bV 2 1 (aF (aH 1 (aG iI (aB (aA 0) aC)))
 (aF (cZ (gE (cn (aA 1)) (eB (aU dE (aU cx (aA 1) (mZ hD (eC (.int 1)))) (eC (.int 0))))) PF)
 (ao (aG aY (aB (aA 1) aC)))))
def O8:SS:=(aF (jJ 1 (oI (λ_ _=>True) λi j=>.int (i+j)) (aU cL (aA 2) (aA 3)))
 (aH 2 (aU aO (aU cL (eC (.int 2)) (aA 2)) (eC (.int 1)))))
def yN:cg:=bV 4 1 (aF (aH 1 (eC (.int 0)))
 (aF (aH 2 (eC (.int 1)))
 (aF (dj (aJ (aA 0)) (gN 3) O8)
 (ao (aA 1)))))
def yM:cg:=bV 1 1 (aF (bU (iQ (dC (cn (aG av (aB (aA 0) (aB (eC (.ty "tuple")) aC))))) (eB (aU kX (aG bE (aB (aA 0) aC)) (eC (.int 4))))) (ao (eC (.bl false))) ck)
 (aF (bU (dC (cn (aG (gC true) (aB (aI (aJ (aA 0)) 1 [] (gN 0) aK (fz (aG o6 (aB (aA 0) aC)) (aU Au (aA 0) (eC (.int 0))))) aC)))) (ao (eC (.bl false))) ck)
 (ao (fz (aU dE (aG zA (aB (aA 0) aC)) (aA 0)) (aU sY (aG yN (aB (aA 0) aC)) (eC (.int 16)))))))
def yQ:cg:=bV 1 1 (aF (bU (dC (cn (aG av (aB (aA 0) (aB (eC (.ty "tuple")) aC))))) (ao (eC (.bl false))) ck)
 (ao (fz (aG (gC true) (aB (aI (aJ (aA 0)) 1 [] (gN 0) aK (aG yM (aB (aA 0) aC))) aC)) (aG o9 (aB (aA 0) aC)))))
def Dg:SS:=(aF (bU (eB (aU (eT true) (aA 2) (eC (.str "0123456789")))) lT ck)
 (jJ 1 i3 (aA 2)))
def pb:cg:=bV 3 1 (aF (aH 1 (eC (.str "")))
 (aF (dj (hG (aA 0)) (gN 2) Dg)
 (ao (aA 1))))
def qh:cg:=bV 1 1 (aF (bU (iQ (dC (eB (dA sY sY (eC (.int 1)) (aG bT (aB (aA 0) aC)) (eC (.int 2))))) (eB (aU lY (aG pb (aB (aA 0) aC)) (aA 0)))) (ao (eC .non)) ck)
 (ao (fO (eB (aU dE (aG dX (aB (aG fX (aB (aA 0) aC)) aC)) (aA 0))) (aG fX (aB (aA 0) aC)) (eC .non))))
def lA:cg:=bV 2 2 (aF (bU (eB (aU dE (aA 0) (eC (.str "-")))) (ao (aS aC)) ck)
 (ao (aG aY (aB (aI (aJ (dQ (aA 0) (aB (aA 1) aC))) 1 [] (gN 0) aK (aG qh (aB (aA 0) aC))) aC))))
def o7:cg:=bV 1 1 (ao (fO (cn (aA 0)) (dS (eC (.str " + ")) (aB (aA 0) aC)) (eC (.str "0"))))
def ql:cg:=bV 2 2 (ao (fO (cn (aA 0)) (dS (aA 1) (aB (aI (aJ (aA 0)) 1 [] (gN 0) aK (aG dX (aB (aA 0) aC))) aC)) (eC (.str "-"))))
def yO:cg:=bV 1 1 (ao (aG o7 (aB (aI (aJ (aA 0)) 1 [] (gN 0) aK (aG ql (aB (aA 0) (aB (eC (.str ".")) aC)))) aC)))
def yU:cg:=bV 1 1 (ao (aG o7 (aB (aI (aJ (aA 0)) 1 [] (gN 0) aK (aG ql (aB (aA 0) (aB (eC (.str ",")) aC)))) aC)))
def ue:cg:=bV 1 1 (ao (fO (gy (aA 0)) (aG qh (aB (aA 0) aC)) (eC (.int 1))))
def C9:SS:=(aF (aH 4 (eC (.int 0)))
 (aF (bU (cn (gk (aA 1) (aB (aA 3) aC))) (aF (aH 5 (aG pb (aB (cP (aA 1) (ay (eC (.int 1))) bq) aC)))
 (aF (aH 1 (cP (aA 1) (ay (aU aO (eC (.int 1)) (aG bT (aB (aA 5) aC)))) bq))
 (aH 4 (aG ue (aB (aA 5) aC))))) ck)
 (cR (bW (aA 2) (aB (aA 4) aC)))))
def qj:cg:=bV 6 2 (aF (bU (eB (aU dE (aA 1) (eC (.str "1")))) (ao (aU eL (aS (aB (eC (.int 0)) aC)) (aA 0))) ck)
 (aF (aH 2 (dR aC))
 (aF (dj (hG (cP (eC (.str "abcdefghij")) bq (ay (aA 0)))) (gN 3) C9)
 (ao (fO (eB (aU dE (aA 1) (eC (.str "")))) (aG aY (aB (aA 2) aC)) (eC .non))))))
def yV:cg:=bV 2 2 (aF (bU (eB (aU dE (aA 1) (eC (.int 0)))) (ao (eC (.str ""))) ck)
 (ao (fO (eB (aU dE (aA 1) (eC (.int 1)))) (aA 0) (aU Av (aA 0) (aA 1)))))
def yY:cg:=bV 2 1 (aF (aH 1 (dS (eC (.str "")) (aB (aI (me (aB (eC (.str "abcdefghij")) (aB (aA 0) aC))) 2 [] (gT 2 (dz (gN 0) (dz (gN 1) im))) aK (aG yV (aB (aA 0) (aB (aA 1) aC)))) aC)))
 (ao (fO (gy (aA 1)) (aA 1) (eC (.str "1")))))
def yL:cg:=bV 1 1 (ao (aG o7 (aB (aI (aJ (aA 0)) 1 [] (gN 0) aK (aG yY (aB (aA 0) aC))) aC)))
end Dd
namespace L2
namespace St
end St
end L2
namespace L2
open PySem.W PyProof.Rows Spec
namespace St
end St
end L2
namespace L2
open Spec PyProof.Rows PySem.W
end L2
namespace Dd
open L2 PyProof.Rows
end Dd
namespace L2
open Spec PyProof.Rows PySem.W
end L2
namespace Dd
open L2 PyProof.Rows
end Dd
namespace Dd
open L2
noncomputable def cU(j:Int):Prop:=-(2^62)<=j/\j<2^62
instance (j:Int):Decidable (cU j):=by unfold cU;infer_instance
theorem pJ(b:-1000000000000<=j)(a:j<=1000000000000):cU j:=⟨by lia,by lia⟩
@[simp] theorem Mx:eC d σ au=.ok d au:=rfl
@[simp] theorem EQ:aA i σ au=(match σ[i]? with
 |some (some d)=>.ok d au
 |_=>.stuck):=rfl
@[simp] theorem uj:aU g f f' σ au=(f σ au).bind λx a=>(f' σ a).bind λy st2=>g x y st2:=rfl
@[simp] theorem R3:mZ g f σ au=(f σ au).bind λx st1=>g x st1:=rfl
@[simp] theorem vG:aG g f σ au=(f σ au).bind λa st1=>g a st1:=rfl
@[simp] theorem Ea:aC σ au=.ok [] au:=rfl
@[simp] theorem qM:aB f g σ au=(f σ au).bind λx a=>(g σ a).bind λb st2=>.ok (x::b) st2:=rfl
@[simp] theorem Mz:eB f σ au=(f σ au).bind λv a=>(match v with
 |.bl b=>.ok b a
 |_=>.stuck):=rfl
@[simp] theorem EN:cn f σ au=(f σ au).bind λv a=>(match mY a v with
 |some b=>.ok b a
 |none=>.stuck):=rfl
@[simp] theorem EK:fz f f' σ au=(f σ au).bind λv a=>(match v with
 |.bl true=>f' σ a
 |.bl false=>.ok (.bl false) a
 |_=>.stuck):=rfl
@[simp] theorem DF:PR f f' σ au=(f σ au).bind λv a=>(match v with
 |.bl true=>.ok (.bl true) a
 |.bl false=>f' σ a
 |_=>.stuck):=rfl
@[simp] theorem EM:mh f σ au=(f σ au).bind λv a=>(match v with
 |.bl b=>.ok (.bl (!b)) a
 |_=>.stuck):=rfl
@[simp] theorem Ee:gE f f' σ au=(f σ au).bind λb st1=>if b=true then f' σ st1 else .ok false st1:=rfl
@[simp] theorem Dj:iQ f f' σ au=(f σ au).bind λb st1=>if b=true then .ok true st1 else f' σ st1:=rfl
@[simp] theorem R6:dC f σ au=(f σ au).bind λb st1=>.ok (!b) st1:=rfl
@[simp] theorem R7:aK σ au=.ok true au:=rfl
@[simp] theorem DD:fO c f f' σ au=(c σ au).bind λb st1=>if b=true then f σ st1 else f' σ st1:=rfl
@[simp] theorem EO:aS g σ au=(g σ au).bind λb a=>if b.length<=sizeLine then .ok (.tup b) a else .stuck:=rfl
@[simp] theorem EL:fy g σ au=(g σ au).bind λb a=>if b.length<=sizeLine then .ok (.lst b) a else .stuck:=rfl
@[simp] theorem Gz:dR g σ au=(g σ au).bind λb a=>if b.length<=sizeLine then .ok (.ref a.length) (a++[.lst b]) else .stuck:=rfl
@[simp] theorem Sw:dA g g' f f' f'' σ au=(f σ au).bind λx b=>(f' σ b).bind λy d=>(g x y d).bind λz a=>(match z with
 |.bl true=>(f'' σ a).bind λw c=>g' y w c
 |.bl false=>.ok (.bl false) a
 |_=>.stuck):=rfl
@[simp] theorem Si:jg σ au=.ok (.ref au.length) (au++[.dT []]):=rfl
@[simp] theorem R4:ck σ au=.ok (.nx σ) au:=rfl
@[simp] theorem Sb:lT σ au=.ok (.brk σ) au:=rfl
@[simp] theorem FM:ao f σ au=(f σ au).bind λv st1=>.ok (.ret v) st1:=rfl
@[simp] theorem Sq:pI σ au=.ok (.ret .non) au:=rfl
@[simp] theorem So:cR f σ au=(f σ au).bind λ_ st1=>.ok (.nx σ) st1:=rfl
@[simp] theorem Se:aH i f σ au=(f σ au).bind λv st1=>.ok (.nx (σ.set i (some v))) st1:=rfl
@[simp] theorem FN:aF s t σ au=(match s σ au with
 |.ok (.nx σ1) st1=>t σ1 st1
 |r=>r):=rfl
@[simp] theorem DY:bU c s t σ au=(c σ au).bind λb st1=>if b=true then s σ st1 else t σ st1:=rfl
@[simp] theorem FK:jJ i g f σ au=(match σ[i]? with
 |some (some x)=>(f σ au).bind λy a=>(g x y a).bind λz b=>.ok (.nx (σ.set i (some z))) b
 |_=>.stuck):=rfl
@[simp] theorem Sc:dj it bd body σ au=(it σ au).bind λa st1=>dO bd body a σ st1:=rfl
@[simp] theorem EU:aJ f σ au=(f σ au).bind λx a=>(match gs x with
 |some xs=>.ok xs a
 |none=>.stuck):=rfl
@[simp] theorem DK:jd g σ au=(g σ au).bind λb a=>(match b with
 |[.int j]=>if cU j then .ok (rng 0 j.toNat) a else .stuck
 |_=>.stuck):=rfl
@[simp] theorem DL: xx g σ au=(g σ au).bind λb a=>(match b with
  |[.int i,.int j]=>if cU i/\cU j then .ok (rng i (j-i).toNat) a else .stuck
  |_=>.stuck):=by
  show(g σ au).bind _=_
  congr 1
  funext b a
  split
  · unfold cU
    simp only[and_assoc]
  · rename_i h
    first
      |rfl
      | (split
         · rename_i i j
           exact absurd rfl (h i j)
         · rfl)
@[simp] theorem Sk:ik f σ au=(f σ au).bind λx a=>(match x with
 |.ref n=>(match a[n]? with
  |some (.dT kvs)=>.ok (aL (kvs.map (·.1))) (a.set n (.fT kvs))
  |_=>.stuck)
 |_=>.stuck):=rfl
@[simp] theorem vH:aI it k is bd c f σ au=(it σ au).bind λd a=>if d.length<=sizeLine then(aX bd c f d (aV k is σ) a).bind λe b=>.ok (.lst e) b else .stuck:=rfl
@[simp] theorem DC:sZ f σ au=(f σ au).bind λx a=>(match x with
 |.ref n=>(match a[n]? with
  |some (.lst xs)=>.ok (.lst xs) (a.set n .dead)
  |_=>.stuck)
 |_=>.stuck):=rfl
@[simp] theorem Sl:bq σ au=.ok none au:=rfl
@[simp] theorem G7:ay f σ au=(f σ au).bind λv a=>(match v with
 |.int i=>.ok (some i) a
 |_=>.stuck):=rfl
@[simp] theorem DH {lo:DS->aa->ar (Option Int)}:j7 f lo hi σ au=(f σ au).bind λx b=>(lo σ b).bind λl c=>(hi σ c).bind λh a=>(match x with
 |.tup xs=>.ok (.tup (cutD xs l h)) a
 |x=>match dY a x with
  |some xs=>.ok (.lst (cutD xs l h)) a
  |none=>.stuck):=rfl
@[simp] theorem J2:bW f g σ au=(f σ au).bind λx a=>(match x,dY a x with
 |.ref n,some _=>(g σ a).bind λc b=>(match c,b[n]? with
  |[y],some (.lst xs)=>if xs.length<sizeLine then .ok .non (b.set n (.lst (xs++[y]))) else .stuck
  |_,_=>.stuck)
 |_,_=>.stuck):=rfl
@[simp] theorem SB:oK f g σ au=(f σ au).bind λx b=>(match x,dY b x with
 |.ref n,some _=>(g σ b).bind λc a=>(match c,a[n]? with
  |[y],some (.lst xs)=>(match dY a y with
   |some zs=>if xs.length+zs.length<=sizeLine then .ok .non (a.set n (.lst (xs++zs))) else .stuck
   |none=>.stuck)
  |_,_=>.stuck)
 |_,_=>.stuck):=rfl
@[simp] theorem Jg:da f g h σ au=(h σ au).bind λv b=>(f σ b).bind λx c=>(g σ c).bind λy a=>(match x,y with
 |.ref n,.int k=>(match a[n]? with
  |some (.lst xs)=>(match i9 xs.length k with
   |some j=>.ok (.nx σ) (a.set n (.lst (xs.set j v)))
   |none=>.stuck)
  |_=>.stuck)
 |_,_=>.stuck):=rfl
@[simp] theorem Iq:gz f g h σ au=(f σ au).bind λx b=>(match pairsOf b x with
 |some _=>(g σ b).bind λy c=>(h σ c).bind λz a=>(match pairsOf a x,dN y with
  |some kvs,some k=>.ok ((dw kvs k).getD z) a
  |_,_=>.stuck)
 |none=>.stuck):=rfl
@[simp] theorem Sj:xB f g σ au=(f σ au).bind λx a=>(match pairsOf a x with
 |some _=>(g σ a).bind λy b=>(match x,dN y with
  |.ref n,some k=>(match b[n]? with
   |some (.dT kvs)=>(match dw kvs k with
    |some v=>.ok v (b.set n (.dT (pP kvs k)))
    |none=>.stuck)
   |_=>.stuck)
  |_,_=>.stuck)
 |none=>.stuck):=rfl
@[simp] theorem Hr:gu f g h σ au=(h σ au).bind λv b=>(f σ b).bind λx c=>(g σ c).bind λy a=>(match x,dN y with
 |.ref n,some k=>(match a[n]? with
  |some (.dT kvs)=>if kvs.length<sizeLine then .ok (.nx σ) (a.set n (.dT (kC kvs k v))) else .stuck
  |_=>.stuck)
 |_,_=>.stuck):=rfl
theorem DJ:bV n np b ds au=if ds.length=np then(match b (ds.map some++List.replicate (n-np) none) au with
 |.ok (.ret v) st'=>.ok v st'
 |.ok (.nx _) st'=>.ok .non st'
 |.exc x st'=>.exc x st'
 |_=>.stuck) else .stuck:=rfl
@[simp] theorem Mh [DecidableRel C]:oI C h (.int i) (.int j) au=if C i j then .ok (h i j) au else .stuck:=rfl
@[simp] theorem Ff:aO (.int i) (.int j) au=.ok (.int (i+j)) au:=rfl
@[simp] theorem Fh:aO (.tup a) (.tup b) au=if a.length+b.length<=sizeLine then .ok (.tup (a++b)) au else .stuck:=rfl
@[simp] theorem R9:db (.int i) (.int j) au=.ok (.bl (decide (i<j))) au:=rfl
@[simp] theorem Sa:hD (.int i) au=.ok (.int (-i)) au:=rfl
@[simp] theorem mL (ns:List Int):bF (ns.map .int)=some ns:=by
 induction ns with
 |nil=>rfl
 |cons n ns ih=>rw[dr,bF,ih];rfl
@[simp] theorem P1 (l:List (List Int)):eZ (aL l)=some l:=by
 induction l with
 |nil=>rfl
 |cons n ns ih=>
  unfold aL at ih ⊢;rw[dr,eZ,mL,ih];rfl
@[simp] theorem NJ (ns:List Int):dN (aN ns)=some ns:=mL ns
theorem yg:dataOf au (.int i)=some (.int i):=rfl
@[simp] theorem qq:dE (.int i) (.int j) au=.ok (.bl (decide (i=j))) au:=by
 show cO false (.int i) (.int j) au=_;unfold cO;rw[yg,yg];dsimp only;rw[if_pos ⟨rfl,rfl⟩];show ar.ok (D.bl (i==j)) au=_;rw[show(i==j)=decide (i=j) from by rw[kR];simp]
@[simp] theorem DQ:lY (.int i) (.int j) au=.ok (.bl (!decide (i=j))) au:=by
 show cO true (.int i) (.int j) au=_;unfold cO;rw[yg,yg];dsimp only;rw[if_pos ⟨rfl,rfl⟩];show ar.ok (D.bl (!(i==j))) au=_;rw[show(i==j)=decide (i=j) from by rw[kR];simp]
theorem BE(a:List Int):bA (a.map .int)=some (dI a):=by
 induction a with
 |nil=>rfl
 |cons n a ih=>rw[dr,bA,ih];rfl
theorem JR(l:List (List Int)):bA (aL l)=some (l.map cQ):=by
 induction l with
 |nil=>rfl
 |cons n ns ih=>
  unfold aL at ih ⊢;rw[dr,bA,ih,bZ,BE];rfl
abbrev aM(l:List (List Int)):D:=.tup (aL l)
theorem M1(l:List (List Int)):dataOf au (aM l)=some (.tuple (l.map cQ)):=by
 show(bA (aL l)).map PyData.tuple=_;rw[JR];rfl
theorem M0(l:List Int):dataOf au (aN l)=some (cQ l):=by
 show(bA (l.map .int)).map PyData.tuple=_;rw[BE];rfl
theorem GV(a b:List (List Int)):cO neg (aM a) (aM b) au=.ok (.bl (if neg then !decide (a=b) else decide (a=b))) au:=by
 unfold cO;rw[M1,M1];dsimp only;rw[if_pos ⟨ON a,ON b⟩];have e:PyData.eqv (.tuple (a.map cQ)) (.tuple (b.map cQ))=decide (a=b):=NE a b;rw[e]
section
variable {au:aa}
theorem GT{neg:Bool}(a b:List Int):cO neg (aN a) (aN b) au=.ok (.bl (if neg then !decide (a=b) else decide (a=b))) au:=by
 unfold cO;rw[M0,M0];dsimp only;rw[if_pos ⟨Oq a,Oq b⟩,MZ]
end
theorem ag(n:Nat)(h:n<=1000000):n<=sizeLine:=by rw[hY];lia
theorem rk(n:Nat)(h:n<=1000000):n<sizeLine:=by rw[hY];lia
theorem vK(I:Nat->DS->aa->Prop):∀(g:List D) (k:Nat) (a:DS) (b:aa),I k a b ->
  (∀i x a b,g[i]?=some x->I (k+i) a b->∃j f d,bd x a=some j/\body j b=.ok (.nx f) d/\I (k+i+1) f d)->∃e c,dO bd body g a b=.ok (.nx e) c/\I (k+g.length) e c
 |[],k,a,b,h,_=>⟨a,b,rfl,h⟩
 |x::g,k,a,b,h,s=>by
  obtain⟨j,f,d,p,q,n⟩:=s 0 x a b rfl h;obtain⟨e,c,m,l⟩:=vK I g (k+1) f d n λi y a b r o=>by
   have:=s (i+1) y a b (by simpa using r) (by rw[show k+(i+1)=k+1+i by lia];exact o);rw[show k+(i+1)+1=k+1+i+1 by lia] at this;exact this
  refine⟨e,c,?_,by rw[d5,show k+(g.length+1)=k+1+g.length by lia];exact l⟩;unfold dO;rw[p];dsimp only;rw[q];exact m
theorem uO(I:Nat->DS->aa->Prop) (f:I 0 σ au)
  (s:∀i x σ au,xs[i]?=some x->I i σ au->∃a d b,bd x σ=some a/\body a au=.ok (.nx d) b/\I (i+1) d b):∃c st',dO bd body xs σ au=.ok (.nx c) st'/\I xs.length c st':=by
 have:=vK I xs 0 σ au f λi x σ au g e=>by
  rw[iW] at e ⊢;exact s i x σ au g e
 rw[iW] at this;exact this
theorem FI{lo:Int}(h:(rng lo n)[i]?=some x):i<n/\x=.int (lo+i):=p6 h
theorem jA(lo:Int)(n:Nat):(rng lo n).length=n:=by simp[rng]
theorem Bi(I:Nat->List D->DS->aa->Prop):∀(n:List D) (k:Nat) (a:List D) (j:DS) (l:aa),I k a j l ->
  (∀i x a j l,n[i]?=some x->I (k+i) a j l->∃d b e,bd x j=some d/\c d l=.ok b e/\((b=false/\I (k+i+1) a d e)\/(b=true/\∃y g,f d e=.ok y g/\I (k+i+1) (a++[y]) d g))) ->
  ∃p o m,aX bd c f n j l=.ok p m/\I (k+n.length) (a++p) o m
 |[],k,a,j,l,h,_=>⟨[],j,l,rfl,by rw[fE];exact h⟩
 |x::n,k,a,j,l,h,s=>by
  have u:∀i y a j l,n[i]?=some y->I (k+1+i) a j l->∃d b e,bd y j=some d/\c d l=.ok b e/\((b=false/\I (k+1+i+1) a d e)\/(b=true/\∃z g,f d e=.ok z g/\I (k+1+i+1) (a++[z]) d g)):=λi y a j l A C=>by
   have:=s (i+1) y a j l (by simpa using A) (by rw[show k+(i+1)=k+1+i by lia];exact C);rw[show k+(i+1)+1=k+1+i+1 by lia] at this;exact this
  obtain⟨d,b,e,w,v,q⟩:=s 0 x a j l rfl h;rcases q with⟨rfl,q⟩|⟨rfl,y,g,E,q⟩
  ·obtain⟨p,o,m,t,r⟩:=Bi I n (k+1) a d e q u;refine⟨p,o,m,?_,by rw[d5,show k+(n.length+1)=k+1+n.length by lia];exact r⟩;unfold aX;rw[w];dsimp only;rw[v];exact t
  ·obtain⟨p,o,m,t,r⟩:=Bi I n (k+1) (a++[y]) d g q u;refine⟨y::p,o,m,?_,by rw[d5,show k+(n.length+1)=k+1+n.length by lia];rw[eu] at r;exact r⟩;unfold aX;rw[w];dsimp only;rw[v];dsimp only[nq];rw[if_pos rfl,E];dsimp only[nq];rw[t]
   rfl
theorem F8(I:Nat->List D->DS->aa->Prop) (l:I 0 [] σ au)
  (s:∀i x d σ au,xs[i]?=some x->I i d σ au->∃a b e,bd x σ=some a/\c a au=.ok b e/\((b=false/\I (i+1) d a e)\/(b=true/\∃y g,f a e=.ok y g/\I (i+1) (d++[y]) a g))):
  ∃j h st',aX bd c f xs σ au=.ok j st'/\I xs.length j h st':=by
 have:=Bi I xs 0 [] σ au l λi x d σ au m k=>by
  rw[iW] at k ⊢;exact s i x d σ au m k
 rw[iW] at this
 simpa using this
theorem KQ(I:Nat->DS->aa->Prop)(d:DS->aa->Prop) (r:I k σ au)(o:k<lN)
  (s:∀j σ au,I j σ au->∃b e,c σ au=.ok b e/\((b=false/\d σ e)\/(b=true/\∃i g f,body σ e=.ok (.nx g) f/\I i g f/\i<j))):∃a st',cZ c body σ au=.ok (.nx a) st'/\d a st':=by
 have l:∀n j σ au,I j σ au->j<n->∃a st',cH c body n σ au=.ok (.nx a) st'/\d a st':=by
  intro n
  induction n with
  |zero=>intro j σ au _ h;lia
  |succ n ih=>
   intro j σ au q u;obtain⟨b,e,t,h⟩:=s j σ au q;unfold cH;rw[t];dsimp only[nq];rcases h with⟨rfl,h⟩|⟨rfl,i,g,f,w,p,x⟩
   ·exact⟨σ,e,by rw[if_neg '"'],h⟩
   ·obtain⟨a,st',m,v⟩:=ih i g f p '!';refine⟨a,st',?_,v⟩;rw[if_pos rfl,w];exact m
 exact l lN k σ au r o
@[simp] theorem SH:bI au (.tup xs)=some xs:=rfl
@[simp] theorem SF:bI au (.scr xs)=some xs:=rfl
@[simp] theorem SD:bI au (.lst xs)=some xs:=rfl
@[simp] theorem Sz:gs (.tup xs)=some xs:=rfl
@[simp] theorem Sx:gs (.lst xs)=some xs:=rfl
@[simp] theorem Sy:gs (.scr xs)=some xs:=rfl
@[simp] theorem Sf:dY au (.lst xs)=some xs:=rfl
theorem pY(h:au[n]?=some (.lst xs)):dY au (.ref n)=some xs:=by
 unfold dY;dsimp only;rw[h]
theorem qe(h:au[n]?=some (.lst xs)):bI au (.ref n)=some xs:=pY h
theorem ni(h:bI au x=some xs)(a:L2.atI xs i=some d):cx x (.int i) au=.ok d au:=by
 unfold cx;rw[h];dsimp only;rw[a]
@[simp] theorem Su:bE [.tup xs] au=.ok (.int xs.length) au:=rfl
@[simp] theorem Sr:bE [.lst xs] au=.ok (.int xs.length) au:=rfl
@[simp] theorem Ss:bE [.scr xs] au=.ok (.int xs.length) au:=rfl
@[simp] theorem R5:kG [.int i] au=.ok (.int (if i<0 then -i else i)) au:=rfl
@[simp] theorem RZ:tj g [.int i,.int j] au=.ok (.int (g i j)) au:=rfl
@[simp] theorem HP:gd [aN ns] au=.ok (.int ns.sum) au:=by
 unfold gd;simp
@[simp] theorem SI:aY [.tup xs] au=.ok (.tup xs) au:=rfl
@[simp] theorem P2:aY [.lst xs] au=.ok (.tup xs) au:=rfl
theorem N3(h:au[n]?=some (.lst xs)):aY [.ref n] au=.ok (.tup xs) au:=by
 unfold aY;dsimp only;rw[pY h]
theorem QR{l:List (List Int)}(h:l.length<=1000000):fA [.lst (aL l)] au=.ok (.lst (aL (cJ l))) au:=by
 unfold fA;simp[h]
theorem si{j:Nat}(h:xs[j]?=some d):L2.atI xs (j:Int)=some d:=vt h
theorem tP{a:aa}(h:n<a.length):(a.set n o)[n]?=some o:=lM h
section
variable {au:aa}{n:Nat}
theorem jU{o:O}(h:au[n]?=some o):n<au.length:=(du.mp h).1
end
section
variable {au:aa}{n:Nat}{i:Int}
theorem FO{o:O}(h:au[n]?=some o):au.set n o=au:=by
 apply wC;intro i;by_cases e:i=n
 ·subst e;rw[lM (jU h),h]
 ·rw[jF (cb e)]
end
theorem rY{a:List D}(h:a.length=np)(e:b (a.map some++List.replicate (n-np) none) au=.ok (.ret v) st'):bV n np b a au=.ok v st':=by
 rw[DJ,if_pos h,e]
noncomputable abbrev eY(c x:Int):O:=.lst [.int c,.int x]
def bO(a:aa) (n:Nat):Prop:=∃c x:Int,a[n]?=some (eY c x)/\0<=c/\0<=x
structure bw (au st':aa) (n:Nat):Prop where
 len:au.length<=st'.length
 keep:∀ i,i<au.length->i≠n->st'[i]?=au[i]?
 bag:bO st' n
theorem bw.refl(h:bO au n):bw au au n:=⟨bi _,λ_ _ _=>rfl,h⟩
theorem bw.trans(a:bw au st1 n)(b:bw st1 st2 n):bw au st2 n:=
 ⟨aT a.len b.len,λi d c=>(b.keep i (cD d a.len) c).trans (a.keep i d c),b.bag⟩
theorem bw.set{a:aa}{n:Nat}{c x:Int}(h:bO a n)(f:0<=c)(d:0<=x):bw a (a.set n (eY c x)) n:=by
 obtain⟨_,_,e,_⟩:=h;exact⟨by rw[mQ];exact bi _,λi _ b=>jF (cb b),c,x,tP (jU e),f,d⟩
theorem bw.more{a:aa}{n:Nat}(h:bO a n)(g:aa):bw a (a++g) n:=by
 obtain⟨c,x,e,d,b⟩:=h;exact⟨by rw[cq];lia,λi h _=>f7 h,c,x,by rw[f7 (jU e)];exact e,d,b⟩
theorem Hz{au:aa}{n:Nat}{m:Int}(q:bO au n)(h1:1<=m)(S:m<2^1000):
  ∃r f,zp [.ref n,.int m] au=.ok (.int r) f/\0<=r/\r<m/\bw au f n/\f.length=au.length:=by
 obtain⟨c,x,i,u,A⟩:=id q;have C:∀{c x:Int}{au:aa},au[n]?=some (eY c x)->cx (.ref n) (.int 0) au=.ok (.int c) au:=λh=>ni (qe h) rfl
 have w:∀{c x:Int}{au:aa},au[n]?=some (eY c x)->cx (.ref n) (.int 1) au=.ok (.int x) au:=λh=>ni (qe h) rfl
 by_cases h0:0<c
 ·have Y:iq c m:=⟨by lia,S⟩
  have I:i9 2 0=some 0:=rfl;refine⟨c%m,au.set n (eY (c/m) x),rY rfl ?_,sL _ '!',Lh _ '!',bw.set q (Int.ediv_nonneg u '!') A,mQ⟩;simp[C i,h0,i,I,show(0:Int)<m by lia,Y]
 ·have g:=jU i
  have W:=KQ (c:=eB (aU db (aA 4) (aA 1))) (body:=aF (da (aA 0) (eC (.int 1)) (aU ez (aU aO (aU cL (aU cx (aA 0) (eC (.int 1))) (eC (.int 48271))) (eC (.int 7919))) (eC (.int 2147483647))))
   (aF (aH 3 (aU aO (aU cL (aA 3) (eC (.int 1073741789))) (aU ez (aU cL (aU lZ (aU cx (aA 0) (eC (.int 1))) (eC (.int 8))) (eC (.int 69621))) (eC (.int 1073741789)))))
   (aH 4 (aU cL (aA 4) (eC (.int 1073741789)))))) (k:=1000) (σ:=[some (.ref n),some (.int m),none,some (.int 0),some (.int 1)]) (au:=au)
   (λj l s=>∃b a d rr:Int,l=[some (.ref n),some (.int m),none,some (.int d),some (.int rr)]/\s=au.set n (eY b a)/\0<=b/\0<=a/\0<=d/\j<=1000/\2^(1000-j)<=rr)
   (λl s=>∃b a d:Int,(∃rr,l=[some (.ref n),some (.int m),none,some (.int d),some (.int rr)])/\s=au.set n (eY b a)/\0<=b/\0<=a/\0<=d)
   ⟨c,x,0,1,rfl,(FO i).symm,u,A,by lia,by lia,by decide⟩ '"' (by
    rintro j l s ⟨b,a,d,rr,rfl,rfl,p,v,E,a4,H⟩;have G:(au.set n (eY b a))[n]?=some (eY b a):=tP g;by_cases hlt:rr<m
    ·have hj:1<=j:=by
      rcases Lg j with z|z
      ·subst z;have U:(2:Int)^1000<=rr:=H;lia
      ·exact z
     have e1:i9 2 1=some 1:=rfl;have T:gf a 48271:=.inr ⟨by decide,by decide⟩;have m2:gf d 1073741789:=.inr ⟨by decide,by decide⟩;have m3:gf rr 1073741789:=.inr ⟨by decide,by decide⟩;have g2:∀y:Int,(au.set n (eY b y))[n]?=some (eY b y):=λy=>tP g
     have R:∀y:Int,gf y 69621:=λy=>.inr ⟨by decide,by decide⟩
     have Q:∀y:Int,iq y 8:=λy=>⟨by decide,by decide +kernel⟩
     refine⟨true,au.set n (eY b a),by simp[hlt],.inr ⟨rfl,j-1,_,au.set n (eY b ((a*48271+7919)%2147483647)),?_,⟨b,(a*48271+7919)%2147483647,d*1073741789+(a*48271+7919)%2147483647/8*69621%1073741789,rr*1073741789,rfl,rfl,p,?_,?_,by lia,?_⟩,by lia⟩⟩
     ·simp[w G,G,e1,T,m2,m3,R,Q,w (g2 _)]
     ·exact sL _ '!'
     ·have p:0<=d*1073741789:=Int.mul_nonneg E '!';have v:=sL ((a*48271+7919)%2147483647/8*69621) (show(1073741789:Int)≠0 by lia);lia
     ·have e:(2:Int)^(1000-(j-1))=2^(1000-j)*2:=by
       rw[←Int.pow_succ];congr 1;lia
      rw[e];have hp:(0:Int)<=2^(1000-j):=Int.pow_nonneg '"';lia
    ·exact⟨false,_,by simp[hlt],.inl ⟨rfl,b,a,d,⟨rr,rfl⟩,rfl,p,v,E⟩⟩)
  obtain⟨J,f,e,b,a,d,t,o,P,X,k3⟩:=W;obtain⟨rr,rfl⟩:=t;subst o;refine⟨d%m,au.set n (eY b a),rY rfl ?_,sL _ '!',Lh _ '!',bw.set q P X,mQ⟩;simp[C i,h0,e,show(0:Int)<m by lia]
theorem N2{a:List Int}(h:j<a.length):L2.atI (a.map D.int) (j:Int)=some (.int a[j]):=vt (by rw[dm,bQ h];rfl)
theorem Eg{a:List Int}{i:Nat}(C:a.length<=63)(z:i<=100000):∃c x:Int,0<=c/\0<=x/\ua [.scr (a.map .int),.int i] au=.ok (.ref au.length) (au++[eY c x]):=by
 have d:∃c:Int,0<=c/\bU (eB (aU db (aA 1) (aG bE (aB (aA 0) aC)))) (aH 2 (aG kG (aB (aU cx (aA 0) (aA 1)) aC))) ck [some (.scr (a.map .int)),some (.int i),some (.int 0),none,none] au
   = .ok (.nx [some (.scr (a.map .int)),some (.int i),some (.int c),none,none]) au:=by
  by_cases h:i<a.length
  ·have e:cx (.scr (a.map .int)) (.int i) au=.ok (.int a[i]) au:=ni rfl (N2 h);refine⟨if a[i]<0 then -a[i] else a[i],by split<;>lia,?_⟩;simp[h,e]
  ·exact⟨0,by lia,by simp[h]⟩
 obtain⟨c,r,f⟩:=d;have o:(if(60:Int)<(a.length:Int) then(60:Int) else a.length).toNat<=a.length:=by split<;>lia
 have W:=uO (bd:=gN 4) (body:=aH 3 (aU ez (aU aO (aU aO (aU cL (aA 3) (eC (.int 48271))) (aU ez (aU cx (aA 0) (aA 4)) (eC (.int 2147483647)))) (aA 4)) (eC (.int 2147483629))))
  (xs:=rng 0 (if(60:Int)<(a.length:Int) then(60:Int) else a.length).toNat) (σ:=[some (.scr (a.map .int)),some (.int i),some (.int c),some (.int (7919*i+17)),none]) (au:=au)
  (λj g s=>s=au/\∃(b:Int) (v:Option D),g=[some (.scr (a.map .int)),some (.int i),some (.int c),some (.int b),v]/\0<=b) ⟨rfl,_,none,rfl,by lia⟩ (by
   rintro j x g s w ⟨rfl,b,v,rfl,k⟩;obtain⟨A,rfl⟩:=FI w;have m:j<a.length:=by lia
   have e:cx (.scr (a.map .int)) (.int (0+j)) s=.ok (.int a[j]) s:=ni rfl (by rw[sK];exact N2 m);rw[sK] at e;have y:gf b 48271:=.inr ⟨by decide,by decide⟩;refine⟨_,[some (.scr (a.map .int)),some (.int i),some (.int c),some (.int ((b*48271+a[j]%2147483647+j)%2147483629)),some (.int (0+j))],s,rfl,?_,rfl,_,_,rfl,sL _ '!'⟩
   simp[e,y])
 obtain⟨t,u,e,rfl,b,v,rfl,k⟩:=W;have p:gf 7919 (i:Int):=.inl ⟨by decide,by decide⟩;have q:mB 10 18:=⟨by decide,by decide,by decide⟩
 have n:cU (if(60:Int)<(a.length:Int) then(60:Int) else a.length):=by
  split<;>exact pJ '!' '!'
 by_cases hlt:c<1000000000000000000
 ·refine⟨0,b,by lia,k,rY rfl ?_⟩;have l:=ag 2 '!';simp at f;simp[f,p,n,e,q,hlt,l]
 ·refine⟨c,b,r,k,rY rfl ?_⟩;have l:=ag 2 '!';simp at f;simp[f,p,n,e,q,hlt,l]
theorem wX(h:s σ au=.ok (.nx σ1) st1)(k:t σ1 st1=r):aF s t σ au=r:=by
 rw[FN,h];exact k
noncomputable def aR(a:List (List Int)) (k:List Int):List (List Int):=if k∈a then a.filter (λx=>decide (x≠k)) else a++[k]
def aP(l:List (List Int)):List (List Int):=l.foldl aR []
theorem yE:x∈aR ks k↔(x∈ks/\x≠k)\/(x=k/\k∉ks):=by
 unfold aR;split
 ·rename_i h;simp[wy,h]
 ·rename_i h;simp only[cM,bX];constructor
  ·rintro(z|rfl)
   ·exact .inl ⟨z,λe=>h (e ▸ z)⟩
   ·exact .inr ⟨rfl,h⟩
  ·rintro(⟨z,_⟩|⟨z,_⟩)
   ·exact .inl z
   ·exact .inr z
theorem Qw{d:List (List Int)}(h:d.Nodup):(aR d k).Nodup:=by
 unfold aR;split
 ·exact h.filter _
 ·rename_i g;rw[List.nodup_append];exact⟨h,by simp,λa f b c=>by simp at c;subst c;exact λe=>g (e ▸ f)⟩
theorem QW(a:List (List Int))(k:List Int):(aR a k).length<=a.length+1:=by
 unfold aR;split
 ·exact qW (Lv _ _)
 ·simp
theorem xZ:∀(l b:List (List Int)),b.Nodup->(l.foldl aR b).Nodup/\(l.foldl aR b).length<=b.length+l.length/\∀x,x∈l.foldl aR b↔(l.count x+if x∈b then 1 else 0)%2=1
 |[],b,h=>⟨h,by simp,λx=>by by_cases e:x∈b<;>simp[e]⟩
 |a::l,b,h=>by
  obtain⟨d,g,f⟩:=xZ l (aR b a) (Qw h);refine⟨d,?_,λx=>?_⟩
  ·have:=QW b a;rw[zG,d5];lia
  ·rw[zG,f x,List.count_cons];by_cases e:x=a
   ·subst e;by_cases k:x∈b
    ·have q:x∉aR b x:=by rw[yE];simp[k]
     simp only[q,k,f5,gS,qT]<;>lia
    ·have q:x∈aR b x:=by rw[yE];simp[k]
     simp only[q,k,f5,gS,qT]<;>lia
   ·have c:(a==x)=false:=by simpa using λz:a=x=>e z.symm
    by_cases k:x∈b
    ·have q:x∈aR b a:=by rw[yE];simp[k,e]
     simp[q,k,c]
    ·have q:x∉aR b a:=by rw[yE];simp[k,e]
     simp[q,k,c]
theorem Oe(l:List (List Int)):(aP l).Nodup:=(xZ l [] wv).1
theorem QA(l:List (List Int)):(aP l).length<=l.length:=by have:=(xZ l [] wv).2.1;simpa [aP] using this
theorem Nc:x∈aP l↔l.count x%2=1:=by have:=(xZ l [] wv).2.2 x;simpa [aP] using this
theorem QL{a b:List (List Int)}(d:a.Nodup)(c:b.Nodup)(h:∀x,x∈a↔x∈b):a.Perm b:=(List.perm_ext_iff_of_nodup d c).mpr h
theorem QN{a:List (List Int)}(h:a.Perm b):cJ a=cJ b:=By ((sF a).trans h) (yt a)
def aQ(l:List (List Int)):List (List Int):=cJ (aP l)
theorem GY{l m:List (List Int)}(a:m.Nodup)(h:∀x,x∈m↔l.count x%2=1):cJ m=aQ l:=QN (QL a (Oe l) λx=>by rw[h,Nc])
theorem IN:x∈aQ l↔l.count x%2=1:=by unfold aQ;rw[(sF _).mem_iff,Nc]
theorem Bo(h:x∈aQ l):x∈l:=by
 rw[IN] at h;rcases Lg (l.count x) with z|z
 ·rw[z] at h;cases h
 ·exact List.count_pos_iff.mp z
theorem Ct(l:List (List Int)):(aQ l).length<=l.length:=by unfold aQ;rw[Q9];exact QA l
theorem Qh(l:List (List Int)):(aQ l).Nodup:=(sF _).nodup_iff.mpr (Oe l)
theorem IP(h:au[n]?=some (.dT kvs)):pairsOf au (.ref n)=some kvs:=by
 unfold pairsOf;dsimp only;rw[h]
theorem IQ(h:au[n]?=some (.fT kvs)):pairsOf au (.ref n)=some kvs:=by
 unfold pairsOf;dsimp only;rw[h]
theorem IM(h:pairsOf au (.ref n)=some kvs)(a:dw kvs k=some v):fw (.ref n) (aN k) au=.ok v au:=by
 unfold fw;rw[NJ,h];dsimp only;rw[a]
noncomputable abbrev bY(a:List (List Int×Int)):List (List Int×D):=a.map λp=>(p.1,.int p.2)
structure xP (cs:List (List Int×Int)) (l:List (List Int)):Prop where
 nd:(cs.map (·.1)).Nodup
 mem:∀k,k∈cs.map (·.1)↔k∈l
 val:∀p∈cs,p.2=(l.count p.1:Nat)
 len:cs.length<=l.length
theorem uD{b:List (List Int×Int)}(h:xP b l)(k:List Int):dw (bY b) k=if k∈l then some (.int (l.count k:Nat)) else none:=by
 have d:∀b:List (List Int×Int),(∀p∈b,p.2=(l.count p.1:Nat))->dw (bY b) k=if k∈b.map (·.1) then some (.int (l.count k:Nat)) else none:=by
  intro b
  induction b with
  |nil=>intro _;rfl
  |cons a b c=>
   intro f;have c:=c λp g=>f p (gZ _ g)
   unfold dw bY at c ⊢;rw[dr,og];by_cases e:a.1=k
   ·have:=f a f6;simp only[e,ph,Option.map_some,dr,ce,true_or,f5];rw[this,e]
   ·simp only[bM e];rw[c];simp only[dr,ce,show ¬ k=a.1 from λz=>e z.symm,false_or]
 rw[d b h.val];simp only[h.mem]
theorem F6{d:List (List Int×Int)}(h:xP d l)(k:List Int):∃c,kC (bY d) k (.int ((l.count k:Nat)+1))=bY c/\xP c (l++[k]):=by
 have any:((bY d).any λj=>decide (j.1=k))=decide (k∈l):=by
  rw[kR,jt,←h.mem,K5,de];constructor
  ·rintro⟨x,n,e⟩;obtain⟨p,hp,rfl⟩:=de.mp n;exact⟨p,hp,by simpa using e⟩
  ·rintro⟨p,hp,e⟩;exact⟨_,de.mpr ⟨p,hp,rfl⟩,by simpa using e⟩
 unfold kC;rw[any];by_cases hk:k∈l
 ·rw[if_pos (by simpa using hk)];refine⟨d.map λp=>if p.1=k then(p.1,p.2+1) else p,?_,?_,λx=>?_,λp hp=>?_,?_⟩
  ·unfold bY;rw[hZ,hZ];apply zX;intro p hp;have:=h.val p hp;dsimp only[Function.comp];by_cases e:p.1=k
   ·rw[if_pos e,if_pos e];dsimp only;rw[this,e]
   ·rw[if_neg e,if_neg e]
  ·rw[hZ];have:(((λx:List Int×Int=>x.1) ∘ λp:List Int×Int=>if p.1=k then(p.1,p.2+1) else p))=λp=>p.1:=by
    funext p
    dsimp only[Function.comp];split<;>rfl
   rw[this];exact h.nd
  ·rw[hZ];have:(((λx:List Int×Int=>x.1) ∘ λp:List Int×Int=>if p.1=k then(p.1,p.2+1) else p))=λp=>p.1:=by
    funext p
    dsimp only[Function.comp];split<;>rfl
   rw[this,h.mem,cM,bX];constructor
   ·exact .inl
   ·rintro(z|rfl)
    ·exact z
    ·exact hk
  ·obtain⟨q,g,rfl⟩:=de.mp hp;have:=h.val q g;by_cases e:q.1=k
   ·rw[if_pos e];dsimp only;rw[this,e,zP];simp
   ·rw[if_neg e,this,zP];have:List.count q.1 [k]=0:=by rw[wD];simpa using e
    rw[this];rfl
  ·rw[ax,cq];have:=h.len;lia
 ·rw[if_neg (by simpa using hk)];refine⟨d++[(k,1)],?_,?_,λx=>?_,λp hp=>?_,?_⟩
  ·rw[wD.mpr hk];simp[bY]
  ·rw[gW,List.nodup_append];refine⟨h.nd,by simp,λa i b f=>?_⟩;simp at f;subst f;exact λe=>hk ((h.mem _).mp (e ▸ i))
  ·rw[gW,cM,h.mem,cM];simp
  ·rcases cM.mp hp with hp|hp
   ·have m:=h.val p hp;have o:p.1≠k:=λe=>hk ((h.mem _).mp (e ▸ de.mpr ⟨p,hp,rfl⟩))
    rw[m,zP];have:List.count p.1 [k]=0:=by rw[wD];simpa using o
    rw[this];rfl
   ·simp at hp;subst hp;rw[zP,wD.mpr hk];simp
  ·rw[cq,cq];have:=h.len;simp;exact this
theorem t0{l:List (List Int)}{i:Nat}(h:(aL l)[i]?=some x):∃k,l[i]?=some k/\x=aN k:=by
 unfold aL at h;rw[dm] at h;cases e:l[i]? with
 |none=>rw[e] at h;cases h
 |some k=>rw[e] at h;exact⟨k,rfl,(eg h).symm⟩
theorem zu(l:List (List Int)):(aL l).length=l.length:=ax _
theorem mK{a:Type}{l:List a}{i:Nat}{k:a}(h:l[i]?=some k):l.take (i+1)=l.take i++[k]:=by
 obtain⟨b,e⟩:=du.mp h;rw[LN b,e]
theorem uH(a:List D)(k:Nat):cutD a none (some (k:Int))=a.take k:=by
 unfold cutD;rw[HT.Np,HT.ya,KZ,Nat.sub_zero];rcases Nat.le_total k a.length with h|h
 ·rw[jZ h]
 ·rw[qU h,mR,lL h]
theorem MX(a:List D)(k:Nat):cutD a (some (k:Int)) none=a.drop k:=by
 unfold cutD;rw[HT.Np,HT.ya];rcases Nat.le_total k a.length with h|h
 ·rw[jZ h,lL (by rw[gr];exact bi _)]
 ·rw[qU h,K4,wJ h];simp
theorem GC:nT [aN r] au=.ok (.bl (decide (r.length<=6)&&decide (r.sum<=16))) au:=by
 refine rY rfl ?_;have e:=HP (au:=au) (ns:=r);simp only[aN] at *
 by_cases h:r.length<=6
 ·have a:(r.length:Int)<=6:=by lia
  simp[e,h,a]
 ·have a:¬ (r.length:Int)<=6:=by lia
  simp[e,h,a]
end Dd
namespace K07
open L2
end K07
namespace K23
open L2 K07
end K23
namespace Dd
open L2 K07 K23
noncomputable def rm(r:List Int) (p:Nat):Prop:=∃a b:Int,r[p]?=some a/\r[p+1]?=some b/\a<2*b
instance (r:List Int) (p:Nat):Decidable (rm r p):=
 match h1:r[p]?,h2:r[p+1]? with
 |some a,some b=>if h:a<2*b then .isTrue ⟨a,b,h1,h2,h⟩ else .isFalse λ⟨x,y,e1,e2,e3⟩=>by rw[h1] at e1;rw[h2] at e2;cases e1;cases e2;exact h e3
 |none,_=>.isFalse λ⟨x,y,e1,_⟩=>by rw[h1] at e1;cases e1
 |some _,none=>.isFalse λ⟨x,y,_,e2,_⟩=>by rw[h2] at e2;cases e2
theorem f9(b:-10000<=j)(a:j<=10000):cU j:=pJ '!' '!'
theorem Qo{r:List Int}(h:∀p∈r,1<=p):0<=r.sum:=by
 induction r with
 |nil=>simp
 |cons a r ih=>
  rw[pi];have:=h a f6;have:=ih λp b=>h p (gZ _ b)
  lia
theorem bw.over(d:bw au s n)(j:n<au.length)(h:au.length<=k):bw au (s.set k o) n:=by
 obtain⟨c,x,f,e,a⟩:=d.bag;exact⟨by rw[mQ];exact d.len,λi g b=>by rw[jF '!'];exact d.keep i g b,c,x,by rw[jF '!'];exact f,e,a⟩
theorem A8(a:List D)(y:D):L2.atI (a++[y]) (-1)=some y:=by
 unfold L2.atI i9;rw[cq];have e:((-1:Int)+((a.length+[y].length:Nat):Int)).toNat=a.length:=by simp;lia
 rw[if_neg '!',if_pos (by simp;lia),e];simp
end Dd
namespace Dd
open L2
def WP{b:Type}(r:ar b) (Q:b->aa->Prop):Prop:=match r with
 |.ok a au=>Q a au
 |_=>False
theorem WP.get{b:Type}{r:ar b}{Q:b->aa->Prop}(h:WP r Q):∃a au,r=.ok a au/\Q a au:=by
 cases r with
 |ok a au=>exact⟨a,au,rfl,h⟩
 |exc x au=>exact h.elim
 |stuck=>exact h.elim
theorem WP.of{b:Type}{r:ar b}{Q:b->aa->Prop}{a:b}(e:r=.ok a au)(h:Q a au):WP r Q:=by rw[e];exact h
theorem WP.mono{c:Type}{r:ar c}{Q Q':c->aa->Prop}(h:WP r Q)(k:∀a b,Q a b->Q' a b):WP r Q':=by
 obtain⟨a,b,rfl,q⟩:=h.get;exact k a b q
theorem zr{b c:Type}{r:ar b}{f:b->aa->ar c}{Q:c->aa->Prop}:WP (r.bind f) Q=WP r (λa d=>WP (f a d) Q):=by
 cases r<;>rfl
def iG(t:SS) (Q:Fl->aa->Prop):Fl->aa->Prop:=λfl a=>match fl with
 |.nx σ=>WP (t σ a) Q
 |fl=>Q fl a
theorem vo:WP (aF s t σ au) Q=WP (s σ au) (iG t Q):=by
 unfold aF;cases s σ au with
 |ok fl st1=>cases fl<;>rfl
 |exc x au=>rfl
 |stuck=>rfl
theorem nS{d:Type} [Decidable c]{a b:ar d}{Q:d->aa->Prop}:WP (if c then a else b) Q=if c then WP a Q else WP b Q:=by
 split<;>rfl
theorem Bz{b:Type} [Decidable c]{a:ar b}{Q:b->aa->Prop}:WP (if c then a else .stuck) Q=(c/\WP a Q):=by
 by_cases h:c
 ·rw[if_pos h];simp[h]
 ·rw[if_neg h];simp[h,WP]
def kB(Q:D->aa->Prop):Fl->aa->Prop:=λb a=>match b with
 |.ret v=>Q v a
 |.nx _=>Q .non a
 |_=>False
theorem df{n c:Nat}{b:SS}{a:List D}{d:aa}{Q:D->aa->Prop}(h:a.length=c)(k:WP (b (a.map some++List.replicate (n-c) none) d) (kB Q)):WP (bV n c b a d) Q:=by
 obtain⟨f,g,e,q⟩:=k.get;unfold bV;rw[if_pos h,e];cases f<;>first|exact q|exact q.elim
def bK(Q:Bool->aa->Prop):D->aa->Prop:=λv a=>match v with
 |.bl b=>Q b a
 |_=>False
def gK(c:SG) (Q:Fl->aa->Prop) (a:DS):D->aa->Prop:=λv b=>match c v a with
 |some σ1=>Q (.nx σ1) b
 |none=>False
theorem W:(∀{G:Type}{a:G}{e:aa}{Q:G->aa->Prop},WP (.ok a e) Q=Q a e)
 /\ (∀{s t:SS}{m:DS}{e:aa}{Q:Fl->aa->Prop},WP (aF s t m e) Q=WP (s m e) (iG t Q))
 /\ (∀{t:SS}{m:DS}{e:aa}{Q:Fl->aa->Prop},iG t Q (.nx m) e=WP (t m e) Q)
 /\ (∀{t:SS}{v:D}{e:aa}{Q:Fl->aa->Prop},iG t Q (.ret v) e=Q (.ret v) e)
 /\ (∀{t:SS}{m:DS}{e:aa}{Q:Fl->aa->Prop},iG t Q (.brk m) e=Q (.brk m) e)
 /\ (∀{t:SS}{m:DS}{e:aa}{Q:Fl->aa->Prop},iG t Q (.ct m) e=Q (.ct m) e)
 /\ (∀{v:D}{e:aa}{Q:D->aa->Prop},kB Q (.ret v) e=Q v e)
 /\ (∀{m:DS}{e:aa}{Q:D->aa->Prop},kB Q (.nx m) e=Q .non e)
 /\ (∀{b:Bool}{e:aa}{Q:Bool->aa->Prop},bK Q (.bl b) e=Q b e)
 /\ (∀{d:D}{m:DS}{e:aa}{Q:D->aa->Prop},WP (eC d m e) Q=Q d e)
 /\ (∀{g:D->D->aa->ar D}{f p:SE}{m:DS}{e:aa}{Q:D->aa->Prop},WP (aU g f p m e) Q=WP (f m e) (λx l=>WP (p m l) (λy r=>WP (g x y r) Q)))
 /\ (∀{g:D->aa->ar D}{f:SE}{m:DS}{e:aa}{Q:D->aa->Prop},WP (mZ g f m e) Q=WP (f m e) (λx l=>WP (g x l) Q))
 /\ (∀{g:List D->aa->ar D}{f:SA}{m:DS}{e:aa}{Q:D->aa->Prop},WP (aG g f m e) Q=WP (f m e) (λx l=>WP (g x l) Q))
 /\ (∀{m:DS}{e:aa}{Q:List D->aa->Prop},WP (aC m e) Q=Q [] e)
 /\ (∀{f:SE}{g:SA}{m:DS}{e:aa}{Q:List D->aa->Prop},WP (aB f g m e) Q=WP (f m e) (λx l=>WP (g m l) (λn r=>Q (x::n) r)))
 /\ (∀{f:SE}{m:DS}{e:aa}{Q:Bool->aa->Prop},WP (eB f m e) Q=WP (f m e) (bK Q))
 /\ (∀{f p:ST}{m:DS}{e:aa}{Q:Bool->aa->Prop},WP (gE f p m e) Q=WP (f m e) (λb l=>if b=true then WP (p m l) Q else Q false l))
 /\ (∀{f p:ST}{m:DS}{e:aa}{Q:Bool->aa->Prop},WP (iQ f p m e) Q=WP (f m e) (λb l=>if b=true then Q true l else WP (p m l) Q))
 /\ (∀{f:ST}{m:DS}{e:aa}{Q:Bool->aa->Prop},WP (dC f m e) Q=WP (f m e) (λb l=>Q (!b) l))
 /\ (∀{m:DS}{e:aa}{Q:Bool->aa->Prop},WP (aK m e) Q=Q true e)
 /\ (∀{f p:SE}{m:DS}{e:aa}{Q:D->aa->Prop},WP (fz f p m e) Q=WP (f m e) (bK λb l=>if b=true then WP (p m l) Q else Q (.bl false) l))
 /\ (∀{f p:SE}{m:DS}{e:aa}{Q:D->aa->Prop},WP (PR f p m e) Q=WP (f m e) (bK λb l=>if b=true then Q (.bl true) l else WP (p m l) Q))
 /\ (∀{f:SE}{m:DS}{e:aa}{Q:D->aa->Prop},WP (mh f m e) Q=WP (f m e) (bK λb l=>Q (.bl (!b)) l))
 /\ (∀{c:ST}{f p:SE}{m:DS}{e:aa}{Q:D->aa->Prop},WP (fO c f p m e) Q=WP (c m e) (λb l=>if b=true then WP (f m l) Q else WP (p m l) Q))
 /\ (∀{g:SA}{m:DS}{e:aa}{Q:D->aa->Prop},WP (aS g m e) Q=WP (g m e) (λn l=>n.length<=sizeLine/\Q (.tup n) l))
 /\ (∀{g:SA}{m:DS}{e:aa}{Q:D->aa->Prop},WP (fy g m e) Q=WP (g m e) (λn l=>n.length<=sizeLine/\Q (.lst n) l))
 /\ (∀{g:SA}{m:DS}{e:aa}{Q:D->aa->Prop},WP (dR g m e) Q=WP (g m e) (λn l=>n.length<=sizeLine/\Q (.ref l.length) (l++[.lst n])))
 /\ (∀{m:DS}{e:aa}{Q:D->aa->Prop},WP (jg m e) Q=Q (.ref e.length) (e++[.dT []]))
 /\ (∀{m:DS}{e:aa}{Q:Fl->aa->Prop},WP (ck m e) Q=Q (.nx m) e)
 /\ (∀{m:DS}{e:aa}{Q:Fl->aa->Prop},WP (lT m e) Q=Q (.brk m) e)
 /\ (∀{m:DS}{e:aa}{Q:Fl->aa->Prop},WP (SV m e) Q=Q (.ct m) e)
 /\ (∀{m:DS}{e:aa}{Q:Fl->aa->Prop},WP (pI m e) Q=Q (.ret .non) e)
 /\ (∀{f:SE}{m:DS}{e:aa}{Q:Fl->aa->Prop},WP (ao f m e) Q=WP (f m e) (λv l=>Q (.ret v) l))
 /\ (∀{f:SE}{m:DS}{e:aa}{Q:Fl->aa->Prop},WP (cR f m e) Q=WP (f m e) (λ_ l=>Q (.nx m) l))
 /\ (∀{i:Nat}{f:SE}{m:DS}{e:aa}{Q:Fl->aa->Prop},WP (aH i f m e) Q=WP (f m e) (λv l=>Q (.nx (m.set i (some v))) l))
 /\ (∀{u:SG}{f:SE}{m:DS}{e:aa}{Q:Fl->aa->Prop},WP (pH u f m e) Q=WP (f m e) (gK u Q m))
 /\ (∀{c:ST}{s t:SS}{m:DS}{e:aa}{Q:Fl->aa->Prop},WP (bU c s t m e) Q=WP (c m e) (λb l=>if b=true then WP (s m l) Q else WP (t m l) Q))
 /\ (∀{w:SA}{u:SG}{z:SS}{m:DS}{e:aa}{Q:Fl->aa->Prop},WP (dj w u z m e) Q=WP (w m e) (λn l=>WP (dO u z n m l) Q))
 /\ (∀{w:SA}{k:Nat}{is:List Nat}{u:SG}{c:ST}{f:SE}{m:DS}{e:aa}{Q:D->aa->Prop},WP (aI w k is u c f m e) Q=WP (w m e) (λn l=>n.length<=sizeLine/\WP (aX u c f n (aV k is m) l) (λH r=>Q (.lst H) r)))
 /\ (∀{w:SA}{k:Nat}{is:List Nat}{u:SG}{c:ST}{f:SE}{m:DS}{e:aa}{Q:D->aa->Prop},WP (dU w k is u c f m e) Q=WP (w m e) (λn l=>n.length<=sizeLine/\WP (aX u c f n (aV k is m) l) (λH r=>Q (.ref r.length) (r++[.lst H]))))
 /\ (∀{C:Int->Int->Prop} [DecidableRel C] {h:Int->Int->D}{i j:Int}{e:aa}{Q:D->aa->Prop},WP (oI C h (.int i) (.int j) e) Q=(C i j/\Q (h i j) e))
 /\ (∀{i j:Int}{e:aa}{Q:D->aa->Prop},WP (aO (.int i) (.int j) e) Q=Q (.int (i+j)) e)
 /\ (∀{a b:List D}{e:aa}{Q:D->aa->Prop},WP (aO (.tup a) (.tup b) e) Q=(a.length+b.length<=sizeLine/\Q (.tup (a++b)) e))
 /\ (∀{i j:Int}{e:aa}{Q:D->aa->Prop},WP (db (.int i) (.int j) e) Q=Q (.bl (decide (i<j))) e)
 /\ (∀{i j:Int}{e:aa}{Q:D->aa->Prop},WP (cO false (.int i) (.int j) e) Q=Q (.bl (decide (i=j))) e)
 /\ (∀{i j:Int}{e:aa}{Q:D->aa->Prop},WP (cO true (.int i) (.int j) e) Q=Q (.bl (!decide (i=j))) e)
 /\ (∀{i:Int}{e:aa}{Q:D->aa->Prop},WP (hD (.int i) e) Q=Q (.int (-i)) e)
 /\ (∀{i j:Int}{g:Int->Int->Int}{e:aa}{Q:D->aa->Prop},WP (tj g [.int i,.int j] e) Q=Q (.int (g i j)) e)
 /\ (∀{i:Int}{e:aa}{Q:D->aa->Prop},WP (kG [.int i] e) Q=Q (.int (if i<0 then -i else i)) e)
 /\ (∀{b:Bool}{e:aa}{Q:D->aa->Prop},WP (oN [.bl b] e) Q=Q (.int (if b=true then 1 else 0)) e)
 /\ (∀{n:List D}{e:aa}{Q:D->aa->Prop},WP (bE [.tup n] e) Q=Q (.int n.length) e)
 /\ (∀{n:List D}{e:aa}{Q:D->aa->Prop},WP (bE [.lst n] e) Q=Q (.int n.length) e)
 /\ (∀{n:List D}{e:aa}{Q:D->aa->Prop},WP (bE [.scr n] e) Q=Q (.int n.length) e)
 /\ (∀{n:List D}{e:aa}{Q:D->aa->Prop},WP (aY [.tup n] e) Q=Q (.tup n) e)
 /\ (∀{n:List D}{e:aa}{Q:D->aa->Prop},WP (aY [.lst n] e) Q=Q (.tup n) e)
 /\ (∀{n:List D}{e:aa}{Q:D->aa->Prop},WP (pQ [.tup n] e) Q=Q (.lst n) e)
 /\ (∀{n:List D}{e:aa}{Q:D->aa->Prop},WP (pQ [.lst n] e) Q=Q (.lst n) e)
 /\ (∀{d:D}{m:DS}{e:aa}{Q:D->aa->Prop},WP (aA 0 (some d::m) e) Q=Q d e)
 /\ (∀{i:Nat}{m:DS}{e:aa}{Q:D->aa->Prop}{o:Option D},WP (aA (i+1) (o::m) e) Q=WP (aA i m e) Q)
 /\ (∀{f:SE}{m:DS}{e:aa}{Q:List D->aa->Prop},WP (aJ f m e) Q=WP (f m e) (λx l=>∃n,gs x=some n/\Q n l))
 /\ (∀{f:SE}{m:DS}{e:aa}{Q:Bool->aa->Prop},WP (cn f m e) Q=WP (f m e) (λx l=>∃b,mY l x=some b/\Q b l))
 /\ (∀{g:SA}{m:DS}{e:aa}{Q:List D->aa->Prop},WP (jd g m e) Q=WP (g m e) (λn l=>∃j,n=[.int j]/\cU j/\Q (rng 0 j.toNat) l))
 /\ (∀{g:SA}{m:DS}{e:aa}{Q:List D->aa->Prop},WP (xx g m e) Q=WP (g m e) (λn l=>∃i j,n=[.int i,.int j]/\cU i/\cU j/\Q (rng i (j-i).toNat) l)):=by
 have A:∀{G:Type}{c:Prop} [Decidable c] {a:G}{e:aa}{Q:G->aa->Prop},WP (if c then .ok a e else .stuck) Q=(c/\Q a e):=λ{G c _ a e Q}=>Bz
 refine⟨rfl,vo,rfl,rfl,rfl,rfl,rfl,rfl,rfl,rfl,?_⟩;refine⟨?_,?_⟩
 ·intros;rw[uj,zr];congr;funext x l;rw[zr]
 refine⟨zr,zr,rfl,?_⟩;refine⟨?_,?_⟩
 ·intros;rw[qM,zr];congr;funext x l;rw[zr];rfl
 refine⟨?_,?_⟩
 ·intros;rw[Mz,zr];congr;funext x l;cases x<;>rfl
 refine⟨?_,?_⟩
 ·intros;rw[Ee,zr];congr;funext x l;rw[nS];rfl
 refine⟨?_,?_⟩
 ·intros;rw[Dj,zr];congr;funext x l;rw[nS];rfl
 refine⟨zr,rfl,?_⟩;refine⟨?_,?_⟩
 ·intros;rw[EK,zr];congr;funext x l;cases x<;>try rfl
  rename_i b;cases b<;>rfl
 refine⟨?_,?_⟩
 ·intros;rw[DF,zr];congr;funext x l;cases x<;>try rfl
  rename_i b;cases b<;>rfl
 refine⟨?_,?_⟩
 ·intros;rw[EM,zr];congr;funext x l;cases x<;>rfl
 refine⟨?_,?_⟩
 ·intros;rw[DD,zr];congr;funext x l;rw[nS]
 refine⟨?_,?_⟩
 ·intros;rw[EO,zr];congr;funext x l;rw[A]
 refine⟨?_,?_⟩
 ·intros;rw[EL,zr];congr;funext x l;rw[A]
 refine⟨?_,?_⟩
 ·intros;rw[Gz,zr];congr;funext x l;rw[A]
 refine⟨rfl,rfl,rfl,rfl,rfl,zr,zr,zr,?_⟩;refine⟨?_,?_⟩
 ·intro u f m e Q;unfold pH;rw[zr];congr;funext x l;unfold gK;cases u x m<;>rfl
 refine⟨?_,?_⟩
 ·intros;rw[DY,zr];congr;funext x l;rw[nS]
 refine⟨zr,?_⟩;refine⟨?_,?_⟩
 ·intros;rw[vH,zr];congr;funext x l;rw[Bz,zr];rfl
 refine⟨?_,?_⟩
 ·intros;unfold dU;rw[zr];congr;funext x l;rw[Bz,zr];rfl
 refine⟨?_,?_⟩
 ·intros;rw[Mh,A]
 refine⟨rfl,?_⟩;refine⟨?_,?_⟩
 ·intros;rw[Fh,A]
 refine⟨rfl,?_⟩;refine⟨?_,?_⟩
 ·intros;rw[show ∀i j e,cO false (.int i) (.int j) e=_ from λi j e=>qq];rfl
 refine⟨?_,?_⟩
 ·intros;rw[show ∀i j e,cO true (.int i) (.int j) e=_ from λi j e=>DQ];rfl
 refine⟨rfl,rfl,rfl,rfl,rfl,rfl,rfl,rfl,rfl,rfl,rfl,λ{d m e Q}=>rfl,λ{i m e Q o}=>rfl,?_⟩;refine⟨?_,?_⟩
 ·intros;rw[EU,zr];congr;funext x l
  cases h:gs x with
  |none=>simp[WP]
  |some n=>simp[WP]
 refine⟨?_,?_⟩
 ·intros;rw[EN,zr];congr;funext x l
  cases h:mY l x with
  |none=>simp[WP]
  |some n=>simp[WP]
 refine⟨?_,?_⟩
 ·intros;rw[DK,zr];congr;funext x l
  split
  ·rw[A];simp[cU]
  ·rename_i E;have:∀j,x≠[D.int j]:=λj h=>E j h
   simp[WP,this]
 ·intros;rw[DL,zr];congr;funext x l
  split
  ·rw[A];simp only[cU,List.cons.injEq,D.int.injEq,and_true];apply propext;constructor
   ·rintro⟨h,q⟩;exact⟨_,_,⟨rfl,rfl⟩,h.1,h.2,q⟩
   ·rintro⟨P,R,⟨rfl,rfl⟩,J,I,q⟩;exact⟨⟨J,I⟩,q⟩
  ·rename_i E;have:∀i j,x≠[D.int i,D.int j]:=λi j h=>E i j h
   simp[WP,this]
def fW(I:DS->aa->Prop) (Q:Fl->aa->Prop):Fl->aa->Prop:=λb a=>match b with
 |.nx σ=>I σ a
 |.ct σ=>I σ a
 |.brk σ=>Q (.nx σ) a
 |.ret v=>Q (.ret v) a
theorem OJ{j:SG}{d:SS}{Q:Fl->aa->Prop}(I:Nat->DS->aa->Prop):∀(e:List D) (k:Nat) (b:DS) (c:aa),I k b c ->
  (∀i x b c,e[i]?=some x->I (k+i) b c->∃f,j x b=some f/\WP (d f c) (fW (I (k+i+1)) Q))->(∀b c,I (k+e.length) b c->Q (.nx b) c)->WP (dO j d e b c) Q
 |[],k,b,c,h,_,q=>q b c h
 |x::e,k,b,c,h,s,q=>by
  obtain⟨f,p,w⟩:=s 0 x b c rfl h;obtain⟨m,g,r,w⟩:=w.get;unfold dO;rw[p];dsimp only;rw[r]
  have l:∀a,I (k+0+1) a g->WP (dO j d e a g) Q:=λa n=>OJ I e (k+1) a g n (λi y b c t o=>by
   have:=s (i+1) y b c (by simpa using t) (by rw[show k+(i+1)=k+1+i by lia];exact o);rw[show k+(i+1)+1=k+1+i+1 by lia] at this
   exact this) (λb c h=>q b c (by rw[d5,show k+(e.length+1)=k+1+e.length by lia];exact h))
  cases m with
  |nx a=>exact l a w
  |ct a=>exact l a w
  |brk a=>exact w
  |ret v=>exact w
theorem kf(I:Nat->DS->aa->Prop) (e:I 0 a b)
  (s:∀i x a b,xs[i]?=some x->I i a b->∃c,bd x a=some c/\WP (body c b) (fW (I (i+1)) Q))(q:∀a b,I xs.length a b->Q (.nx a) b):WP (dO bd body xs a b) Q:=
 OJ I xs 0 a b e (λi x a b f d=>by rw[iW] at d ⊢;exact s i x a b f d) λa b h=>q a b (by rw[iW] at h;exact h)
theorem L:(∀{I:DS->aa->Prop}{Q:Fl->aa->Prop}{b:DS}{a:aa},fW I Q (.nx b) a=I b a)
 /\ (∀{I:DS->aa->Prop}{Q:Fl->aa->Prop}{b:DS}{a:aa},fW I Q (.ct b) a=I b a)
 /\ (∀{I:DS->aa->Prop}{Q:Fl->aa->Prop}{b:DS}{a:aa},fW I Q (.brk b) a=Q (.nx b) a)
 /\ (∀{I:DS->aa->Prop}{Q:Fl->aa->Prop}{v:D}{a:aa},fW I Q (.ret v) a=Q (.ret v) a):=⟨rfl,rfl,rfl,rfl⟩
theorem CM{n:SG}{c:ST}{f:SE}(I:Nat->List D->DS->aa->Prop):∀(j:List D) (k:Nat) (a:List D) (e:DS) (au:aa) (Q:List D->aa->Prop),I k a e au ->
  (∀i x a e au,j[i]?=some x->I (k+i) a e au->∃d,n x e=some d/\WP (c d au) (λb g=>if b=true then WP (f d g) (λy l=>I (k+i+1) (a++[y]) d l) else I (k+i+1) a d g)) ->
  (∀m e au,I (k+j.length) (a++m) e au->Q m au)->WP (aX n c f j e au) Q
 |[],k,a,e,au,Q,h,_,q=>q [] e au (by rw[fE];exact h)
 |x::j,k,a,e,au,Q,h,s,q=>by
  obtain⟨d,v,w⟩:=s 0 x a e au rfl h;obtain⟨b,g,z,w⟩:=w.get;have p:∀i y a e au,j[i]?=some y->I (k+1+i) a e au->∃d,n y e=some d/\WP (c d au) (λb g=>if b=true then WP (f d g) (λy l=>I (k+1+i+1) (a++[y]) d l) else I (k+1+i+1) a d g):=λi y a e au A u=>by
   have:=s (i+1) y a e au (by simpa using A) (by rw[show k+(i+1)=k+1+i by lia];exact u);rw[show k+(i+1)+1=k+1+i+1 by lia] at this;exact this
  have r:∀(o:List D) e au,I (k+1+j.length) o e au->I (k+(x::j).length) o e au:=λo e au h=>by rw[d5,show k+(j.length+1)=k+1+j.length by lia];exact h
  unfold aX;rw[v];dsimp only;rw[z];dsimp only[nq];cases b with
  |false=>
   rw[if_neg '"'] at w ⊢;exact CM I j (k+1) a d g Q w p λm e au h=>q m e au (r _ _ _ h)
  |true=>
   rw[if_pos rfl] at w ⊢;obtain⟨y,l,t,w⟩:=w.get;rw[t];dsimp only[nq];rw[zr];exact CM I j (k+1) (a++[y]) d l _ w p λm e au h=>q (y::m) e au (r _ _ _ (by rw[eu] at h;exact h))
theorem jT(I:Nat->List D->DS->aa->Prop) (n:I 0 [] d a)
  (s:∀i x g d a,xs[i]?=some x->I i g d a->∃e,bd x d=some e/\WP (c e a) (λb j=>if b=true then WP (f e j) (λy l=>I (i+1) (g++[y]) e l) else I (i+1) g e j))
  (q:∀k d a,I xs.length k d a->Q k a):WP (aX bd c f xs d a) Q:=
 CM I xs 0 [] d a Q n (λi x g d a o m=>by rw[iW] at m ⊢;exact s i x g d a o m) λk d a h=>q k d a (by rw[iW] at h;simpa using h)
theorem jp{o:SG}{c:ST}{f:SE}{k:Type}(S:DS->Prop)(P:k->Bool)(G:k->D)(E:k->D){as:List k}{d:DS}{g:aa}{Q:List D->aa->Prop}(w:S d)
  (s:∀x∈as,∀d,S d->∃a,o (E x) d=some a/\S a/\WP (c a g) (λb e=>e=g/\b=P x)/\(P x=true->WP (f a g) (λy e=>e=g/\y=G x)))
  (q:Q ((as.filter P).map G) g):WP (aX o c f (as.map E) d g) Q:=by
 refine jT (λi h d m=>S d/\m=g/\h=((as.take i).filter P).map G) ⟨w,rfl,rfl⟩ (λi x h d m p n=>?_) λI d m n=>?_
 ·obtain⟨v,rfl,rfl⟩:=n;rw[dm] at p;obtain⟨z,l,rfl⟩:=fH.mp p;obtain⟨a,C,j,H,t⟩:=s z (fj l) d v;refine⟨a,C,H.mono λb e u=>?_⟩;obtain⟨rfl,rfl⟩:=u;cases hP:P z with
  |false=>
   rw[if_neg '"'];refine⟨j,rfl,?_⟩;rw[mK l,zV,List.filter_cons_of_neg (by rw[hP];decide)];simp
  |true=>
   rw[if_pos rfl];refine(t hP).mono λy A r=>?_
   obtain⟨rfl,rfl⟩:=r;refine⟨j,rfl,?_⟩;rw[mK l,zV,List.filter_cons_of_pos hP,gW];simp
 ·obtain⟨_,rfl,rfl⟩:=n;rw[ax,mR];exact q
theorem V:(∀{c:Type}{a b:c}{l:List c},(a::l).set 0 b=b::l)
 /\ (∀{c:Type}{a b:c}{l:List c}{i:Nat},(a::l).set (i+1) b=a::l.set i b)
 /\ (∀{e:DS}{k:Nat}{is:List Nat},aV k is e=List.replicate k none++is.map λi=>(e[i]?).getD none)
 /\ (∀{c:Type}{a:c}{k:Nat},List.replicate (k+1) a=a::List.replicate k a)
 /\ (∀{c:Type}{a:c},List.replicate 0 a=[])
 /\ (∀{c g:Type}{f:c->g}{a:c}{l:List c},(a::l).map f=f a::l.map f)
 /\ (∀{c g:Type}{f:c->g},([]:List c).map f=[])
 /\ (∀{c:Type}{a:c}{l m:List c},(a::l)++m=a::(l++m))
 /\ (∀{c:Type}{l:List c},[]++l=l)
 /\ (∀{c:Type}{a:c}{l:List c},(a::l)[0]?=some a)
 /\ (∀{c:Type}{a:c}{l:List c}{i:Nat},(a::l)[i+1]?=l[i]?)
 /\ (∀{c:Type}{a:c}{d:c},(some a).getD d=a)
 /\ (∀{i:Nat}{d:D}{e:DS},gN i d e=some (e.set i (some d)))
 /\ (∀{p:Prop} [Decidable p],(decide p=true)=p)
 /\ (∀{p:Prop} [Decidable p],((!decide p)=true)=¬ p)
 /\ (∀{b:Bool},((!b)=true)=(b=false))
 /\ (∀{a b:Prop},(if True then a else b)=a)
 /\ (∀{a b:Prop},(if False then a else b)=b)
 /\ (∀{a b:Prop},(if true=true then a else b)=a)
 /\ (∀{a b:Prop},(if false=true then a else b)=b)
 /\ (∀{c:Type}{a b:c},(if True then a else b)=a)
 /\ (∀{c:Type}{a b:c},(if False then a else b)=b)
 /\ ((true=false)=False)/\((false=true)=False)/\((true=true)=True)/\((false=false)=True)/\((¬ True)=False)/\((¬ False)=True):=by
 refine⟨rfl,rfl,rfl,rfl,rfl,rfl,rfl,rfl,rfl,rfl,?_,rfl,rfl,?_,?_,?_,rfl,rfl,rfl,rfl,rfl,rfl,by simp,by simp,by simp,by simp,by simp,by simp⟩
 ·intros;rfl
 ·intro p _;simp
 ·intro p _;simp
 ·intro b;simp
theorem M:(∀{f:SE}{m:DS}{d:aa}{Q:Option Int->aa->Prop},WP (ay f m d) Q=WP (f m d) (λv c=>∃i,v=.int i/\Q (some i) c))
 /\ (∀{m:DS}{d:aa}{Q:Option Int->aa->Prop},WP (bq m d) Q=Q none d)
 /\ (∀{f:SE}{lo H:DS->aa->ar (Option Int)}{m:DS}{d:aa}{Q:D->aa->Prop},WP (j7 f lo H m d) Q=WP (f m d) (λx c=>WP (lo m c) (λl p=>WP (H m p) (λh r=>(∃o,x=.tup o/\Q (.tup (cutD o l h)) r)\/(∃o,dY r x=some o/\Q (.lst (cutD o l h)) r)))))
 /\ (∀{f:SE}{m:DS}{d:aa}{Q:D->aa->Prop},WP (sZ f m d) Q=WP (f m d) (λx c=>∃n o,x=.ref n/\c[n]?=some (.lst o)/\Q (.lst o) (c.set n .dead)))
 /\ (∀{f g h:SE}{m:DS}{d:aa}{Q:Fl->aa->Prop},WP (da f g h m d) Q=WP (h m d) (λv c=>WP (f m c) (λx p=>WP (g m p) (λy r=>∃n k o j,x=.ref n/\y=.int k/\r[n]?=some (.lst o)/\i9 o.length k=some j/\Q (.nx m) (r.set n (.lst (o.set j v)))))))
 /\ (∀{f:SE}{g:SA}{m:DS}{d:aa}{Q:D->aa->Prop},WP (bW f g m d) Q=WP (f m d) (λx c=>∃n s,x=.ref n/\c[n]?=some (.lst s)/\WP (g m c) (λu p=>∃y o,u=[y]/\p[n]?=some (.lst o)/\o.length<sizeLine/\Q .non (p.set n (.lst (o++[y]))))))
 /\ (∀{x:D}{d:aa}{Q:D->aa->Prop},WP (gd [x] d) Q=∃t,(bI d x).bind bF=some t/\Q (.int t.sum) d)
 /\ (∀{x:D}{C:Bool}{d:aa}{Q:D->aa->Prop},WP (gC C [x] d) Q=∃E,(dY d x).bind cT=some E/\Q (.bl (if C then E.all id else E.any id)) d)
 /\ (∀{x:D}{A:Bool}{d:aa}{Q:D->aa->Prop},WP (ji A [x] d) Q=∃n t,(bI d x).bind bF=some (n::t)/\Q (.int (cS A n t)) d)
 /\ (∀{g:SA}{m:DS}{d:aa}{Q:List D->aa->Prop},WP (jc g m d) Q=WP (g m d) (λo c=>∃a b,o=[.tup a,.tup b]/\Q (bx a b) c))
 /\ (∀{i:Nat}{g:D->D->aa->ar D}{f:SE}{m:DS}{d:aa}{Q:Fl->aa->Prop},WP (jJ i g f m d) Q=∃x,m[i]?=some (some x)/\WP (f m d) (λy c=>WP (g x y c) (λz p=>Q (.nx (m.set i (some z))) p))):=by
 refine⟨?_,rfl,?_,?_,?_,?_,?_,?_,?_,?_,?_⟩
 ·intros;rw[G7,zr];congr;funext x c
  cases x<;>simp[WP]
 ·intros;rw[DH,zr];congr;funext x c;rw[zr];congr;funext l p;rw[zr];congr;funext h r
  apply propext;split
  ·constructor
   ·intro q;exact .inl ⟨_,rfl,q⟩
   ·rintro(⟨o,e,q⟩|⟨o,e,q⟩)
    ·cases e;exact q
    ·cases e
  ·rename_i w;constructor
   ·intro q;split at q
    ·rename_i o e;exact .inr ⟨o,e,q⟩
    ·exact q.elim
   ·rintro(⟨o,e,q⟩|⟨o,e,q⟩)
    ·exact absurd e (w o)
    ·rw[e];exact q
 ·intros;rw[DC,zr];congr;funext x c
  apply propext;constructor
  ·intro q;split at q
   ·split at q
    ·rename_i o e;exact⟨_,o,rfl,e,q⟩
    ·exact q.elim
   ·exact q.elim
  ·rintro⟨n,o,rfl,e,q⟩;dsimp only;rw[e];exact q
 ·intros;rw[Jg,zr];congr;funext v c;rw[zr];congr;funext x p;rw[zr];congr;funext y r
  apply propext;constructor
  ·intro q;split at q
   ·split at q
    ·split at q
     ·exact⟨_,_,_,_,rfl,rfl,by assumption,by assumption,q⟩
     ·exact q.elim
    ·exact q.elim
   ·exact q.elim
  ·rintro⟨n,k,o,j,rfl,rfl,I,G,q⟩;dsimp only;rw[I];dsimp only;rw[G];exact q
 ·intros;rw[J2,zr];congr;funext x c
  apply propext;constructor
  ·intro q;split at q
   ·rename_i n s e;rw[zr] at q;have J:c[n]?=some (.lst s):=by
     unfold dY at e;dsimp only at e;split at e
     ·cases e;assumption
     ·cases e
    refine⟨n,s,rfl,J,q.mono λu p h=>?_⟩;split at h
    ·split at h
     ·exact⟨_,_,rfl,by assumption,by assumption,h⟩
     ·exact h.elim
    ·exact h.elim
   ·exact q.elim
  ·rintro⟨n,s,rfl,e,q⟩;rw[pY e];dsimp only;rw[zr];refine q.mono λu p h=>?_
   obtain⟨y,o,rfl,G,P,h⟩:=h;rw[G];dsimp only;rw[if_pos P];exact h
 ·intro x d Q;unfold gd;dsimp only;cases h:(bI d x).bind bF with
  |none=>simp[WP]
  |some t=>simp[WP]
 ·intro x C d Q;unfold gC;dsimp only;cases h:(dY d x).bind cT with
  |none=>simp[WP]
  |some t=>simp[WP]
 ·intro x A d Q;unfold ji;dsimp only;cases h:(bI d x).bind bF with
  |none=>simp[WP]
  |some t=>
   cases t with
   |nil=>simp[WP]
   |cons n t=>
    apply propext;constructor
    ·intro q;exact⟨_,_,rfl,q⟩
    ·rintro⟨a,b,e,q⟩;cases e;exact q
 ·intro g m d Q;unfold jc;rw[zr];congr;funext x c
  apply propext;constructor
  ·intro q;split at q
   ·exact⟨_,_,rfl,q⟩
   ·exact q.elim
  ·rintro⟨a,b,rfl,q⟩;exact q
 ·intro i g f m d Q;rw[FK];apply propext;constructor
  ·intro q;split at q
   ·rename_i x e;rw[zr] at q;exact⟨x,e,q.mono λy c h=>by rw[zr] at h;exact h⟩
   ·exact q.elim
  ·rintro⟨x,e,q⟩;rw[e];dsimp only;rw[zr];exact q.mono λy c h=>by rw[zr];exact h
theorem N:(∀{g:List D}{P:List D->Prop},(∃f,D.tup g=D.tup f/\P f)=P g)
 /\ (∀{i:Int}{P:Int->Prop},(∃j,D.int i=D.int j/\P j)=P i)
 /\ (∀{g:List D}{h:aa}{P:List D->Prop},(∃f,dY h (.tup g)=some f/\P f)=False)
 /\ (∀{g:List D}{h:aa}{P:List D->Prop},(∃f,dY h (.lst g)=some f/\P f)=P g)
 /\ (∀{g:List D}{P:List D->Prop},(∃f,gs (.tup g)=some f/\P f)=P g)
 /\ (∀{g:List D}{P:List D->Prop},(∃f,gs (.lst g)=some f/\P f)=P g)
 /\ (∀{b:Bool}{h:aa}{P:Bool->Prop},(∃c,mY h (.bl b)=some c/\P c)=P b)
 /\ (∀{i:Int}{P:Int->Prop},(∃j,[D.int i]=[D.int j]/\P j)=P i)
 /\ (∀{i j:Int}{P:Int->Int->Prop},(∃k l,[D.int i,D.int j]=[D.int k,D.int l]/\P k l)=P i j)
 /\ (∀{x:D}{P:D->Prop},(∃y,[x]=[y]/\P y)=P x)
 /\ (∀{a b:List D}{P:List D->List D->Prop},(∃c d,[D.tup a,D.tup b]=[.tup c,.tup d]/\P c d)=P a b)
 /\ (∀{p:Prop},(p\/False)=p)/\(∀{p:Prop},(True/\p)=p):=by
 refine⟨?_,?_,?_,?_,?_,?_,?_,?_,?_,?_,?_,by simp,by simp⟩
 ·intros;apply propext;exact⟨λ⟨_,e,p⟩=>by cases e;exact p,λp=>⟨_,rfl,p⟩⟩
 ·intros;apply propext;exact⟨λ⟨_,e,p⟩=>by cases e;exact p,λp=>⟨_,rfl,p⟩⟩
 ·intros;apply propext;exact⟨λ⟨_,e,p⟩=>(by cases e),λp=>p.elim⟩
 ·intros;apply propext;exact⟨λ⟨_,e,p⟩=>by cases e;exact p,λp=>⟨_,rfl,p⟩⟩
 ·intros;apply propext;exact⟨λ⟨_,e,p⟩=>by cases e;exact p,λp=>⟨_,rfl,p⟩⟩
 ·intros;apply propext;exact⟨λ⟨_,e,p⟩=>by cases e;exact p,λp=>⟨_,rfl,p⟩⟩
 ·intros;apply propext;exact⟨λ⟨_,e,p⟩=>by cases e;exact p,λp=>⟨_,rfl,p⟩⟩
 ·intros;apply propext;exact⟨λ⟨_,e,p⟩=>by cases e;exact p,λp=>⟨_,rfl,p⟩⟩
 ·intros;apply propext;exact⟨λ⟨_,_,e,p⟩=>by cases e;exact p,λp=>⟨_,_,rfl,p⟩⟩
 ·intros;apply propext;exact⟨λ⟨_,e,p⟩=>by cases e;exact p,λp=>⟨_,rfl,p⟩⟩
 ·intros;apply propext;exact⟨λ⟨_,_,e,p⟩=>by cases e;exact p,λp=>⟨_,_,rfl,p⟩⟩
theorem gQ(d:bO au n)(f:1<=m)(c:m<=1000000)(k:∀r a,0<=r->r<m->bw au a n->Q (.int r) a):WP (zp [.ref n,.int m] au) Q:=by
 obtain⟨r,a,e,g,h,b,_⟩:=Hz d f (Int.lt_of_le_of_lt c (by decide +kernel));exact WP.of e (k r a g h b)
theorem iR(h:bI au x=some xs)(a:L2.atI xs i=some d)(q:Q d au):WP (cx x (.int i) au) Q:=WP.of (ni h a) q
theorem Hf{a:List D}{i:Int}(c:0<=i)(e:i<a.length)(q:∀d∈a,Q d au):WP (cx (.lst a) (.int i) au) Q:=by
 obtain⟨j,rfl⟩:=wK c;have b:j<a.length:=by lia
 exact iR (xs:=a) (d:=a[j]) rfl (si (bQ b)) (q _ (h8 b))
theorem Eh{a:List Int}{i:Nat}(h:a.length<=63)(d:i<=100000)(k:∀g,bO (au++g) au.length->Q (.ref au.length) (au++g)):WP (ua [.scr (a.map .int),.int i] au) Q:=by
 obtain⟨c,x,b,f,e⟩:=Eg (au:=au) h d;exact WP.of e (k _ ⟨c,x,by simp,b,f⟩)
abbrev fQ(l:List (List Int)):Prop:=l.Pairwise λa b=>HT.lexLt a b=true
theorem Hq(h:rG l)(e:l.Nodup):fQ l:=List.Pairwise.imp (λ{a b} q=>by
 obtain⟨c,d⟩:=q;rcases Srt.tL a b with z|z|z
 ·exact z
 ·exact absurd z d
 ·rw[c] at z;cases z) (h.and e)
theorem Ko(l:List (List Int)):fQ (aQ l):=Hq (yt _) (Qh l)
structure xG (n:Nat) (l:List (List Int)):Prop where
 rise:fQ l
 len:∀r∈l,r.length=n
 pos:∀r∈l,∀x∈r,0<=x
def WX{b:Type}(r:ar b) (Q:b->aa->Prop) (E:fG->aa->Prop):Prop:=match r with
 |.ok a au=>Q a au
 |.exc x au=>E x au
 |.stuck=>False
theorem FY{a:Type}{f:DS->aa->ar a}{Q:a->aa->Prop}:WP (bS f σ au) Q=WP (f σ au) Q:=by
 unfold bS;cases f σ au<;>rfl
theorem qL{a:Type}{f:DS->aa->ar a}{Q:a->aa->Prop}:WX (bS f σ au) Q E=WP (f σ au) Q:=by
 unfold bS;cases f σ au<;>rfl
theorem p7{c d:Type}{f:DS->aa->ar c}{g:c->aa->ar d}{Q:d->aa->Prop}:WX ((bS f σ au).bind g) Q E=WP (f σ au) (λa b=>WX (g a b) Q E):=by
 unfold bS;cases f σ au<;>rfl
def rn(t:SS) (Q:Fl->aa->Prop) (E:fG->aa->Prop):Fl->aa->Prop:=λfl a=>match fl with
 |.nx σ=>WX (t σ a) Q E
 |fl=>Q fl a
theorem VX:(∀{p:Type}{f:DS->aa->ar p}{a:DS}{d:aa}{Q:p->aa->Prop},WP (bS f a d) Q=WP (f a d) Q)
 /\ (∀{f:SE}{a:DS}{d:aa}{Q:D->aa->Prop}{E:fG->aa->Prop},WX (bS f a d) Q E=WP (f a d) Q)
 /\ (∀{f:SS}{a:DS}{d:aa}{Q:Fl->aa->Prop}{E:fG->aa->Prop},WX (bS f a d) Q E=WP (f a d) Q)
 /\ (∀{s t:SS}{a:DS}{d:aa}{Q:Fl->aa->Prop}{E:fG->aa->Prop},WX (aF s t a d) Q E=WX (s a d) (rn t Q E) E)
 /\ (∀{t:SS}{a:DS}{d:aa}{Q:Fl->aa->Prop}{E:fG->aa->Prop},rn t Q E (.nx a) d=WX (t a d) Q E)
 /\ (∀{t:SS}{v:D}{d:aa}{Q:Fl->aa->Prop}{E:fG->aa->Prop},rn t Q E (.ret v) d=Q (.ret v) d)
 /\ (∀{c:ST}{s t:SS}{a:DS}{d:aa}{Q:Fl->aa->Prop}{E:fG->aa->Prop},WX (bU (bS c) s t a d) Q E=WP (c a d) (λb e=>if b=true then WX (s a e) Q E else WX (t a e) Q E))
 /\ (∀{c:Str}{g:SA}{a:DS}{d:aa}{Q:Fl->aa->Prop}{E:fG->aa->Prop},WX (fK c (bS g) a d) Q E=WP (g a d) (λj e=>j.length<=sizeLine/\E ⟨c,[]⟩ e))
 /\ (∀{F:cg}{g:SA}{a:DS}{d:aa}{Q:D->aa->Prop}{E:fG->aa->Prop},WX (aG F (bS g) a d) Q E=WP (g a d) (λj e=>WX (F j e) Q E))
 /\ (∀{f:SE}{a:DS}{d:aa}{Q:Fl->aa->Prop}{E:fG->aa->Prop},WX (ao f a d) Q E=WX (f a d) (λv e=>Q (.ret v) e) E)
 /\ (∀{f:SE}{a:DS}{d:aa}{Q:Fl->aa->Prop}{E:fG->aa->Prop},WX (cR f a d) Q E=WX (f a d) (λv e=>Q (.nx a) e) E)
 /\ (∀{i:Nat}{f:SE}{a:DS}{d:aa}{Q:Fl->aa->Prop}{E:fG->aa->Prop},WX (aH i f a d) Q E=WX (f a d) (λv e=>Q (.nx (a.set i (some v))) e) E)
 /\ (∀{n:SA}{o:SG}{b:SS}{a:DS}{d:aa}{Q:Fl->aa->Prop}{E:fG->aa->Prop},WX (dj (bS n) o b a d) Q E=WP (n a d) (λj e=>WX (dO o b j a e) Q E))
 /\ (∀{i:Nat}{l:List Str}{b u:SS}{a:DS}{d:aa}{Q:Fl->aa->Prop},WP (lS i l b u a d) Q=WX (b a d) Q (λx e=>x.cls∈l/\WP (u (a.set i (some (.exn x.cls x.at_))) e) (λk m=>match k with|.ret v=>Q (.ret v) m|_=>False))):=by
 refine⟨FY,qL,qL,?_,rfl,rfl,?_,?_,?_,?_,?_,?_,?_,?_⟩
 ·intro s t a d Q E;unfold aF;cases s a d with
  |ok k e=>cases k<;>rfl
  |exc x d=>rfl
  |stuck=>rfl
 ·intro c s t a d Q E;show WX ((bS c a d).bind _) Q E=_;rw[p7]
  congr;funext b e
  split<;>rfl
 ·intro c g a d Q E;show WX ((bS g a d).bind _) Q E=_;rw[p7]
  congr;funext j e
  by_cases h:j.length<=sizeLine
  ·rw[if_pos h];simp[WX,h]
  ·rw[if_neg h];simp[WX,h]
 ·intro F g a d Q E;exact p7
 ·intro f a d Q E;unfold ao;cases f a d<;>rfl
 ·intro f a d Q E;unfold cR;cases f a d<;>rfl
 ·intro i f a d Q E;unfold aH;cases f a d<;>rfl
 ·intro n o b a d Q E;exact p7
 ·intro i l b u a d Q;unfold lS;cases b a d with
  |ok k e=>rfl
  |stuck=>rfl
  |exc x e=>
   show WP (if x.cls∈l then _ else _) Q=(x.cls∈l/\_)
   by_cases h:x.cls∈l
   ·rw[if_pos h];simp only[h,true_and];cases u (a.set i (some (.exn x.cls x.at_))) e with
    |ok k m=>cases k<;>rfl
    |exc _ _=>rfl
    |stuck=>rfl
   ·rw[if_neg h];simp[WP,h]
theorem iV{a:List D}(h:a.length=np)(k:WX (b (a.map some++List.replicate (n-np) none) au) (kB Q) E):WX (bV n np b a au) Q E:=by
 unfold bV;rw[if_pos h];revert k;cases b (a.map some++List.replicate (n-np) none) au with
 |ok fl st'=>cases fl<;>first|exact λq=>q|exact λq=>q.elim
 |exc x st'=>exact λq=>q
 |stuck=>exact λq=>q
theorem vn{a:List Str}(h:σ[i]?=some (some (.exn c l)))(b:c∈a)(q:Q (.bl true) au):WP (jf i a σ au) Q:=by
 unfold jf;rw[h];dsimp only;rw[if_pos b];exact q
theorem bw.lt(d:bw au st' n)(h:n<au.length):n<st'.length:=cD h d.len
theorem bO.lt(h:bO au n):n<au.length:=by obtain⟨c,x,e,_⟩:=h;exact jU e
theorem Bl{r:List Int}{P:Int->Prop}(h:∀x∈r,P x){y:Int}(a:P y):∀x∈r++[y],P x:=λx hx=>by
 rcases cM.mp hx with hx|hx
 ·exact h x hx
 ·simp at hx;subst hx;exact a
theorem kj{a:Type}(l:List a):(l.filter λ_=>true)=l:=List.filter_eq_self.mpr '&'
theorem o8{b:Type}(P:b->Bool):∀a:List b,cT (a.map λx=>.bl (P x))=some (a.map P)
 |[]=>rfl
 |x::a=>by rw[dr,cT,o8 P a];rfl
def bC(l:List (List Int)):Bool:=(l.zip (l.drop 1)).all λp=>HT.lexLt p.1 p.2
theorem mJ:∀l:List (List Int),bC l=true↔fQ l
 |[]=>by simp[bC,fQ]
 |[a]=>by simp[bC,fQ]
 |a::b::l=>by
  have f:=mJ (b::l);have e:bC (a::b::l)=(HT.lexLt a b&&bC (b::l)):=by simp[bC]
  rw[e,eh,f];constructor
  ·rintro⟨d,c⟩;refine pz.mpr ⟨λx hx=>?_,c⟩;rcases ce.mp hx with rfl|hx
   ·exact d
   ·exact Srt.tY d ((pz.mp c).1 x hx)
  ·intro h;obtain⟨d,c⟩:=pz.mp h;exact⟨d b f6,c⟩
theorem Ox:∀a b:List (List Int),bx (aL a) (aL b)=(a.zip b).map λp=>.tup [aN p.1,aN p.2]
 |[],b=>by simp[bx]
 |_::_,[]=>by simp[bx]
 |x::a,y::b=>by
  rw[Ln,dr,←Ox a b]
  rfl
theorem vR:db (aN a) (aN b) au=.ok (.bl (HT.lexLt a b)) au:=by
 show(match bF (a.map D.int),bF (b.map D.int) with
  |some ns,some ms=>ar.ok (D.bl (HT.lexLt ns ms)) au
  |_,_=>ar.stuck)=_
 rw[mL,mL]
theorem KD{l:List (List Int)}(q:Q ((l.zip (l.drop 1)).map λp=>.bl (HT.lexLt p.1 p.2)) au):
  WP (aX (gT 2 (dz (gN 0) (dz (gN 1) im))) aK (aU db (aA 0) (aA 1)) (bx (aL l) (cutD (aL l) (some 1) none)) [none,none] au) Q:=by
 have e:cutD (aL l) (some 1) none=aL (l.drop 1):=by
  have:=MX (aL l) 1;rw[show((1:Nat):Int)=1 from rfl] at this;rw[this,aL,aL,List.map_drop]
 rw[e,Ox];refine jp (as:=l.zip (l.drop 1)) (λa=>∃v w,a=[v,w]) (λ_=>true) (λp=>.bl (HT.lexLt p.1 p.2)) (λp=>.tup [aN p.1,aN p.2]) ⟨_,_,rfl⟩ ?_ (by rw[kj];exact q);rintro p b a ⟨v,w,rfl⟩;refine⟨_,rfl,⟨_,_,rfl⟩,by simp only[W,hV],λ_=>?_⟩;simp only[W,V];exact WP.of vR ⟨rfl,rfl⟩
theorem ES [Decidable p] (q:Q (.int (if p then b else a)) au):WP (cx (.lst [.int a,.int b]) (.int (if p then 1 else 0)) au) Q:=by
 by_cases h:p
 ·simp only[h,f5] at q ⊢;exact iR (xs:=[.int a,.int b]) rfl rfl q
 ·simp only[h,gS] at q ⊢;exact iR (xs:=[.int a,.int b]) rfl rfl q
inductive Pl (k:Nat):D->Prop
 |non:Pl k .non
 |bl (b:Bool):Pl k (.bl b)
 |int (i:Int):Pl k (.int i)
 |str (x:Str):Pl k (.str x)
 |tup {ds:List D}(h:∀d∈ds,Pl k d) (hl:ds.length<=k):Pl k (.tup ds)
 |lst {ds:List D}(h:∀d∈ds,Pl k d) (hl:ds.length<=k):Pl k (.lst ds)
noncomputable def rD:D->Bool
 |.tup _=>true
 |_=>false
noncomputable def iF:D->Bool
 |.int _=>true
 |_=>false
theorem r8(h:Pl k d):av [d,.ty "tuple"] au=.ok (.bl (rD d)) au:=by
 cases h<;>rfl
theorem Cr(h:Pl k d):o6 [d] au=.ok (.bl (iF d)) au:=by
 cases h<;>rfl
noncomputable def fu:D->Bool
 |.int i=>decide (1<=i)
 |_=>false
noncomputable def g9:List D->Int
 |[]=>0
 |.int i::r=>i+g9 r
 |_::r=>g9 r
def fL:D->Bool
 |.tup ds=>ds.all fu&&(decide (ds.length<=6)&&decide (g9 ds<=16))
 |_=>false
theorem No(a:List D):fL (.tup a)=(a.all fu&&(decide (a.length<=6)&&decide (g9 a<=16))):=rfl
theorem BL:∀{a:List D},a.all fu=true->∃r:List Int,a=r.map .int/\∀x∈r,1<=x
 |[],_=>⟨[],rfl,by simp⟩
 |d::a,h=>by
  rw[wo,eh] at h;obtain⟨r,rfl,b⟩:=BL h.2;cases d with
  |int i=>
   have:1<=i:=gX h.1;exact⟨i::r,rfl,by simpa using ⟨this,b⟩⟩
  |_=>cases h.1
theorem Jj(r:List Int):g9 (r.map .int)=r.sum:=by
 induction r with
 |nil=>rfl
 |cons x r ih=>simp[g9,ih]
theorem J9(h:Pl k d)(g:k<=1000)(q:Q (.bl (fL d)) au):WP (yy [d] au) Q:=by
 refine df rfl ?_;simp only[W,V];refine WP.of (r8 h) ?_;cases h with
 |tup hd hl=>
  rename_i a;refine⟨true,rfl,?_⟩;simp only[W,V];refine⟨_,rfl,ag _ '!',?_⟩;refine(by rw[List.map_id];exact id:WP (aX _ _ _ (a.map id) _ _) _->WP (aX _ _ _ a _ _) _) ?_;refine jp (as:=a) (λb=>∃v,b=[v]) (λ_=>true) (λx=>.bl (fu x)) id ⟨_,rfl⟩ ?_ ?_
  ·rintro x c b ⟨v,rfl⟩;refine⟨_,rfl,⟨_,rfl⟩,by simp only[W,hV],λ_=>?_⟩;simp only[W,V];refine WP.of (Cr (hd x c)) ?_;simp only[W];cases hd x c<;>simp only[iF,fu,id,W,V,hV]
  ·rw[kj];simp only[M,W,V];refine⟨_,o8 _ _,?_⟩;rw[qP];show if(a.all fu)=true then _ else _
   cases hc:a.all fu with
   |false=>
    rw[if_neg '"'];have e:fL (.tup a)=false:=by simp[fL,hc]
    rw[e] at q;exact q
   |true=>
    rw[if_pos rfl];obtain⟨r,rfl,f⟩:=BL hc;refine WP.of GC ?_;have e:fL (.tup (r.map .int))=(decide (r.length<=6)&&decide (r.sum<=16)):=by
     rw[No,hc,Jj,ax,nW]
    rw[←e];exact q
 |_=>exact⟨false,rfl,q⟩
theorem Cv:∀{a:List D},a.all fL=true->∃l:List (List Int),a=aL l
 |[],_=>⟨[],rfl⟩
 |d::a,h=>by
  rw[wo,eh] at h;obtain⟨l,rfl⟩:=Cv h.2;cases d with
  |tup es=>
   have b:=h.1;rw[No,eh] at b;obtain⟨r,rfl,_⟩:=BL b.1;exact⟨r::l,rfl⟩
  |_=>cases h.1
def bG(a:List D):List (List Int):=(eZ a).getD []
theorem nB(l:List (List Int)):bG (aL l)=l:=by unfold bG;rw[P1];rfl
def dZ:D->Bool
 |.tup ds=>ds.all fL&&bC (bG ds)
 |_=>false
theorem OL(a:List D):dZ (.tup a)=(a.all fL&&bC (bG a)):=rfl
theorem CG{l:List (List Int)}(a:l.length<=1000)(q:Q (.bl (bC l)) au):WP (o9 [aM l] au) Q:=by
 refine df rfl ?_;simp only[W,V,M];refine⟨1,rfl,.inl ⟨_,rfl,?_⟩⟩;refine⟨_,_,rfl,by rw[yP,zu];exact ag _ '!',KD ?_⟩;refine⟨_,o8 _ _,?_⟩;rw[qP];exact q
theorem nR{a:List D}{R:List D->aa->Prop}(h:WP (aX bd c f (a.map id) σ au) R):WP (aX bd c f a σ au) R:=by
 rw[List.map_id] at h;exact h
theorem Qt(h:Pl k d)(f:k<=1000)(q:Q (.bl (dZ d)) au):WP (yK [d] au) Q:=by
 refine df rfl ?_
 try simp only[W,V]
 refine WP.of (r8 h) ?_;cases h with
 |tup hd hl=>
  rename_i a;refine⟨true,rfl,?_⟩
  try simp only[W,V]
  refine⟨_,rfl,ag _ '!',nR ?_⟩;refine jp (as:=a) (λb=>∃v,b=[v]) (λ_=>true) (λx=>.bl (fL x)) id ⟨_,rfl⟩ ?_ ?_
  ·rintro x c b ⟨v,rfl⟩;refine⟨_,rfl,⟨_,rfl⟩,by simp only[W,hV],λ_=>?_⟩
   try simp only[W,V]
   exact J9 (hd x c) f ⟨rfl,rfl⟩
  ·rw[kj];simp only[M,W,V];refine⟨_,o8 _ _,?_⟩;rw[qP];show if(a.all fL)=true then _ else _
   cases hc:a.all fL with
   |false=>
    rw[if_neg '"'];have e:dZ (.tup a)=false:=by rw[OL,hc];rfl
    rw[e] at q;exact q
   |true=>
    rw[if_pos rfl];obtain⟨l,rfl⟩:=Cv hc;rw[OL,hc,nB,nW] at q;rw[zu] at hl;exact CG '!' q
 |_=>exact⟨false,rfl,q⟩
theorem J5(l:List (List Int)):decide (((List.range (l.length-1)).filter λi=>!HT.lexLt (l.getD i []) (l.getD (i+1) [])).length=0)=bC l:=by
 by_cases h:bC l=true
 ·rw[h];have k:=(mJ l).mp h;refine bH ?_;rw[LB,Ae];intro i b;have b:=gq.mp b;have c:i<l.length:=by lia
  have a:i+1<l.length:=by lia
  have:=Ao.mp k i (i+1) c a '!';rw[ie,ie,bQ c,bQ a]
  simpa using this
 ·have d:bC l=false:=by simpa using h
  rw[d];refine bM λz=>h ?_
  rw[LB,Ae] at z;unfold bC;rw[dL];intro p f;obtain⟨i,b,e⟩:=kx f;have j:i<l.length-1:=by simp at b;lia
  have:=z i (gq.mpr j);rw[List.getElem_zip] at e;rw[←e];have c:i<l.length:=by lia
  have a:i+1<l.length:=by lia
  rw[ie,ie,bQ c,bQ a] at this;simp only[Lc];have g:l[1+i]' '!'=l[i+1]:=by congr 1;lia
  rw[g]
  simpa using this
theorem gI{R:Fl->aa->Prop}(h:WP (s σ au) R)(k:∀a b,R a b->iG t Q a b):WP (aF s t σ au) Q:=by
 rw[vo];exact h.mono k
noncomputable def mr(l:List (List Int)):Prop:=∀a:List (List Int),a.Nodup->(∀x∈a,x∈l)->a.length<=1000000
theorem mr.of{l U:List (List Int)}(h:∀x∈l,x∈U)(c:U.length<=1000000):mr l:=λe a b=>aT (List.Nodup.length_le_of_subset a λx d=>h x (b x d)) c
theorem J6{l:List (List Int)}(h:l.length<=1000000):mr l:=mr.of (λx a=>a) h
theorem GZ(hx:gs x=some (aL l))(hl:mr l)(k:∀g,Q (aM (aQ l)) (au++g)):WP (nw [x] au) Q:=by
 have P:∀{a:List (List Int×Int)}{i:Nat},xP a (l.take i)->a.length<=1000000:=λ{a i} b=>by
  have:=hl (a.map (·.1)) b.nd λz hz=>pA ((b.mem z).mp hz)
  rwa [ax] at this
 have W:=uO (bd:=gN 2) (body:=gu (aA 1) (aA 2) (aU aO (gz (aA 1) (aA 2) (eC (.int 0))) (eC (.int 1)))) (xs:=aL l) (σ:=[some x,some (.ref au.length),none]) (au:=au++[.dT []])
  (λi d s=>∃(v:Option D) (a:List (List Int×Int)),d=[some x,some (.ref au.length),v]/\s=au++[.dT (bY a)]/\xP a (l.take i)) ⟨none,[],rfl,rfl,⟨wv,λk=>by simp,λp h=>(by cases h),by simp⟩⟩ (by
   rintro i y d s u ⟨v,a,rfl,rfl,b⟩;obtain⟨k,m,rfl⟩:=t0 u;obtain⟨q,e1,t⟩:=F6 b k;have r:(au++[O.dT (bY a)])[au.length]?=some (.dT (bY a)):=by simp
   have j:(dw (bY a) k).getD (.int 0)=.int ((l.take i).count k:Nat):=by
    rw[uD b];split
    ·rfl
    ·rename_i z;rw[wD.mpr z];rfl
   have H:=NJ k;have A:=IP r;have G:(bY a).length<sizeLine:=by
    rw[ax];exact rk _ (P b)
   refine⟨_,[some x,some (.ref au.length),some (aN k)],au++[.dT (bY q)],rfl,?_,some (aN k),q,rfl,rfl,by rw[mK m];exact t⟩;simp only[aN] at *
   simp only[Hr,uj,Iq,EQ,Mx,gN,List.set_cons_succ,Lk,LC,List.getElem?_cons_zero,nq,A,H,j,Ff,r,G,f5,e1]
   simp)
 obtain⟨S,X,e,v,a,rfl,rfl,b⟩:=W;rw[zu] at b;have I:=P b;rw[mR] at b;have V:=F8 (bd:=gN 0) (c:=eB (aU dE (aU ez (aU fw (aA 1) (aA 0)) (eC (.int 2))) (eC (.int 1)))) (f:=aA 0) (xs:=aL (a.map (·.1))) (σ:=[none,some (.ref au.length)]) (au:=au++[.fT (bY a)])
  (λi o d s=>s=au++[.fT (bY a)]/\(∃w:Option D,d=[w,some (.ref au.length)])/\o=aL (((a.map (·.1)).take i).filter λk=>decide (l.count k%2=1))) ⟨rfl,⟨none,rfl⟩,rfl⟩ (by
   rintro i y o d s u ⟨rfl,⟨w,rfl⟩,rfl⟩;obtain⟨k,m,rfl⟩:=t0 u;have r:(au++[O.fT (bY a)])[au.length]?=some (.fT (bY a)):=by simp
   have E:k∈l:=(b.mem k).mp (fj m);have j:dw (bY a) k=some (.int (l.count k:Nat)):=by rw[uD b,if_pos E]
   have H:fw (.ref au.length) (aN k) (au++[O.fT (bY a)])=.ok (.int (l.count k:Nat)) _:=IM (IQ r) j;have A:(((l.count k:Nat):Int)%2=1)↔(l.count k%2=1):=⟨λh=>by lia,λh=>by lia⟩
   refine⟨[some (aN k),some (.ref au.length)],decide (l.count k%2=1),au++[.fT (bY a)],rfl,?_,?_⟩
   ·simp only[aN] at *
    simp[H,A]
   ·by_cases ho:l.count k%2=1
    ·refine .inr ⟨bH ho,aN k,_,rfl,rfl,⟨_,rfl⟩,?_⟩;rw[mK m,zV];simp[ho,aL]
    ·refine .inl ⟨bM ho,rfl,⟨_,rfl⟩,?_⟩;rw[mK m,zV]
     simp[ho,aL])
 obtain⟨ys,U,a0,j,rfl,⟨w,rfl⟩,rfl⟩:=V;rw[zu,mR] at j;refine WP.of (rY rfl ?_) (k [.fT (bY a)]);have Y:((a.map (·.1)).filter λk=>decide (l.count k%2=1)).Nodup:=b.nd.filter _;have T:∀k,k∈((a.map (·.1)).filter λk=>decide (l.count k%2=1))↔l.count k%2=1:=λk=>by
  rw[wy,b.mem,jt];constructor
  ·exact λh=>h.2
  ·intro h;refine⟨?_,h⟩;rcases Lg (l.count k) with z|z
   ·rw[z] at h;cases h
   ·exact List.count_pos_iff.mp z
 have G:cJ ((a.map (·.1)).filter λk=>decide (l.count k%2=1))=aQ l:=GY Y T;have C:((a.map (·.1)).filter λk=>decide (l.count k%2=1)).length<=1000000:=by
  have:=Lv (λk=>decide (l.count k%2=1)) (a.map (·.1));rw[ax] at this;lia
 have J:=QR (au:=au++[.fT (bY a)]) C;rw[G] at J;have n:(aL (a.map (·.1))).length<=sizeLine:=by
  rw[zu,ax];exact ag _ I
 refine wX (σ1:=[some x,some (.ref au.length),none]) (st1:=au++[.dT []]) '&' ?_;refine wX (σ1:=[some x,some (.ref au.length),v]) (st1:=au++[.dT (bY a)]) (by simp[hx,e]) ?_;have R:aI (ik (aA 1)) 1 [1] (gN 0) (eB (aU dE (aU ez (aU fw (aA 1) (aA 0)) (eC (.int 2))) (eC (.int 1)))) (aA 0) [some x,some (.ref au.length),v] (au++[.dT (bY a)])
   = .ok (.lst (aL ((a.map (·.1)).filter λk=>decide (l.count k%2=1)))) (au++[.fT (bY a)]):=by
  rw[vH];have e8:ik (aA 1) [some x,some (.ref au.length),v] (au++[.dT (bY a)])=.ok (aL (a.map (·.1))) (au++[.fT (bY a)]):=by
   simp
  rw[e8,nq,if_pos n];show(aX _ _ _ _ [none,some (.ref au.length)] _).bind _=_;rw[j]
  rfl
 rw[FM,vG,qM,vG,qM,R];simp only[nq,Ea,J,P2]
theorem qD(a:gs x=some (aL l))(b:l.length<=1000000)(k:∀g,Q (aM (aQ l)) (au++g)):WP (nw [x] au) Q:=GZ a (J6 b) k
theorem QV(C:bO au n)(H:0<=m)(h1:m<=1000)(k:∀r b,r.length<=6->(∀x∈r,1<=x)->r.sum<=m->bw au b n->Q (aN r) b):WP (yZ [.ref n,.int m] au) Q:=by
 refine df rfl ?_;simp only[W,V];refine⟨ag _ '&',?_⟩;refine gQ C '!' '!' λc z P R I=>?_
 refine⟨c,rfl,f9 '!' '!',?_⟩;refine kf (λi g s=>∃(r:List Int) (left:Int) (v w:Option D),g=[some (.ref n),some (.int m),some (aN r),some (.int left),v,w]/\bw au s n/\r.length<=i/\(∀x∈r,1<=x)/\0<=left/\r.sum+left=m) ⟨[],m,none,none,rfl,I,by simp,by simp,H,by simp⟩ ?_ ?_
 ·rintro i x g s E ⟨r,left,v,w,rfl,e,q,d,o,u⟩;obtain⟨S,rfl⟩:=p6 E;refine⟨_,rfl,?_⟩;simp only[W,V,L];have U:0<=r.sum:=Qo d;refine⟨trivial,?_⟩;split
  ·rename_i j;refine⟨ag _ '&',?_⟩;refine gQ e.bag '!' '!' λt s2 y J l=>?_
   refine Hf y (by simp;lia) λh a=>?_
   obtain⟨L,rfl,f,A⟩:∃L:Int,h=.int L/\1<=L/\L<=left:=by
    simp only[ce,iB,iy] at a;rcases a with rfl|rfl
    ·exact⟨_,rfl,by lia,by lia⟩
    ·exact⟨_,rfl,by split<;>lia,by split<;>lia⟩
   refine gQ l.bag f '!' λp X Y T G=>?_
   try simp only[W,V]
   refine⟨ag _ '&',by rw[ax];exact ag _ (by simp;lia),trivial,r++[1+p],left-(1+p),some (.int (0+i)),some (.int (1+p)),by simp,(e.trans l).trans G,by simp;lia,Bl d '!',by lia,by simp;lia⟩
  ·exact⟨r,left,_,_,rfl,e,by lia,d,o,u⟩
 ·rintro g s ⟨r,left,v,w,rfl,e,q,d,o,u⟩;rw[jA] at q
  try simp only[W,V]
  exact k r s '!' d '!' e
theorem wf:∀{l:List Int}{j:Nat}{a x:Int},l[j]?=some a->(l.set j x).sum=l.sum-a+x
 |[],_,_,_,h=>by cases h
 |b::l,0,a,x,h=>by
  have d:b=a:=by simpa using h
  subst d;rw[Lk,pi,pi];lia
 |b::l,j+1,a,x,h=>by
  have c:=wf (l:=l) (j:=j) (a:=a) (x:=x) (by simpa using h);rw[List.set_cons_succ,pi,pi,c];lia
theorem qC{n:Nat}{k:Int}(a:0<=k)(b:k<n):i9 n k=some k.toNat:=by
 unfold i9;simp only[a,b,hV,f5]
noncomputable def eU:D->Bool
 |.int i=>decide (0<=i)
 |_=>false
def dM(m:Int):D->Bool
 |.tup ds=>decide ((ds.length:Int)=m)&&ds.all eU
 |_=>false
theorem yo:∀{a:List D},a.all eU=true->∃r:List Int,a=r.map .int
 |[],_=>⟨[],rfl⟩
 |d::a,h=>by
  rw[wo,eh] at h;obtain⟨r,rfl⟩:=yo h.2;cases d with
  |int i=>exact⟨i::r,rfl⟩
  |_=>cases h.1
theorem BV:∀{b:List D},b.all (dM m)=true->∃l:List (List Int),b=aL l
 |[],_=>⟨[],rfl⟩
 |d::b,h=>by
  rw[wo,eh] at h;obtain⟨l,rfl⟩:=BV h.2;cases d with
  |tup es=>
   have a:=h.1;unfold dM at a;rw[eh] at a;obtain⟨r,rfl⟩:=yo a.2;exact⟨r::l,rfl⟩
  |_=>cases h.1
def lR(m:Int):D->Bool
 |.tup ds=>ds.all (dM m)&&bC (bG ds)
 |_=>false
theorem Nq(m:Int)(a:List D):lR m (.tup a)=(a.all (dM m)&&bC (bG a)):=rfl
theorem Re(h:Pl k d)(g:k<=1000)(q:Q (.bl (dM m d)) au):WP (yR [.int m,d] au) Q:=by
 refine df rfl ?_;simp only[W,V,Dd.N];refine WP.of (r8 h) ?_;cases h with
 |tup hd hl=>
  rename_i a;refine⟨true,rfl,?_⟩;simp only[W,V,Dd.N];have e:dM m (.tup a)=(decide ((a.length:Int)=m)&&a.all eU):=rfl;by_cases c:(a.length:Int)=m
  ·rw[bH c] at e ⊢;rw[if_neg '"'];refine⟨ag _ '!',nR ?_⟩;refine jp (as:=a) (λb=>∃v,b=[v]) (λ_=>true) (λx=>.bl (eU x)) id ⟨_,rfl⟩ ?_ ?_
   ·rintro x f b ⟨v,rfl⟩;refine⟨_,rfl,⟨_,rfl⟩,by simp only[W,hV],λ_=>?_⟩;simp only[W,V];refine WP.of (Cr (hd x f)) ?_;simp only[W];cases hd x f<;>simp only[iF,eU,id,W,V,hV]
   ·rw[kj];simp only[M,W,V];refine⟨_,o8 _ _,?_⟩;rw[qP];rw[e,nW] at q;exact q
  ·rw[bM c] at e ⊢;rw[if_pos rfl];rw[e] at q;exact q
 |_=>exact⟨false,rfl,q⟩
theorem Qc(h:Pl k d)(f:k<=1000)(q:Q (.bl (lR m d)) au):WP (yz [.int m,d] au) Q:=by
 refine df rfl ?_
 try simp only[W,V]
 refine WP.of (r8 h) ?_;cases h with
 |tup hd hl=>
  rename_i a;refine⟨true,rfl,?_⟩
  try simp only[W,V]
  refine⟨_,rfl,ag _ '!',nR ?_⟩;refine jp (as:=a) (λb=>∃v,b=[v,some (.int m)]) (λ_=>true) (λx=>.bl (dM m x)) id ⟨_,rfl⟩ ?_ ?_
  ·rintro x c b ⟨v,rfl⟩;refine⟨_,rfl,⟨_,rfl⟩,by simp only[W,hV],λ_=>?_⟩
   try simp only[W,V]
   exact Re (hd x c) f ⟨rfl,rfl⟩
  ·rw[kj];simp only[M,W,V];refine⟨_,o8 _ _,?_⟩;rw[qP];show if(a.all (dM m))=true then _ else _
   cases hc:a.all (dM m) with
   |false=>
    rw[if_neg '"'];have e:lR m (.tup a)=false:=by rw[Nq,hc];rfl
    rw[e] at q;exact q
   |true=>
    rw[if_pos rfl];obtain⟨l,rfl⟩:=BV hc;rw[Nq,hc,nB,nW] at q;rw[zu] at hl;exact CG '!' q
 |_=>exact⟨false,rfl,q⟩
noncomputable def Sh(n:Nat) (d:D):Prop:=∃p,bZ d=some p/\p.canLay0=true/\p.depth<=n
theorem Sh.str(h:(PyData.str x).canLay0=true):Sh n (.str x):=⟨_,rfl,h,eJ _⟩
theorem Sh.ok(e:bZ d=some p)(a:p.canLay0=true)(b:p.depth<=64):PySem.SeqAt.shaped p=true/\PyData.eqv p p=true:=by
 refine⟨?_,PySem.SeqAt.eqv_refl p a⟩;show(p.canLay0&&decide (p.depth<=64))=true;rw[a,bH b];rfl
theorem kh{neg:Bool}{x y d:D}{au:aa}(f:now au x=d)(g:now au y=d)(h:Sh 64 d):cO neg x y au=.ok (.bl (!neg)) au:=by
 obtain⟨p,e,c,b⟩:=h;obtain⟨a,i⟩:=Sh.ok e c b;unfold cO dataOf;rw[f,g,e];dsimp only;rw[if_pos ⟨a,a⟩,i];cases neg<;>rfl
theorem tN{c N:Int}(a:1<=N):0<=c%N/\c%N<N:=⟨sL _ '!',Lh _ '!'⟩
theorem Fd{c N:Int}{i j:Nat}(a:i<j)(b:(j:Int)<N):(c+j)%N≠(c+i)%N:=λe=>by
 have h:=Int.emod_eq_emod_iff_emod_sub_eq_zero.mp e;rw[show(c+j:Int)-(c+i)=j-i by lia,Int.emod_eq_of_lt '!' '!'] at h;lia
theorem GP{l:List Int}(h:y∈l.set j x):y∈l\/y=x:=List.mem_or_eq_of_mem_set h
theorem RG{n:Nat}{N d:Int}(E:bO au n)(o:1<=N)(a9:N<=1000)(hd:0<=d)(b0:d<=1000)(k:∀r m,r.length=N.toNat->(∀x∈r,0<=x)->r.sum<=d->bw au m n->Q (aN r) m):WP (sJ [.ref n,.int N,.int d] au) Q:=by
 refine df rfl ?_;simp only[W,V];refine gQ E '!' '!' λH a0 h1 h2 d1=>?_
 refine gQ d1.bag '!' '!' λc Y h3 h4 d2=>?_
 have S:=d1.trans d2;refine⟨_,rfl,f9 '!' '!',by rw[jA];exact ag _ '!',?_⟩;refine jT (λi p g s=>s=Y/\p=(List.replicate i (0:Int)).map .int/\∃v,g=[v]) ⟨rfl,rfl,_,rfl⟩ ?_ ?_
 ·rintro i x p g s G ⟨rfl,rfl,v,rfl⟩;refine⟨_,rfl,?_⟩;simp only[W,V];refine⟨trivial,?_,_,rfl⟩;have:=List.replicate_succ' (n:=i) (a:=(0:Int));have J:(List.replicate (i+1) (0:Int)).map D.int=(List.replicate i (0:Int)).map D.int++[D.int 0]:=by rw[this,gW];rfl
  rw[←J]
  rfl
 ·rintro ys g s ⟨rfl,rfl,v,rfl⟩;rw[jA]
  try simp only[W,V]
  refine⟨trivial,_,rfl,f9 '!' '!',?_⟩;have hk:au.length<=s.length:=S.len;have T:s.length≠n:=mP (S.lt E.lt);have fill:∀(i:Nat) (r:List Int) (x left:Int),(i:Int)<N->r.length=N.toNat->(∀y∈r,0<=y)->r.sum+left=H->(∀j:Nat,i<=j->(j:Int)<N->r[((c+j)%N).toNat]?=some 0)->0<=x ->
    (r.set ((c+i)%N).toNat x).length=N.toNat/\(∀y∈r.set ((c+i)%N).toNat x,0<=y)/\(r.set ((c+i)%N).toNat x).sum+(left-x)=H/\∀j:Nat,i+1<=j->(j:Int)<N->(r.set ((c+i)%N).toNat x)[((c+j)%N).toNat]?=some 0:=λi r x left hi C U R h G=>by
   refine⟨by rw[mQ];exact C,λy hy=>?_,?_,λj hj u=>?_⟩
   ·rcases GP hy with z|z
    ·exact U y z
    ·rw[z];exact G
   ·rw[wf (h i (bi _) hi)];lia
   ·have I:=tN (c:=c+i) o;have m2:=tN (c:=c+j) o;have ne:=Fd (c:=c) (N:=N) (i:=i) (j:=j) '!' u;rw[jF '!'];exact h j '!' u
  refine kf (λi g l=>∃(left:Int) (r:List Int) (v w:Option D),g=[some (.ref n),some (.int N),some (.int d),some (.int left),some (.int c),some (.ref s.length),v,w]/\0<=left/\left<=d/\r.length=N.toNat/\(∀ x∈r,0<=x)/\r.sum + left=H/\(∀ j:Nat,i<=j->(j:Int)<N->r[((c + j)%N).toNat]?=some 0)/\bw au l n/\l[s.length]?=some (.lst (r.map .int)))
   ⟨H,List.replicate N.toNat 0,none,none,rfl,h1,by lia,by simp,by simp,by simp,λj _ hj=>?_,S.trans (.more S.bag _),by simp⟩ ?_ ?_
  ·have m2:=tN (c:=c+j) o;rw[LH,if_pos '!']
  ·rintro i x g l G ⟨left,r,v,w,rfl,C,U,R,h,a5,A,P,q⟩;obtain⟨hi,rfl⟩:=p6 G;refine⟨_,rfl,?_⟩;unfold PJ;simp only[W,V,M,Dd.N,L];rw[sK];refine gQ P.bag '!' '!' λy s2 b1 b2 J=>?_
   have t:s2[s.length]?=some (.lst (r.map .int)):=(J.keep _ (jU q) T).trans q;have E2:=P.trans J;have I:=tN (c:=c+i) o
   try simp only[W,V,M,Dd.N,L]
   refine⟨by lia,_,_,_,_,rfl,rfl,t,qC (k:=(c+i)%N) I.1 (by rw[ax];lia),?_⟩;have f:=jU t;obtain⟨X,f2,f3,f4⟩:=fill i r y left '!' R h a5 A b1;refine⟨left-y,r.set ((c+i)%N).toNat y,_,_,rfl,by lia,by lia,X,f2,f3,f4,E2.over E.lt hk,?_⟩;rw[tP f,List.map_set]
  ·rintro g l ⟨left,r,v,w,rfl,C,U,R,h,a5,A,P,q⟩;rw[jA] at A;have I:=tN (c:=c+((N-1).toNat:Nat)) o;simp only[W,V,M,Dd.N];rw[show c+N-1=c+((N-1).toNat:Nat) by lia];refine⟨by lia,_,_,_,_,rfl,rfl,q,qC I.1 (by rw[ax];lia),?_⟩;have f:=jU q;obtain⟨X,f2,f3,f4⟩:=fill (N-1).toNat r left left '!' R h a5 A C;rw[←List.map_set];have e:aY [.ref s.length] (l.set s.length (.lst ((r.set ((c+((N-1).toNat:Nat))%N).toNat left).map .int)))=.ok (aN (r.set ((c+((N-1).toNat:Nat))%N).toNat left)) (l.set s.length (.lst ((r.set ((c+((N-1).toNat:Nat))%N).toNat left).map .int))):=N3 (tP f);refine WP.of e ?_;exact k _ _ X f2 '!' (P.over E.lt hk)
theorem HW(a:List Int)(b:Int):cutD ((a++[b]).map D.int) none (some (-1))=a.map D.int:=by
 unfold cutD;have c:((a++[b]).map D.int).length=a.length+1:=by simp
 have d:HT.bN (a.length+1) 0 none=0:=rfl;have e:HT.bN (a.length+1) (a.length+1) (some (-1))=a.length:=by
  show(if(-1:Int)<0 then((-1:Int)+((a.length+1:Nat):Int)).toNat else min (-1:Int).toNat (a.length+1))=_;rw[if_pos '"'];lia
 rw[c,d,e];simp
theorem yn{l:List (List Int)}{r:List Int}{P:List Int->Prop}(h:∀x∈l,P x)(a:P r):∀x∈l++[r],P x:=λx hx=>by
 rcases cM.mp hx with hx|hx
 ·exact h x hx
 ·simp at hx;subst hx;exact a
end Dd
namespace K03
end K03
namespace K13
open PyProof.Rows
end K13
namespace Dd
open L2 K13
theorem BA(I:Nat->DS->aa->Prop) (q:I k a e)(o:k<1000000)
  (s:∀j a e,I j a e->WP (c a e) (λb g=>if b=true then WP (body a g) (fW (λd f=>∃i,i<j/\I i d f) Q) else Q (.nx a) g)):WP (cZ c body a e) Q:=by
 have l:∀n j a e,I j a e->j<n->WP (cH c body n a e) Q:=by
  intro n
  induction n with
  |zero=>intro j a e _ h;lia
  |succ n ih=>
   intro j a e p u;obtain⟨b,g,t,w⟩:=(s j a e p).get;unfold cH;rw[t];dsimp only[nq];cases b with
   |false=>exact w
   |true=>
    rw[if_pos rfl] at w ⊢;obtain⟨m,f,x,w⟩:=w.get;rw[x];cases m with
    |nx d=>obtain⟨i,r,h⟩:=w;exact ih i d f h '!'
    |ct d=>obtain⟨i,r,h⟩:=w;exact ih i d f h '!'
    |brk d=>exact w
    |ret v=>exact w
 exact l lN k a e q o
end Dd
namespace Dd
open L2
noncomputable abbrev hJ:=List Int
def dF(r:hJ):Bool:=!decide (r.drop (r.length-1)=[0])
def gM:Int->hJ->Int
 |_,[]=>0
 |w,x::r=>w*x+gM (2*w+1) r
theorem BP(r:hJ):r=[]\/∃l x,r=l++[x]:=by
 rcases List.eq_nil_or_concat r with h|⟨l,x,h⟩
 ·exact .inl h
 ·exact .inr ⟨l,x,by simpa using h⟩
theorem yH(l:hJ)(x:Int):dF (l++[x])=!decide (x=0):=by
 unfold dF;rw[cq,Lx,Nat.add_sub_cancel,wu];simp
theorem Qr{r:hJ}(p:r.length<=1000)(k:∀a g,decide (a=r)=dF r->Q (aN a) (au++g)):WP (zA [aN r] au) Q:=by
 refine df rfl ?_;refine gI (R:=λe s=>e=.nx [some (aN r),some (.ref au.length)]/\s=au++[.lst (r.map .int)]) ?_ ?_
 ·simp only[W,V];exact WP.of (show iI [aN r] au=.ok (.ref au.length) (au++[.lst (r.map .int)]) from rfl) ⟨rfl,rfl⟩
 rintro e s ⟨rfl,rfl⟩;show WP _ _;refine gI (R:=λe s=>∃a:hJ,e=.nx [some (aN r),some (.ref au.length)]/\s=au++[.lst (a.map .int)]/\decide (a=r)=dF r) ?_ ?_
 ·refine BA (λm n s=>∃a:hJ,m=a.length/\n=[some (aN r),some (.ref au.length)]/\s=au++[.lst (a.map .int)]/\(a=r\/(a.length<r.length/\dF r=false))) (k:=r.length) ⟨r,rfl,rfl,rfl,.inl rfl⟩ '!' ?_;rintro j n s ⟨a,rfl,rfl,rfl,b⟩;have i:(au++[O.lst (a.map .int)])[au.length]?=some (.lst (a.map .int)):=by simp
  rcases BP a with rfl|⟨l,x,rfl⟩
  ·simp only[W,V];refine⟨false,?_,?_⟩
   ·show(dY (au++[O.lst []]) (.ref au.length)).map (λa=>!a.isEmpty)=some false;rw[pY (xs:=[]) '&']
    rfl
   ·simp only[W,V];refine⟨[],trivial,rfl,?_⟩;rcases b with rfl|⟨d,f⟩
    ·rfl
    ·rw[f];exact bM λz=>by rw[←z] at d;simp at d
  ·have h:((l++[x]).map D.int)=l.map .int++[.int x]:=by simp
   simp only[W,V];refine⟨true,?_,?_⟩
   ·show(dY (au++[O.lst ((l++[x]).map .int)]) (.ref au.length)).map (λa=>!a.isEmpty)=some true;rw[pY i,h];simp
   ·simp only[W,V];refine WP.of (ni (qe i) (by rw[h];exact A8 _ _)) ?_;simp only[W,V];by_cases c:x=0
    ·rw[if_pos c];unfold PF;have o:oJ (aA 1) [some (aN r),some (.ref au.length)] (au++[.lst ((l++[x]).map .int)])=.ok (.int x) (au++[.lst (l.map .int)]):=by
      show(match (au++[O.lst ((l++[x]).map .int)])[au.length]? with
       |some (.lst a)=>match a[a.length-1]? with
        |some y=>ar.ok y ((au++[O.lst ((l++[x]).map .int)]).set au.length (.lst a.dropLast))
        |none=>.stuck
       |_=>.stuck)=_
      rw[i,h];simp
     simp only[W];refine WP.of o ?_;simp only[L];refine⟨l.length,by simp,l,rfl,trivial,rfl,.inr ?_⟩;rcases b with b|⟨d,f⟩
     ·rw[←b,yH,bH c];simp
     ·exact⟨by simp at d;lia,f⟩
    ·rw[if_neg c];refine⟨l++[x],trivial,rfl,?_⟩;rcases b with b|⟨d,f⟩
     ·rw[b,bH rfl,←b,yH,bM c];rfl
     ·rw[f];exact bM λz=>by rw[←z] at d;lia
 rintro e s ⟨a,rfl,rfl,b⟩;show WP _ _;simp only[W,V];refine WP.of (N3 (xs:=a.map .int) '&') ?_;exact k a _ b
theorem KA{r:hJ}(m:r.length<=4)(q:Q (.int (gM 1 r)) au):WP (yN [aN r] au) Q:=by
 refine df rfl ?_;simp only[W,V];refine⟨r.map .int,rfl,?_⟩;refine kf (λi c s=>∃(t w:Int) (v:Option D),c=[some (aN r),some (.int t),some (.int w),v]/\s=au/\t+gM w (r.drop i)=gM 1 r/\0<=w/\w+1<=((2^(i+1):Nat):Int)) ⟨0,1,_,rfl,rfl,by simp,by lia,by decide⟩ ?_ ?_
 ·rintro i x c s f ⟨t,w,v,rfl,rfl,b,k,g⟩;obtain⟨y,a,rfl⟩:∃y,r[i]?=some y/\x=.int y:=by
   rw[dm] at f;obtain⟨y,a,rfl⟩:=fH.mp f;exact⟨y,a,rfl⟩
  have d:i<r.length:=by
   rcases gU i r.length with h|h
   ·exact h
   ·rw[ot h] at a;cases a
  have l:w<=32:=by
   have:2^(i+1)<=2^5:=Nat.pow_le_pow_right '"' '!';lia
  have e:r.drop i=y::r.drop (i+1):=by
   rw[sV d];rw[bQ d] at a;cases a
   rfl
  rw[e,gM] at b;refine⟨_,rfl,?_⟩;unfold O8;simp only[W,V,M,L];refine⟨.int t,rfl,.inl ⟨by lia,by lia⟩,WP.of (show oI (λ_ _=>True) (λi j=>D.int (i+j)) (.int t) (.int (w*y)) s=.ok (.int (t+w*y)) s from rfl) ⟨.inl ⟨by lia,by lia⟩,t+w*y,2*w+1,_,rfl,rfl,by rw[←b];lia,by lia,?_⟩⟩;rw[Nat.pow_succ];lia
 ·rintro c s ⟨t,w,v,rfl,rfl,b,k,g⟩;rw[ax,K4] at b;simp only[W,V];rw[show t=gM 1 r by rw[←b];simp[gM]];exact q
def eM(a:List D):hJ:=(bF a).getD []
theorem BI(r:hJ):eM (r.map .int)=r:=by unfold eM;rw[mL];rfl
def gB:D->Bool
 |.tup ds=>decide (ds.length<=4)&&(ds.all eU&&(dF (eM ds)&&decide (gM 1 (eM ds)<=16)))
 |_=>false
theorem Bg(a:List D):gB (.tup a)=(decide (a.length<=4)&&(a.all eU&&(dF (eM a)&&decide (gM 1 (eM a)<=16)))):=rfl
theorem QX(h:Pl k d)(m:k<=1000)(q:∀g,Q (.bl (gB d)) (au++g)):WP (yM [d] au) Q:=by
 have a:Q (.bl (gB d)) au:=by have:=q [];rwa [fE] at this
 refine df rfl ?_;simp only[W,V];refine WP.of (r8 h) ?_;cases h with
 |tup hd hl=>
  rename_i i;refine⟨true,rfl,?_⟩;simp only[W,V];rw[Bg] at a;by_cases c4:(4:Int)<(i.length:Int)
  ·rw[if_pos c4];rw[bM '!'] at a;exact⟨trivial,a⟩
  rw[if_neg c4];rw[bH (show i.length<=4 by lia),nW] at a;refine⟨trivial,_,rfl,ag _ '!',nR ?_⟩;refine jp (as:=i) (λj=>∃v,j=[v]) (λ_=>true) (λx=>.bl (eU x)) id ⟨_,rfl⟩ ?_ ?_
  ·rintro x c j ⟨v,rfl⟩;refine⟨_,rfl,⟨_,rfl⟩,by simp only[W,hV],λ_=>?_⟩;simp only[W,V];refine WP.of (Cr (hd x c)) ?_;simp only[W];cases hd x c<;>simp only[iF,eU,id,W,V,hV]
  ·rw[kj];simp only[M,W,V];refine⟨_,o8 _ _,?_⟩;rw[qP];show ∃b,mY au (.bl (i.all eU))=some b/\_
   refine⟨_,rfl,?_⟩;cases hc:i.all eU with
   |false=>
    rw[hc] at a;simp only[W,V];exact a
   |true=>
    obtain⟨r,rfl⟩:=yo hc;rw[ax] at c4 hl;simp only[W,V];refine Qr '!' λl g c=>?_
    refine WP.of (GT (neg:=false) l r) ?_;have f:=q g;rw[Bg,hc,ax,bH (show r.length<=4 by lia),nW,nW,BI] at f;simp only[W,V,gS,ku];by_cases e:l=r
    ·rw[if_pos e];rw[bH e] at c;rw[←c,nW] at f;refine KA '!' ?_;simp only[W,V];exact⟨trivial,f⟩
    ·rw[if_neg e];rw[bM e] at c;rw[←c] at f;exact f
 |_=>exact⟨false,rfl,a⟩
theorem BD:∀{a:List D},a.all gB=true->∃l:List (List Int),a=aL l
 |[],_=>⟨[],rfl⟩
 |d::a,h=>by
  rw[wo,eh] at h;obtain⟨l,rfl⟩:=BD h.2;cases d with
  |tup es=>
   have b:=h.1;rw[Bg,eh,eh] at b;obtain⟨r,rfl⟩:=yo b.2.1;exact⟨r::l,rfl⟩
  |_=>cases h.1
def j9:D->Bool
 |.tup ds=>ds.all gB&&bC (bG ds)
 |_=>false
theorem JJ(a:List D):j9 (.tup a)=(a.all gB&&bC (bG a)):=rfl
theorem Rb(h:Pl k d)(p:k<=1000)(q:∀g,Q (.bl (j9 d)) (au++g)):WP (yQ [d] au) Q:=by
 refine df rfl ?_
 try simp only[W,V]
 refine WP.of (r8 h) ?_;cases h with
 |tup hd hl=>
  rename_i e;refine⟨true,rfl,?_⟩
  try simp only[W,V]
  refine⟨_,rfl,ag _ '!',?_⟩;refine jT (λi b c s=>(∃v,c=[v])/\b=(e.take i).map (λx=>D.bl (gB x))/\∃g,s=au++g) ⟨⟨_,rfl⟩,rfl,[],by simp⟩ ?_ ?_
  ·rintro i x b c s m ⟨⟨v,rfl⟩,rfl,g,rfl⟩;refine⟨_,rfl,?_⟩;simp only[W,V];refine QX (hd x (fj m)) p λn=>?_
   refine⟨⟨_,rfl⟩,?_,g++n,by simp⟩;rw[mK m,gW]
   rfl
  ·intro r c s j;have f:=j.2.1;refine Exists.elim j.2.2 λg o=>?_
   rw[mR] at f;rw[f,o];simp only[M,W,V];refine⟨_,o8 _ _,?_⟩;rw[qP];show if(e.all gB)=true then _ else _
   have a:=q g;rw[JJ] at a;cases hc:e.all gB with
   |false=>
    rw[if_neg '"'];rw[hc] at a;exact a
   |true=>
    rw[if_pos rfl];obtain⟨l,rfl⟩:=BD hc;rw[hc,nB,nW] at a;rw[zu] at hl;exact CG '!' a
 |_=>exact⟨false,rfl,by have:=q [];rwa [fE] at this⟩
end Dd
namespace Dd
open L2 K13
theorem uX:∀{r:List Int},(∀x∈r,0<=x)->0<=r.sum
 |[],_=>by simp
 |x::r,h=>by
  have:=uX (r:=r) λy a=>h y (gZ _ a)
  have:=h x f6;rw[pi];lia
theorem lq:∀{r:List Int},(∀x∈r,0<=x)->∀x∈r,x<=r.sum
 |[],_,_,h=>nomatch h
 |y::r,h,x,hx=>by
  have a:=λz b=>h z (gZ y b)
  have c:=uX a;have d:=h y f6;rw[pi];rcases ce.mp hx with rfl|hx
  ·lia
  ·have:=lq a x hx;lia
end Dd
namespace K13
end K13
namespace Dd
open L2 K13
end Dd
namespace K08
end K08
namespace Dd
open L2 K13
noncomputable abbrev Row:=List Int
abbrev ii(r:Row):Int:=r.getLastD 0
theorem Bu(h:r≠[]):r.dropLast++[ii r]=r:=by
 have:ii r=r.getLast h:=by
  unfold ii;rw[List.getLastD_eq_getLast?,List.getLast?_eq_some_getLast h]
  rfl
 rw[this];exact List.dropLast_concat_getLast h
theorem IB(h:r≠[]):cx (aN r) (.int (-1)) au=.ok (.int (ii r)) au:=by
 conv=>lhs;rw[←Bu h]
 refine ni rfl ?_;rw[gW];exact A8 _ _
theorem JL(h:r≠[]):cutD (r.map D.int) none (some (-1))=r.dropLast.map D.int:=by
 conv=>lhs;rw[←Bu h]
 exact HW _ _
structure gF (m:Int) (r:Row):Prop where
 len:r.length<=6
 pos:∀x∈r,1<=x
 sum:r.sum<=m
theorem P9{r:Row}(i:r.length<=6)(e:∀x∈r,1<=x)(j:0<=m)(k:∀c,c.length<=6->(∀x∈c,1<=x)->c.sum=r.sum+m->Q (aN c) au):WP (yS [aN r,.int m] au) Q:=by
 refine df rfl ?_;simp only[W,V,M];split
 ·rename_i g;exact k r i e '!'
 ·rename_i g;split
  ·rename_i d;rw[ax] at d;refine⟨ag _ '&',by rw[ax];exact ag _ (by simp;lia),?_⟩;have:=k (r++[m]) (by simp;lia) (Bl e '!') '&';rw[aN,gW] at this;exact this
  ·rename_i d;rw[ax] at d;have a:r≠[]:=by rintro rfl;simp at d
   refine⟨-1,rfl,.inl ⟨_,rfl,?_⟩⟩;rw[JL a];refine WP.of (IB a) ?_
   try simp only[W,V]
   have f:=Bu a;have b:=e;rw[←f] at b;refine⟨ag _ '&',by rw[ax];exact ag _ (by simp;lia),?_⟩
   have:=k (r.dropLast++[ii r+m]) (by simp;lia) (Bl (λx h=>b x (ra _ h)) (by have:=b (ii r) '&';lia)) (by
    conv=>rhs;rw[←f]
    rw[zF,zF,List.sum_singleton,List.sum_singleton]
    lia)
   rw[aN,gW] at this;exact this
theorem Jf(T:bO au n)(hc:0<=c)(S:c<64)(h0:0<=m)(h1:m<=1000)(k:∀l u,(∀r∈l,gF m r)->(l.length:Int)<=c->fQ l->bw au u n->Q (aM l) u):WP (y9 [.ref n,.int c,.int m] au) Q:=by
 refine df rfl ?_;refine gI (R:=λq s=>∃l:List (List Int),q=.nx [some (.ref n),some (.int c),some (.int m),some (.lst (aL l)),none]/\(∀r∈l,gF m r)/\(l.length:Int)=c/\bw au s n) ?_ ?_
 ·simp only[W,V];refine⟨c,rfl,f9 '!' '!',by rw[jA];exact ag _ '!',?_⟩;refine jT (λi b d s=>∃(l:List (List Int)) (v:Option D),b=aL l/\l.length=i/\(∀r∈l,gF m r)/\d=[v,some (.ref n),some (.int m)]/\bw au s n) ⟨[],none,rfl,rfl,by simp,rfl,.refl T⟩ ?_ ?_
  ·rintro i x b d s E ⟨l,v,rfl,a,f,rfl,e⟩;refine⟨_,rfl,?_⟩;simp only[W,V];exact QV e.bag h0 h1 λr G p w P X=>⟨l++[r],_,by simp[aL],by simp[a],yn f ⟨p,w,P⟩,rfl,e.trans X⟩
  ·rintro I d s ⟨l,v,rfl,a,f,rfl,e⟩;rw[jA] at a;exact⟨l,rfl,f,by lia,e⟩
 rintro q s ⟨l,rfl,a,f,e⟩;refine gI (R:=λq s=>∃(l:List (List Int)) (v:Option D),q=.nx [some (.ref n),some (.int c),some (.int m),some (.lst (aL l)),v]/\(∀r∈l,gF m r)/\(l.length:Int)=c/\bw au s n) ?_ ?_
 ·simp only[W,V];refine gQ e.bag '!' '!' λt G c1 c2 J=>?_
  have z:=e.trans J;simp only[W,V];split
  ·refine⟨trivial,?_⟩;split
   ·rename_i A;refine⟨_,rfl,by rw[zu];exact ag _ '!',?_⟩;refine jp (as:=l) (λd=>∃v,d=[v]) (λ_=>true) (λr=>.int r.sum) aN ⟨_,rfl⟩ ?_ ?_
    ·rintro r h d ⟨v,rfl⟩;refine⟨_,rfl,⟨_,rfl⟩,by simp only[W,hV],λ_=>?_⟩;simp only[W,V,M];exact⟨r,mL r,trivial,rfl⟩
    ·rw[kj];simp only[W,V,M];cases l with
     |nil=>simp at f;lia
     |cons o l=>
      refine⟨o.sum,l.map List.sum,?_,?_⟩
      ·have:=mL ((o::l).map List.sum);rw[hZ] at this;exact this
      ·refine⟨_,rfl,by rw[zu];exact ag _ '!',?_⟩;obtain⟨C,H⟩:=A9 (l.map List.sum) o.sum;generalize cS true o.sum (l.map List.sum)=top at C H;have tm:top<=m:=by
        have:top∈(o::l).map List.sum:=C;obtain⟨r,h,rfl⟩:=de.mp this;exact(a r h).sum
       have tl:∀r∈o::l,r.sum<=top:=λr h=>H r.sum (de.mpr ⟨r,h,rfl⟩)
       refine jT (λi b d s=>∃(j:List (List Int)) (v:Option D),b=aL j/\j.length=i/\(∀r∈j,gF m r)/\d=[v,some (.int top)]/\s=G) ⟨[],none,rfl,rfl,by simp,rfl,rfl⟩ ?_ ?_
       ·rintro i x b d s E ⟨j,v,rfl,p,w,rfl,rfl⟩;obtain⟨r,h,rfl⟩:=t0 E;have y:=fj h;have ht:=tl r y;refine⟨_,rfl,?_⟩;simp only[W,V,M];refine⟨r,mL r,trivial,?_⟩;exact P9 (a r y).len (a r y).pos '!' λr' Y U q3=>⟨j++[r'],_,by simp[aL],by simp[p],yn w ⟨Y,U,by lia⟩,rfl,rfl⟩
       ·rintro I d s ⟨j,v,rfl,p,w,rfl,rfl⟩;rw[zu] at p;exact⟨j,_,rfl,w,by rw[p];exact f,z⟩
   ·exact⟨l,_,rfl,a,f,z⟩
  ·exact⟨l,_,rfl,a,f,z⟩
 rintro q s ⟨l,v,rfl,a,f,e⟩;show WP _ _;simp only[W,V];refine qD (l:=l) rfl '!' λg=>k _ _ (λr h=>a r (Bo h)) ?_ (Ko l) (e.trans (.more e.bag g))
 have:=Ct l;lia
end Dd
namespace K16
end K16
namespace Dd
open L2
section
open Builtin Builtin.Str StrLaws
theorem jr{x y:Str}(h:x.cps.toList=y.cps.toList):x=y:=Str.ext' (Array.toList_inj.mp h)
theorem dJ(x:Str):x.cps.toList.length=x.length:=by simp[Str.length]
theorem AD:StrLaws.At x y x.length i↔i+y.length<=x.length/\(x.cps.toList.drop i).take y.length=y.cps.toList:=by
 unfold StrLaws.At;rw[subAt_eq];exact⟨λh=>⟨h.1,eq_of_beq h.2⟩,λh=>⟨h.1,by rw[h.2];exact qT _⟩⟩
theorem MT{a:Str}(b:a.cps.toList=s0::tl) (h:StrLaws.At x a x.length k):x.cps.toList[k]?=some s0:=by
 have c:=(AD.mp h).2;have:((x.cps.toList.drop k).take a.length)[0]?=some s0:=by rw[c,b];rfl
 rw[Ll,lJ] at this;split at this
 ·exact this
 ·cases this
theorem mI(a p q:Str)(r:List Str):(Str.join a (p::q::r)).cps.toList=p.cps.toList++(a.cps.toList++(Str.join a (q::r)).cps.toList):=by
 show(p++a++Str.join a (q::r)).cps.toList=_;simp only[qR,iC,eu]
theorem Of{x b:Str}(n:b.cps.toList=s0::tl):∀(l:List Str) (a f:Nat) (d:List Nat),l≠[]->(∀t∈l,s0∉t.cps.toList)->x.cps.toList.drop a=(Str.join b l).cps.toList->a<=x.length ->
  ChainG x b x.length a d f->(∀k,f<=k->¬ StrLaws.At x b x.length k)->partsFrom x b.length a d=l
 |[],_,_,_,h,_,_,_,_,_=>absurd rfl h
 |[p],a,f,d,_,hf,hd,ha,hc,hn=>by
  have A:∀k,a<=k->¬ StrLaws.At x b x.length k:=λk G h=>by
   have g:=MT n h;have:(x.cps.toList.drop a)[k-a]?=some s0:=by rw[lJ,show a+(k-a)=k by lia];exact g
   rw[hd] at this;exact hf p '&' (fj this)
  cases d with
  |cons c r=>exact absurd hc.2.1 (A c hc.1)
  |nil=>
   show[strSub x a x.length]=[p]
   congr 1
   refine jr ?_;rw[strSub_toList,lL (by rw[gr,dJ];exact bi _),hd]
   rfl
 |p::q::r,a,f,d,_,hf,hd,ha,hc,hn=>by
  rw[mI] at hd;have m:=dJ p;have e:=dJ b;have v:=dJ x;have dl:=congrArg List.length hd;rw[gr,cq,cq,v,m,e] at dl;have o:x.cps.toList.drop (a+p.length)=b.cps.toList++(Str.join b (q::r)).cps.toList:=by
   rw[←lE,hd,←m,wu]
  have y:x.cps.toList.drop (a+p.length+b.length)=(Str.join b (q::r)).cps.toList:=by
   rw[←lE,o,←e,wu]
  have i:StrLaws.At x b x.length (a+p.length):=AD.mpr ⟨by lia,by rw[o,←e,KY]⟩;cases d with
  |nil=>exact absurd i (hn _ (by have:f=a:=hc;lia))
  |cons c cs=>
   obtain⟨H,u,w,j⟩:=hc;have C:c<=a+p.length:=by
    rcases gU (a+p.length) c with z|z
    ·exact absurd i (w _ '!' z)
    ·exact z
   have E:a+p.length<=c:=by
    rcases gU c (a+p.length) with z|z
    ·exfalso
     have g:=MT n u;have:(x.cps.toList.drop a)[c-a]?=some s0:=by rw[lJ,show a+(c-a)=c by lia];exact g
     rw[hd,f7 (by rw[m];lia)] at this;exact hf p '&' (fj this)
    ·exact z
   obtain rfl:c=a+p.length:=by lia
   show strSub x a (a+p.length)::partsFrom x b.length (a+p.length+b.length) cs=_;rw[Of n (q::r) (a+p.length+b.length) f cs '&' (λt s=>hf t (gZ _ s)) y '!' j hn]
   congr 1
   refine jr ?_;rw[strSub_toList,hd,show a+p.length-a=p.length by lia,←m,KY]
theorem Cq{sep:Str}(c:sep.cps.toList=s0::tl)(k:PySem.Builtin.Str.strKind sep=1) (b:ts≠[])(j:∀t∈ts,s0∉t.cps.toList):Txt.split (Txt.join sep ts) sep=ts:=by
 have g:Txt.join sep ts=Str.join sep ts:=glued_eq_join _ _;rw[g];have i:1<=sep.length:=by rw[←dJ,c];simp
 obtain⟨f,e,n⟩:=occ_tight (Str.join sep ts) sep i;have a:=Of c ts 0 f _ b j rfl (eJ _) e n;unfold Txt.split;split
 ·rename_i d;rw[zE,jt,jt] at d
  match ts,b with
  |[p],_=>rfl
  |p::q::r,_=>
   exfalso
   rcases d with h|h
   ·have:=congrArg List.length (mI sep p q r);rw[cq,cq,dJ,dJ,dJ] at this;lia
   ·rw[k] at h;unfold PySem.Builtin.Str.strKind at h;split at h
    ·lia
    ·split at h<;>lia
 ·split
  ·rename_i l;have m:occurrences (Str.join sep ts) sep 0 (Str.join sep ts).length ((Str.join sep ts).length+1)=[]:=by simpa using l
   rw[m] at a;rw[←a];show _=[strSub _ _ _]
   rw[sub_whole];exact congrArg (λz=>[z]) (congrArg (Str.join sep) a)
  ·rw[partsBetween_eq];exact a
end
noncomputable def tx(i:Int):Str:=(toString i:String)
theorem IL:(List.range 100).all (λn=>decide (eA (tx (n:Int))=some n/\1<=(tx (n:Int)).length/\(tx (n:Int)).length<=2)&&(tx (n:Int)).cps.toList.all λc=>decide (48<=c/\c<58))=true:=by decide +kernel
structure pS (z:Str):Prop where
 few:z.length<=2
 some:1<=z.length
 all:∀c∈z.cps.toList,48<=c/\c<58
theorem gO{i:Int}(a:0<=i)(d:i<100):pS (tx i)/\eA (tx i)=some i.toNat:=by
 obtain⟨n,rfl⟩:=wK a;have h:=dL.mp IL n (gq.mpr '!');rw[eh,jt,dL] at h;exact⟨⟨h.1.2.2,h.1.2.1,λc b=>gX (h.2 c b)⟩,h.1.1⟩
theorem xA:("0123456789" : Str).cps.toList=[48,49,50,51,52,53,54,55,56,57]:=by decide +kernel
theorem qB(h:48<=c/\c<58):(Builtin.Str.occurrences ("0123456789" : Str) ⟨#[c]⟩ 0 ("0123456789" : Str).length 1).isEmpty=false:=by
 have:=K9 ("0123456789" : Str) c
 rw[xA,bH (by simp;lia)] at this
 simpa using this
theorem P8(h:pS z)(q:Q (.str z) au):WP (pb [.str z] au) Q:=by
 refine df rfl ?_;simp only[W,V];have d:(z.cps.all λx=>decide (x<128))=true:=by
  rw[←wA,dL];exact λc a=>bH (by have:=(h.all c a).2;lia)
 have k:hG (aA 0) [some (.str z),some (.str ""),none] au=.ok (signs z) au:=by
  show(if(z.cps.all λx=>decide (x<128))=true then _ else _)=_;rw[if_pos d]
 refine WP.of k ?_;refine kf (λi b s=>s=au/\∃v,b=[some (.str z),some (.str ⟨(z.cps.toList.take i).toArray⟩),v]) ⟨rfl,_,rfl⟩ ?_ ?_
 ·rintro i x b s f ⟨rfl,v,rfl⟩;unfold signs at f;rw[dm,fH] at f;obtain⟨c,a,rfl⟩:=f;have l:=h.all c (fj a);refine⟨_,rfl,?_⟩;unfold Dg;simp only[W,V];have n:eT true (.str ⟨#[c]⟩) (.str ("0123456789" : Str)) s=.ok (.bl false) s:=by
   show ar.ok (D.bl (!(!(Builtin.Str.occurrences ("0123456789" : Str) ⟨#[c]⟩ 0 ("0123456789" : Str).length 1).isEmpty))) s=_
   rw[qB l];rfl
  refine WP.of n ?_;dsimp only[bK];rw[if_neg '"'];simp only[M,W,V];have o:=(du.mp a).1;have p:=dJ z;have g:=h.few;have m:(⟨(z.cps.toList.take i).toArray⟩:Str).length=i:=by rw[←dJ];show(List.take i z.cps.toList).length=i;rw[iY];lia
  have j:i3 (.str ⟨(z.cps.toList.take i).toArray⟩) (.str ⟨#[c]⟩) s=.ok (.str ⟨(z.cps.toList.take (i+1)).toArray⟩) s:=by
   show(if(⟨(z.cps.toList.take i).toArray⟩:Str).length+(⟨#[c]⟩:Str).length<=sizeLine then ar.ok (D.str (⟨(z.cps.toList.take i).toArray⟩++⟨#[c]⟩:Str)) s else .stuck)=_;rw[if_pos (by rw[m];exact ag _ (by show i+1<=_;lia))]
   congr 2
   refine jr ?_;rw[qR,iC,mK a]
  refine⟨_,rfl,WP.of j ?_⟩;simp only[L];exact⟨trivial,_,rfl⟩
 ·rintro b s ⟨rfl,v,rfl⟩;simp only[W,V];have e:(⟨(z.cps.toList.take (signs z).length).toArray⟩:Str)=z:=by
   refine jr ?_;unfold signs;rw[ax,mR]
  rw[e];exact q
noncomputable def cF(z:Str):Prop:=∀c∈z.cps.toList,c<128
theorem pS.asc(h:pS z):cF z:=λc a=>by have:=(h.all c a).2;lia
theorem jI(h:cF x):Sh n (.str x):=Sh.str (by
 show(x.cps.all (· < 0x110000))=true;rw[←wA,dL]
 exact λc a=>bH (by have:=h c a;lia))
theorem Jr(h:WP (f σ au) (λx b=>WP (f' σ b) (λy c=>WP (g x y c) (λz a=>z=.bl true/\WP (f'' σ a) (λw d=>WP (g' y w d) Q))))):WP (dA g g' f f' f'' σ au) Q:=by
 unfold dA;rw[zr];refine h.mono λx b h=>?_
 rw[zr];refine h.mono λy c h=>?_
 rw[zr];refine h.mono λz a h=>?_
 obtain⟨rfl,h⟩:=h;rw[zr];exact h
theorem O9(e:0<=i)(f:i<100)(q:Q (.int i) au):WP (qh [.str (tx i)] au) Q:=by
 obtain⟨a,j⟩:=gO e f;have l:=a.few;have k:=a.some;refine df rfl ?_;simp only[W,V];have d:bT [.str (tx i)] au=.ok (.int ((tx i).length:Int)) au:=by
  show(if(tx i).length<=sizeLine then _ else _)=_;rw[if_pos (ag _ '!')]
 refine Jr ?_;simp only[W,V];refine WP.of d ?_;simp only[W,V];have g:(1:Int)<=((tx i).length:Int):=by lia
 have h:((tx i).length:Int)<=2:=by lia
 rw[bH g,bH h];refine⟨trivial,rfl,trivial,?_⟩;rw[if_neg '"'];refine P8 a ?_;refine WP.of (kh (neg:=true) rfl rfl (jI a.asc)) ?_;dsimp only[bK];rw[if_neg '"'];have b:fX [.str (tx i)] au=.ok (.int i) au:=by
  show(match eA (tx i) with|some n=>ar.ok (D.int (n:Int)) au|none=>.stuck)=_;rw[j];show ar.ok (D.int (i.toNat:Int)) au=_;rw[show((i.toNat:Nat):Int)=i by lia]
 refine WP.of b ?_;have c:dX [.int i] au=.ok (.str (tx i)) au:=by
  show(if _ then _ else _)=_;rw[if_pos ⟨by lia,by lia⟩]
  rfl
 refine WP.of c ?_;refine WP.of (kh (neg:=false) rfl rfl (jI a.asc)) ?_;dsimp only[bK];rw[if_pos '"'];exact WP.of b q
theorem N1:∀a:List Str,fP (a.map .str)=some a
 |[]=>rfl
 |t::a=>by
  show(fP (a.map .str)).map (t::·)=_;rw[N1 a];rfl
theorem qb(h:WP (f σ au) (λx c=>∃a,x=.str a/\WP (g σ c) (λd e=>∃b:List Str,d=[.lst (b.map .str)]/\JoinOk a b=true/\Q (.str (Txt.join a b)) e))):WP (dS f g σ au) Q:=by
 unfold dS;rw[zr];refine h.mono λx c h=>?_
 obtain⟨a,rfl,h⟩:=h;dsimp only;rw[zr];refine h.mono λd e h=>?_
 obtain⟨b,rfl,i,q⟩:=h;dsimp only;rw[N1];dsimp only;rw[if_pos i];exact q
theorem sC(h:WP (f σ au) (λx c=>∃a,x=.str a/\WP (g σ c) (λd e=>∃b:Str,d=[.str b]/\(b.length==0)=false/\a.length<=sizeLine/\(Txt.split a b).length<=sizeLine/\Q (.lst ((Txt.split a b).map .str)) e))):WP (dQ f g σ au) Q:=by
 unfold dQ;rw[zr];refine h.mono λx c h=>?_
 obtain⟨a,rfl,h⟩:=h;dsimp only;rw[zr];refine h.mono λd e h=>?_
 obtain⟨b,rfl,j,i,k,q⟩:=h;dsimp only;rw[if_pos ⟨j,i,k⟩];exact q
structure Nm (r:List Int):Prop where
 len:r.length<=10
 lo:∀x∈r,0<=x
 hi:∀x∈r,x<100
theorem NS(h:Nm r){R:List D->aa->Prop}(q:R ((r.map tx).map .str) au):WP (aX (gN 0) aK (aG dX (aB (aA 0) aC)) (r.map .int) [none] au) R:=by
 refine jp (as:=r) (λa=>∃v,a=[v]) (λ_=>true) (λx=>.str (tx x)) .int ⟨_,rfl⟩ ?_ ?_
 ·rintro x b a ⟨v,rfl⟩;refine⟨_,rfl,⟨_,rfl⟩,by simp only[W,hV],λ_=>?_⟩;simp only[W,V];have:=h.lo x b;have:=h.hi x b;have c:dX [.int x] au=.ok (.str (tx x)) au:=by
   show(if _ then _ else _)=_;rw[if_pos ⟨by lia,by lia⟩]
   rfl
  exact WP.of c ⟨rfl,rfl⟩
 ·rw[kj];rw[hZ] at q;exact q
structure Sg (sep:Str) (c:Nat):Prop where
 is:sep=⟨#[c]⟩
 no:c<48
theorem Sg.len(h:Sg sep c):sep.length=1:=by rw[h.is];rfl
def bJ(a:Str) (r:List Int):Str:=if r=[] then "-" else Txt.join a (r.map tx)
noncomputable def dk(a:List Str):Str:=if a=[] then "0" else Txt.join " + " a
theorem Mm(b:Sg sep c) (h:Nm r):JoinOk sep (r.map tx)=true:=by
 unfold JoinOk;rw[sM];refine wz (B:=2) (λy d=>?_) (by rw[ax,b.len];have:=h.len;lia);obtain⟨i,a,rfl⟩:=de.mp d;exact(gO (h.lo i a) (h.hi i a)).1.few
theorem RE(a:Sg sep c) (h:Nm r)(q:Q (.str (bJ sep r)) au):WP (ql [aN r,.str sep] au) Q:=by
 refine df rfl ?_;simp only[W,V];by_cases e:r=[]
 ·subst e;refine⟨false,rfl,?_⟩;rw[if_neg '"'];exact q
 ·refine⟨true,?_,?_⟩
  ·cases r with
   |nil=>exact absurd rfl e
   |cons x r=>rfl
  rw[if_pos rfl];refine qb ?_;simp only[W,V];refine⟨_,rfl,_,rfl,by rw[ax];exact ag _ (by have:=h.len;lia),NS h ?_⟩;refine⟨r.map tx,rfl,Mm a h,?_⟩;unfold bJ at q;rw[if_neg e] at q;exact q
theorem M6:∀{a:List Str},c∈(Str.join sep a).cps.toList->(∃t∈a,c∈t.cps.toList)\/c∈sep.cps.toList
 |[],h=>by cases(show c∈([]:List Nat) from h)
 |[t],h=>.inl ⟨t,by simp,h⟩
 |p::q::r,h=>by
  rw[mI] at h;rcases cM.mp h with h|h
  ·exact .inl ⟨p,by simp,h⟩
  ·rcases cM.mp h with h|h
   ·exact .inr h
   ·rcases M6 h with⟨t,b,h⟩|h
    ·exact .inl ⟨t,gZ _ b,h⟩
    ·exact .inr h
theorem yd(h:c∈(Txt.join sep a).cps.toList):(∃t∈a,c∈t.cps.toList)\/c∈sep.cps.toList:=by
 rw[show Txt.join sep a=Str.join sep a from sU _ _] at h;exact M6 h
theorem nh(g:cF a)(j:cF b)(f:a≠b):cO neg (.str a) (.str b) au=.ok (.bl neg) au:=by
 obtain⟨p,c,k,i⟩:=jI (n:=64) g;obtain⟨h,_⟩:=Sh.ok c k i;obtain⟨q,d,l,m⟩:=jI (n:=64) j;obtain⟨e,_⟩:=Sh.ok d l m;cases c;cases d;show(if PySem.SeqAt.shaped (.str a)=true/\PySem.SeqAt.shaped (.str b)=true then ar.ok (D.bl (if neg then !(a==b) else(a==b))) au else .stuck)=_;rw[if_pos ⟨h,e⟩,sQ.mpr f];cases neg<;>rfl
structure Pc (t:Str):Prop where
 few:t.length<=40
 no:∀c∈t.cps.toList,c≠32/\c<128
 nt:t≠"0"
theorem Pc.asc(h:Pc t):cF t:=λc a=>(h.no c a).2
theorem Ml(h:∀ t∈a,Pc t)(c:a.length<=1000):JoinOk " + " a=true:=by
 unfold JoinOk;rw[sM];exact wz (B:=40) (λy b=>(h y b).few) (by rw[show(" + " : Str).length=3 from rfl]; lia)
theorem j6:(" + " : Str).cps.toList=[32,43,32]:=by decide +kernel
theorem dc:("0" : Str).cps.toList=[48]:=by decide +kernel
theorem Ec(h:∀ t∈a,Pc t)(c:a≠[]):Txt.join " + " a≠"0":=λe=>by
 match a,c with
 |[p],_=>exact(h p '&').nt e
 |p::q::r,_=>
  have b:(Str.join " + " (p::q::r)).cps.toList=[48]:=by rw[←sU,←dc]; exact congrArg (λz:Str=>z.cps.toList) e
  rw[mI,j6] at b;have:32∈([48]:List Nat):=by rw[←b];simp
  simp at this
theorem AB(h:∀t∈a,Pc t):cF (dk a):=λc hc=>by
 unfold dk at hc;split at hc
 ·rw[dc] at hc;have:=bX.mp hc;lia
 ·rcases yd hc with⟨t,b,hc⟩|hc
  ·exact(h t b).asc c hc
  ·rw[j6] at hc;have:c=32\/c=43\/c=32:=by simpa using hc
   lia
theorem CF(h:∀t∈a,Pc t)(b:a.length<=1000)(q:Q (.str (dk a)) au):WP (o7 [.lst (a.map .str)] au) Q:=by
 refine df rfl ?_;simp only[W,V];unfold dk at q;by_cases e:a=[]
 ·subst e;refine⟨false,rfl,?_⟩;rw[if_neg '"'];exact q
 ·rw[if_neg e] at q;refine⟨true,?_,?_⟩
  ·cases a with
   |nil=>exact absurd rfl e
   |cons x r=>rfl
  rw[if_pos rfl];refine qb ?_;simp only[W,V];exact⟨_,rfl,a,rfl,Ml h b,q⟩
theorem mi:("-" : Str).cps.toList=[45]:=by decide +kernel
theorem Sg.list(h:Sg sep c):sep.cps.toList=[c]:=by rw[h.is]
theorem nP(a:Sg sep c)(p:c≠32) (h:Nm r)(n:r≠[0]):Pc (bJ sep r):=by
 have d:∀t∈r.map tx,t.length<=2:=λt g=>by
  obtain⟨i,b,rfl⟩:=de.mp g;exact(gO (h.lo i b) (h.hi i b)).1.few
 unfold bJ;split
 ·exact⟨by decide +kernel,λc k=>by rw[mi] at k;have:=bX.mp k;lia,by decide +kernel⟩
 ·rename_i e;refine⟨?_,λx hx=>?_,λl=>?_⟩
  ·rw[show Txt.join sep (r.map tx)=Str.join sep (r.map tx) from sU _ _];have q:=StrLaws.join_length_le sep (r.map tx);have o:=StrLaws.sumLen_le (B:=2) (r.map tx) d;rw[ax,a.len] at q;rw[ax] at o;have:=h.len;lia
  ·rcases yd hx with⟨t,g,hx⟩|hx
   ·obtain⟨i,b,rfl⟩:=de.mp g;have:=(gO (h.lo i b) (h.hi i b)).1.all x hx;lia
   ·rw[a.list] at hx;have:x=c:=by simpa using hx
    have:=a.no;lia
  ·match r,e with
   |[i],_=>
    have f:tx i="0":=l
    have m:=(gO (h.lo i '&') (h.hi i '&')).2;rw[f,show eA ("0" : Str)=some 0 by decide +kernel] at m
    have:=h.lo i '&';have:i.toNat=0:=(eg m).symm;exact n (by rw[show i=0 by lia])
   |i::j::r,_=>
    have f:(Str.join sep (tx i::tx j::r.map tx)).cps.toList=[48]:=by rw[←sU,←dc];exact congrArg (λz:Str=>z.cps.toList) l
    rw[mI,a.list] at f;have:c∈([48]:List Nat):=by rw[←f];simp
    have:=a.no;simp at *
    lia
theorem sI(a:Sg sep c)(m:c≠32) (h:Nm r)(k:r≠[0])(q:Q (aN r) au):WP (lA [.str (bJ sep r),.str sep] au) Q:=by
 have C:=nP a m h k;have ad:cF ("-" : Str):=λc b=>by rw[mi] at b; have:=bX.mp b; lia
 refine df rfl ?_;simp only[W,V];by_cases e:r=[]
 ·subst e;refine WP.of (kh (neg:=false) (d:=.str ("-" : Str)) rfl rfl (jI ad)) ?_
  dsimp only[bK];rw[if_pos '"'];exact⟨ag _ '&',q⟩
 ·have g:=C.asc;unfold bJ at g ⊢;rw[if_neg e] at g ⊢;have u:Txt.join sep (r.map tx)≠"-":=λz=>by
   cases r with
   |nil=>exact e rfl
   |cons i r=>
    have p:=(gO (h.lo i '&') (h.hi i '&')).1;have f:(Str.join sep (tx i::r.map tx)).cps.toList=[45]:=by rw[←sU,←mi];exact congrArg (λz:Str=>z.cps.toList) z
    have A:∃l,(Str.join sep (tx i::r.map tx)).cps.toList=(tx i).cps.toList++l:=by
     cases r with
     |nil=>exact⟨[],(fE _).symm⟩
     |cons j r=>exact⟨_,mI sep (tx i) (tx j) (r.map tx)⟩
    obtain⟨l,G⟩:=A;rw[G] at f;have a:=p.some;rw[←dJ] at a;cases hq:(tx i).cps.toList with
    |nil=>rw[hq] at a;simp at a
    |cons d ds=>
     rw[hq] at f;have y:d=45:=by injection f
     have:=p.all d (by rw[hq];simp);lia
  refine WP.of (nh g ad u) ?_;dsimp only[bK];rw[if_neg '"'];have E:=Cq (sep:=sep) (s0:=c) (tl:=[]) a.list (by rw[a.is];have:=a.no;unfold PySem.Builtin.Str.strKind;rw[if_pos (by simp;lia)]) (ts:=r.map tx) (by simpa using e) λt w b=>by
   obtain⟨i,o,rfl⟩:=de.mp w;have:=(gO (h.lo i o) (h.hi i o)).1.all _ b;have:=a.no;lia
  refine sC ?_;simp only[W,V];refine⟨_,rfl,_,rfl,by rw[a.len];rfl,joinOk_length (Mm a h),?_⟩;rw[E];refine⟨by rw[ax];exact ag _ (by have:=h.len;lia),_,rfl,by rw[ax,ax];exact ag _ (by have:=h.len;lia),?_⟩;rw[hZ];refine jp (as:=r) (λn=>∃v,n=[v]) (λ_=>true) (λx=>.int x) (λx=>.str (tx x)) ⟨_,rfl⟩ ?_ ?_
  ·rintro x s n ⟨v,rfl⟩;refine⟨_,rfl,⟨_,rfl⟩,by simp only[W,hV],λ_=>?_⟩;simp only[W,V];exact O9 (h.lo x s) (h.hi x s) ⟨rfl,rfl⟩
  ·rw[kj];exact q
def lx(k:Nat) (e:Int):List Nat:=if e=0 then[] else(97+k)::(if e=1 then[] else(tx e).cps.toList)
def bf(k:Nat):List Int->List Nat
 |[]=>[]
 |e::r=>lx k e++bf (k+1) r
def bz(r:List Int):Str:=if bf 0 r=[] then "1" else⟨(bf 0 r).toArray⟩
theorem Kn:(List.range 1001).all (λn=>decide (1<=(tx (n:Int)).length/\(tx (n:Int)).length<=4/\(n<1000->(tx (n:Int)).length<=3))&&(tx (n:Int)).cps.toList.all λc=>decide (48<=c/\c<58))=true:=by decide +kernel
theorem PM(a:0<=i)(d:i<1000):1<=(tx i).length/\(tx i).length<=3/\∀c∈(tx i).cps.toList,48<=c/\c<58:=by
 obtain⟨n,rfl⟩:=wK a;have h:=dL.mp Kn n (gq.mpr '!');rw[eh,jt,dL] at h;exact⟨h.1.1,h.1.2.2 '!',λc b=>gX (h.2 c b)⟩
theorem xq:∀ a:List Str,(Txt.join "" a).cps.toList=a.flatMap λt=>t.cps.toList:=λa=>by
 rw[show Txt.join "" a=Str.join "" a from sU _ _]
 induction a with
 |nil=>rfl
 |cons p a ih=>
  cases a with
  |nil=>simp[Str.join]
  |cons q r=>
   rw[mI,ih]
   rfl
structure Ex (b:Int) (r:List Int):Prop where
 len:r.length<=10
 lo:∀x∈r,0<=x
 hi:∀x∈r,x<b
theorem uR(a:0<=e)(b:e<1000):(lx k e).length<=4:=by
 unfold lx;split
 ·simp
 ·split
  ·simp
  ·have:=(PM a b).2.1;rw[←dJ] at this;simp only[d5];lia
theorem xW:∀{r:List Int}{k:Nat},(∀x∈r,0<=x)->(∀x∈r,x<1000)->(bf k r).length<=4*r.length
 |[],_,_,_=>by simp[bf]
 |e::r,k,lo,hi=>by
  have a:=uR (k:=k) (lo e '&') (hi e '&');have b:=xW (r:=r) (k:=k+1) (λx c=>lo x (by simp[c])) λx c=>hi x (by simp[c])
  simp only[bf,cq,d5];lia
theorem Fc(a:0<=e)(b:e<1000) (h:c∈lx k e):c=97+k\/(48<=c/\c<58):=by
 unfold lx at h;split at h
 ·cases h
 ·split at h
  ·exact .inl (by simpa using h)
  ·rcases ce.mp h with z|z
   ·exact .inl z
   ·exact .inr ((PM a b).2.2 c z)
theorem AK:∀{r:List Int}{k c:Nat},(∀x∈r,0<=x)->(∀x∈r,x<1000)->c∈bf k r->(97+k<=c/\c<97+k+r.length)\/(48<=c/\c<58)
 |[],_,_,_,_,h=>by cases(show _∈([]:List Nat) from h)
 |e::r,k,c,lo,hi,h=>by
  rcases cM.mp (show c∈lx k e++bf (k+1) r from h) with z|z
  ·rcases Fc (lo e '&') (hi e '&') z with z|z
   ·exact .inl (by simp only[d5];lia)
   ·exact .inr z
  ·rcases AK (λx a=>lo x (by simp[a])) (λx a=>hi x (by simp[a])) z with z|z
   ·exact .inl (by simp only[d5];lia)
   ·exact .inr z
theorem lW:("1" : Str).cps.toList=[49]:=by decide +kernel
theorem tT:∀{r:List Int}{k:Nat},bf k r=[]\/∃c l,bf k r=c::l/\97+k<=c
 |[],_=>.inl rfl
 |e::r,k=>by
  show lx k e++bf (k+1) r=[]\/∃c l,lx k e++bf (k+1) r=c::l/\_
  unfold lx;split
  ·rcases tT (r:=r) (k:=k+1) with z|⟨c,l,z,h⟩
   ·exact .inl (by rw[z];rfl)
   ·exact .inr ⟨c,l,by rw[z];rfl,by lia⟩
  ·exact .inr ⟨97+k,_,rfl,bi _⟩
theorem AQ(h:Ex 1000 r):Pc (bz r):=by
 unfold bz;split
 ·exact⟨by decide +kernel,λc a=>by rw[lW] at a;have:=bX.mp a;lia,by decide +kernel⟩
 ·rename_i b;have i:=xW (k:=0) h.lo h.hi;have:=h.len;refine⟨by show(bf 0 r).toArray.size<=40;simp;lia,λc a=>?_,λe=>?_⟩
  ·rcases AK h.lo h.hi (show c∈bf 0 r from a) with z|z<;>lia
  ·have d:bf 0 r=[48]:=by rw[←dc];exact congrArg (λz:Str=>z.cps.toList) e
   rcases tT (r:=r) (k:=0) with z|⟨c,l,z,a⟩
   ·exact b z
   ·rw[d] at z;injection z with g f
    lia
theorem SX:("abcdefghij" : Str).cps.toList=List.range' 97 10:=by decide +kernel
theorem Eb{k:Nat}(h:k<10):cu (.str "abcdefghij") (.int (k:Int)) au=.ok (.str ⟨#[97 + k]⟩) au:=by
 have:k=0\/k=1\/k=2\/k=3\/k=4\/k=5\/k=6\/k=7\/k=8\/k=9:=by lia
 rcases this with rfl|rfl|rfl|rfl|rfl|rfl|rfl|rfl|rfl|rfl<;>kernel_rfl
theorem uv(a:0<=i)(b:i<1000):dX [.int i] au=.ok (.str (tx i)) au:=by
 show(if _ then _ else _)=_;rw[if_pos ⟨by lia,by lia⟩]
 rfl
theorem Rv(a:0<=e)(d:e<1000)(q:Q (.str ⟨(lx k e).toArray⟩) au):WP (yV [.str ⟨#[97+k]⟩,.int e] au) Q:=by
 unfold lx at q;refine df rfl ?_;simp only[W,V];by_cases c:e=0
 ·rw[if_pos c] at q ⊢;exact q
 ·rw[if_neg c] at q ⊢;by_cases c1:e=1
  ·rw[if_pos c1] at q ⊢;exact q
  ·rw[if_neg c1] at q ⊢;have b:Av (.str ⟨#[97+k]⟩) (.int e) au=.ok (.str ⟨((97+k)::(tx e).cps.toList).toArray⟩) au:=by
    show(if(⟨#[97+k]⟩:Str).length<=1000/\0<=e/\e<=1000 then _ else _)=_;rw[if_pos ⟨by show 1<=1000;lia,a,by lia⟩]
    congr 2
    refine jr ?_;rw[qR,qR,iC,iC]
    rfl
   exact WP.of b q
noncomputable def lV(k:Nat):List Int->List (Nat×Int)
 |[]=>[]
 |e::r=>(k,e)::lV (k+1) r
theorem NO:∀{r:List Int}{k m:Nat},r.length<=m->bx ((List.range' (97+k) m).map λc=>D.str ⟨#[c]⟩) (r.map .int)=(lV k r).map λp=>.tup [.str ⟨#[97+p.1]⟩,.int p.2]
 |[],k,m,_=>by cases h:(List.range' (97+k) m).map λc=>D.str ⟨#[c]⟩<;>rfl
 |e::r,k,0,h=>by simp at h
 |e::r,k,m+1,h=>by
  rw[List.range'_succ];show D.tup [.str ⟨#[97+k]⟩,.int e]::bx ((List.range' (97+k+1) m).map _) (r.map .int)=_;rw[show 97+k+1=97+(k+1) by lia,NO (r:=r) (k:=k+1) (by simpa using h)]
  rfl
theorem Ni:∀{r:List Int}{k:Nat},((lV k r).flatMap λp=>lx p.1 p.2)=bf k r
 |[],_=>rfl
 |e::r,k=>by
  show lx k e++((lV (k+1) r).flatMap λp=>lx p.1 p.2)=lx k e++bf (k+1) r;rw[Ni]
theorem AS:∀{r:List Int}{k:Nat}{p:Nat×Int},p∈lV k r->p.2∈r
 |[],_,_,h=>by cases h
 |e::r,k,p,h=>by
  rcases ce.mp h with rfl|h
  ·simp
  ·exact gZ _ (AS h)
theorem AR:∀{r:List Int}{k:Nat},(lV k r).length=r.length
 |[],_=>rfl
 |e::r,k=>by simp[lV,AR (r:=r) (k:=k+1)]
theorem xo(h:∀ t∈a,t.length<=4)(b:a.length<=10):JoinOk "" a=true:=by
 unfold JoinOk;rw[sM];exact wz (B:=4) h (by rw[show("" : Str).length=0 from rfl]; lia)
theorem HA{z:Str}:((z.length:Int) != 0)=decide (z.cps.toList≠[]):=by
 rw[←dJ];cases z.cps.toList with
 |nil=>rfl
 |cons c l=>simp;lia
theorem RF(h:Ex 1000 r)(q:Q (.str (bz r)) au):WP (yY [aN r] au) Q:=by
 have b:(("abcdefghij" : Str).cps.all λx=>decide (x<128))=true:=by decide +kernel
 refine df rfl ?_;simp only[W,V];refine qb ?_;simp only[W,V];refine⟨_,rfl,?_⟩;have f:me (aB (eC (.str "abcdefghij")) (aB (aA 0) aC)) [some (aN r),none] au=.ok ((lV 0 r).map λp=>.tup [.str ⟨#[97 + p.1]⟩,.int p.2]) au:=by
  show(if(("abcdefghij" : Str).cps.all λx=>decide (x<128))=true then ar.ok (bx (signs "abcdefghij") (r.map .int)) au else .stuck)=_
  rw[if_pos b];unfold signs;rw[SX,←NO (k:=0) h.len]
 refine WP.of f ?_;refine⟨by rw[ax,AR];exact ag _ (by have:=h.len;lia),?_⟩;refine jp (as:=lV 0 r) (λd=>∃v w,d=[v,w]) (λ_=>true) (λp=>.str ⟨(lx p.1 p.2).toArray⟩) (λp=>.tup [.str ⟨#[97+p.1]⟩,.int p.2]) ⟨_,_,rfl⟩ ?_ ?_
 ·rintro p c d ⟨v,w,rfl⟩;have a:=AS c;refine⟨_,rfl,⟨_,_,rfl⟩,by simp only[W,hV],λ_=>?_⟩;simp only[W,V];exact Rv (h.lo _ a) (h.hi _ a) ⟨rfl,rfl⟩
 ·rw[kj];have i:Txt.join "" ((lV 0 r).map λp=>(⟨(lx p.1 p.2).toArray⟩:Str))=⟨(bf 0 r).toArray⟩:=by
   refine jr ?_;rw[xq,List.flatMap_map];exact Ni
  refine⟨(lV 0 r).map λp=>⟨(lx p.1 p.2).toArray⟩,by rw[hZ];rfl,xo (λt g=>?_) (by rw[ax,AR];exact h.len),?_⟩
  ·obtain⟨p,c,rfl⟩:=de.mp g;have a:=AS c;have:=uR (k:=p.1) (h.lo _ a) (h.hi _ a);show(lx p.1 p.2).toArray.size<=4
   simpa using this
  ·rw[i];unfold bz at q;have j:gy (aA 1) [some (aN r),some (D.str {cps:=(bf 0 r).toArray})] au=.ok (decide (bf 0 r≠[])) au:=by
    show(if(⟨(bf 0 r).toArray⟩:Str).length<=sizeLine then ar.ok (((⟨(bf 0 r).toArray⟩:Str).length:Int) != 0) au else .stuck)=_;have l:=xW (k:=0) h.lo h.hi;have:=h.len;rw[if_pos (ag _ (by show(bf 0 r).toArray.size<=_;simp;lia)),HA]
   refine WP.of j ?_;by_cases e:bf 0 r=[]
   ·rw[if_pos e] at q;rw[bM (λz=>z e),if_neg '"'];exact q
   ·rw[if_neg e] at q;rw[bH e,if_pos rfl];exact q
theorem vJ(h:¬ (48<=c/\c<58)):(Builtin.Str.occurrences ("0123456789" : Str) ⟨#[c]⟩ 0 ("0123456789" : Str).length 1).isEmpty=true:=by
 have:=K9 ("0123456789" : Str) c
 rw[xA,bM (λm=>h ((by decide:∀x∈[48,49,50,51,52,53,54,55,56,57],48<=x/\x<58) c m))] at this
 simpa using this
structure Fr (E R:List Nat):Prop where
 few:E.length+R.length<=995
 fig:∀c∈E,48<=c/\c<58
 asc:∀c∈R,c<128
 non:∀c l,R=c::l->¬ (48<=c/\c<58)
theorem Os{R:List Nat}(h:Fr E R)(q:Q (.str ⟨E.toArray⟩) au):∀z:Str,z.cps.toList=E++R->WP (pb [.str z] au) Q:=λz m=>by
 refine df rfl ?_;simp only[W,V];have g:(z.cps.all λx=>decide (x<128))=true:=by
  rw[←wA,dL,m];intro c a;rcases cM.mp a with y|y
  ·exact bH (by have:=(h.fig c y).2;lia)
  ·exact bH (h.asc c y)
 have o:hG (aA 0) [some (.str z),some (.str ""),none] au=.ok (signs z) au:=by
  show(if(z.cps.all λx=>decide (x<128))=true then _ else _)=_;rw[if_pos g]
 refine WP.of o ?_;have b:∀v,Q (.str ⟨E.toArray⟩) au->iG (ao (aA 1)) (kB Q) (.nx [some (.str z),some (.str ⟨E.toArray⟩),v]) au:=λv q=>by
  simp only[W,V];exact q
 have u:=h.few;refine kf (λi f s=>s=au/\i<=E.length/\∃v,f=[some (.str z),some (.str ⟨(E.take i).toArray⟩),v]) ⟨rfl,eJ _,_,rfl⟩ ?_ ?_
 ·rintro i x f s k ⟨rfl,r,v,rfl⟩;unfold signs at k;rw[dm,fH,m] at k;obtain⟨c,a,rfl⟩:=k;refine⟨_,rfl,?_⟩;unfold Dg;simp only[W,V];rcases gU i E.length with lt|ge
  ·rw[f7 lt] at a;have p:=h.fig c (fj a);have j:eT true (.str ⟨#[c]⟩) (.str ("0123456789" : Str)) s=.ok (.bl false) s:=by
    show ar.ok (D.bl (!(!(Builtin.Str.occurrences ("0123456789" : Str) ⟨#[c]⟩ 0 ("0123456789" : Str).length 1).isEmpty))) s=_
    rw[qB p];rfl
   refine WP.of j ?_;dsimp only[bK];rw[if_neg '"'];simp only[M,W,V];have n:i3 (.str ⟨(E.take i).toArray⟩) (.str ⟨#[c]⟩) s=.ok (.str ⟨(E.take (i+1)).toArray⟩) s:=by
    show(if(⟨(E.take i).toArray⟩:Str).length+(⟨#[c]⟩:Str).length<=sizeLine then ar.ok (D.str (⟨(E.take i).toArray⟩++⟨#[c]⟩:Str)) s else .stuck)=_;rw[if_pos (ag _ (by show(E.take i).toArray.size+1<=_;simp;lia))]
    congr 2
    refine jr ?_;rw[qR,iC,mK a]
   refine⟨_,rfl,WP.of n ?_⟩;simp only[L];exact⟨trivial,lt,_,rfl⟩
  ·obtain rfl:i=E.length:=by lia
   rw[iE (bi _),kQ] at a;have t:¬ (48<=c/\c<58):=by
    cases R with
    |nil=>cases a
    |cons d l=>cases a;exact h.non _ _ rfl
   have j:eT true (.str ⟨#[c]⟩) (.str ("0123456789" : Str)) s=.ok (.bl true) s:=by
    show ar.ok (D.bl (!(!(Builtin.Str.occurrences ("0123456789" : Str) ⟨#[c]⟩ 0 ("0123456789" : Str).length 1).isEmpty))) s=_
    rw[vJ t];rfl
   refine WP.of j ?_;dsimp only[bK];rw[if_pos rfl];simp only[L];rw[mR];exact b _ q
 ·rintro f s ⟨rfl,r,v,rfl⟩;have e:(signs z).length=E.length+R.length:=by unfold signs;rw[ax,m,cq]
  have:E.take (signs z).length=E:=lL '!';rw[this];exact b _ q
theorem Cp{z:Str}(h:i<=z.cps.toList.length):StrLaws.sliceText z (some (i:Int)) none=⟨(z.cps.toList.drop i).toArray⟩:=by
 rw[StrLaws.sliceText_from ⟨by lia,by lia⟩];refine jr ?_;show(z.cps.toList.drop ((i:Int)).toNat).take _=_;rw[kT];exact lL (by rw[gr];lia)
theorem yr{z:Str}{i:Nat}{lo:DS->aa->ar (Option Int)}(b:f σ au=.ok (.str z) au)(a:lo σ au=.ok (some (i:Int)) au)(h:i<=z.cps.toList.length)(c:z.length<=1000):cP f lo bq σ au=.ok (.str ⟨(z.cps.toList.drop i).toArray⟩) au:=by
 unfold cP;rw[b];show((lo σ au).bind _)=_;rw[a];show(if z.length<=sizeLine/\(StrLaws.sliceText z (some (i:Int)) none).length<=sizeLine then ar.ok (D.str (StrLaws.sliceText z (some (i:Int)) none)) au else .stuck)=_
 rw[Cp h,if_pos ⟨ag _ '!',ag _ (by
  show(z.cps.toList.drop i).toArray.size<=_;rw[cC,gr,dJ]
  lia)⟩]
theorem Ol:Txt.startswith z ⟨#[c]⟩=decide (z.cps.toList.head?=some c):=by
 have h:=StrLaws.subAt_one z c 0;show(decide (0+(⟨#[c]⟩:Str).length<=z.length)&&Builtin.Str.subAt z ⟨#[c]⟩ 0)=_;rw[kR,eh,jt,jt,List.head?_eq_getElem?];exact h
theorem RL(g:1<=e)(b:e<100)(q:Q (.int e) au):WP (ue [.str ⟨(if e=1 then[] else(tx e).cps.toList).toArray⟩] au) Q:=by
 refine df rfl ?_;simp only[W,V];by_cases c:e=1
 ·rw[if_pos c];have a:gy (aA 0) (some (.str ⟨([]:List Nat).toArray⟩)::List.replicate (1-1) none) au=.ok false au:=rfl;refine WP.of a ?_;rw[if_neg '"'];rw[c] at q;exact q
 ·rw[if_neg c];have d:=(gO '!' b).1;have f:(⟨(tx e).cps.toList.toArray⟩:Str)=tx e:=jr rfl;rw[f];have a:gy (aA 0) (some (.str (tx e))::List.replicate (1-1) none) au=.ok true au:=by
   show(if(tx e).length<=sizeLine then ar.ok (((tx e).length:Int) != 0) au else .stuck)=_;have:=d.some;have:=d.few;rw[if_pos (ag _ '!'),show(((tx e).length:Int) != 0)=true by simp;lia]
  refine WP.of a ?_;rw[if_pos rfl];exact O9 '!' b q
theorem GO(lo:∀x∈r,0<=x)(a:∀x∈r,x<1000)(h:k+r.length<=10):∀c∈bf k r,c<128:=λc b=>by
 rcases AK lo a b with z|z<;>lia
theorem vi{n:Nat}(h:n<=10):StrLaws.sliceText ("abcdefghij" : Str) none (some (n:Int))=⟨(List.range' 97 n).toArray⟩:=by
 have:n=0\/n=1\/n=2\/n=3\/n=4\/n=5\/n=6\/n=7\/n=8\/n=9\/n=10:=by lia
 rcases this with rfl|rfl|rfl|rfl|rfl|rfl|rfl|rfl|rfl|rfl|rfl<;>kernel_rfl
theorem Ob{n:Nat}(h:n<=10):hG (cP (eC (.str "abcdefghij")) bq (ay (aA 0))) (some (.int (n:Int))::σ) au=.ok ((List.range' 97 n).map λc=>.str ⟨#[c]⟩) au:=by
 have e:cP (eC (.str "abcdefghij")) bq (ay (aA 0)) (some (.int (n:Int))::σ) au=.ok (.str ⟨(List.range' 97 n).toArray⟩) au:=by
  show(if("abcdefghij" : Str).length<=sizeLine/\(StrLaws.sliceText ("abcdefghij" : Str) none (some (n:Int))).length<=sizeLine then ar.ok (D.str (StrLaws.sliceText ("abcdefghij" : Str) none (some (n:Int)))) au else .stuck)=_
  rw[vi h,if_pos ⟨ag _ '"',ag _ (by
   show(List.range' 97 n).toArray.size<=_;rw[cC,sO]
   lia)⟩]
 unfold hG;rw[e];show(if((List.range' 97 n).toArray.all λx=>decide (x<128))=true then ar.ok (signs ⟨(List.range' 97 n).toArray⟩) au else .stuck)=_;rw[if_pos]
 ·rfl
 ·rw[←wA,dL];intro c a;have:=List.mem_range'_1.mp a;exact bH '!'
theorem M8:∀{r:List Int}{k:Nat},bf k r=[]->r=List.replicate r.length 0
 |[],_,_=>rfl
 |e::r,k,h=>by
  obtain⟨a,b⟩:=List.append_eq_nil_iff.mp (show lx k e++bf (k+1) r=[] from h);unfold lx at a;split at a
  ·rename_i c;rw[d5,kw,←M8 b,c]
  ·cases a
theorem IG{r:List Int}(h:i<r.length):bf k (r.drop i)=lx k r[i]++bf (k+1) (r.drop (i+1)):=by
 rw[sV h]
 rfl
theorem fm(h:au[m]?=some (.lst xs)):aY [.ref m] au=.ok (.tup xs) au:=by
 unfold aY dY;simp[h]
theorem ir{n:Nat}(h:n<=1000):eL (.tup [.int 0]) (.int (n:Int)) au=.ok (aN (List.replicate n 0)) au:=by
 unfold eL;dsimp only;rw[if_pos ⟨by simp,by lia,by lia,by simp;lia⟩];unfold cI aN
 congr 2
 rw[kT];clear h
 induction n with
 |zero=>rfl
 |succ k ih=>rw[kw,qV,ih,kw];rfl
theorem C2{r:List Int}(h:Ex 100 r)(k:∀g,Q (aN r) (au++g)):WP (qj [.int (r.length:Int),.str (bz r)] au) Q:=by
 have hl:=h.len;have m:∀x∈r,x<1000:=λx a=>by have:=h.hi x a;lia
 have R:cF ("1" : Str):=λc f=>by rw[lW] at f; have:=bX.mp f; lia
 have ae:cF ("" : Str):=λc f=>by cases f
 have T:=AQ (r:=r) ⟨h.len,h.lo,m⟩;generalize hz:bz r=z at T ⊢;refine df rfl ?_;simp only[W,V];by_cases e:bf 0 r=[]
 ·have o:z="1":=by rw[←hz]; unfold bz; rw[if_pos e]
  subst o;refine WP.of (kh (neg:=false) rfl rfl (jI R)) ?_;dsimp only[bK];rw[if_pos '"'];refine⟨ag _ '&',WP.of (ir '!') ?_⟩;rw[←M8 e];have:=k [];rw[fE] at this;exact this
 ·have o:z=⟨(bf 0 r).toArray⟩:=by rw[←hz];unfold bz;rw[if_neg e]
  have ne:z≠"1":=λy=>by
   rw[o] at y;have J:bf 0 r=[49]:=by rw[←lW];exact congrArg (λz:Str=>z.cps.toList) y
   rcases tT (r:=r) (k:=0) with w|⟨c,l,w,f⟩
   ·exact e w
   ·rw[J] at w;injection w with w1 w2
    lia
  refine WP.of (nh T.asc R ne) ?_;dsimp only[bK];rw[if_neg '"'];refine⟨ag _ '&',WP.of (Ob '!') ?_⟩;subst o;refine kf (λi C s=>i<=r.length/\(∃v u p,C=[some (.int (r.length:Int)),some (.str ⟨(bf i (r.drop i)).toArray⟩),some (.ref au.length),v,u,p])/\s=au++[.lst ((r.take i).map .int)]) ⟨eJ _,⟨_,_,_,rfl⟩,rfl⟩ ?_ ?_
  ·rintro i x C s a ⟨hi,⟨v,u,p,rfl⟩,rfl⟩;rw[dm,fH] at a;obtain⟨c,f,rfl⟩:=a;obtain⟨lt,rfl⟩:i<r.length/\c=97+i:=by
    obtain⟨X,h2⟩:=du.mp f;rw[sO] at X;rw[List.getElem_range'] at h2;exact⟨X,by lia⟩
   have g:r[i]?=some r[i]:=bQ lt;have U:=h8 lt;have e0:=h.lo _ U;have e1:=h.hi _ U;have ld:=IG (k:=i) lt;have dl:(r.drop i).length<=10:=by rw[gr];lia
   have H:∀x∈r.drop i,0<=x:=λx a=>h.lo x (lK a)
   have G:∀x∈r.drop i,x<1000:=λx a=>m x (lK a)
   have ll:=xW (k:=i) H G;have R1:∀c∈bf (i+1) (r.drop (i+1)),c<128:=GO (λx a=>h.lo x (lK a)) (λx a=>m x (lK a)) (by rw[gr];lia)
   have R2:∀c l,bf (i+1) (r.drop (i+1))=c::l->97+(i+1)<=c:=λc l b=>by
    rcases tT (r:=r.drop (i+1)) (k:=i+1) with w|⟨c',l',w,t⟩
    ·rw[w] at b;cases b
    ·rw[w] at b;cases b;exact t
   have j:(au++[O.lst ((r.take i).map D.int)])[au.length]?=some (.lst ((r.take i).map .int)):=by simp
   have S:((r.take i).map D.int).length<sizeLine:=by rw[ax,iY,hY];lia
   have n:List.set (au++[O.lst ((r.take i).map D.int)]) au.length (.lst ((r.take i).map D.int++[.int r[i]]))=au++[O.lst ((r.take (i+1)).map .int)]:=by
    rw[mK g,gW];simp
   refine⟨_,rfl,?_⟩;unfold C9;simp only[W,V];have es:gk (aA 1) (aB (aA 3) aC) [some (.int (r.length:Int)),some (.str ⟨(bf i (r.drop i)).toArray⟩),some (.ref au.length),some (.str ⟨#[97+i]⟩),some (.int 0),p] (au++[O.lst ((r.take i).map D.int)])=.ok (.bl (decide ((bf i (r.drop i)).head?=some (97+i)))) (au++[O.lst ((r.take i).map D.int)]):=by
    show ar.ok (D.bl (Txt.startswith ⟨(bf i (r.drop i)).toArray⟩ ⟨#[97+i]⟩)) _=_;rw[Ol]
   refine WP.of es ⟨_,rfl,?_⟩;by_cases c:r[i]=0
   ·have I:lx i r[i]=[]:=by unfold lx;rw[if_pos c]
    rw[I,K0] at ld
    rw[bM (λb=>by
     rw[ld] at b;cases hq2:bf (i+1) (r.drop (i+1)) with
     |nil=>rw[hq2] at b;cases b
     |cons c l=>
      rw[hq2] at b;have:=R2 c l hq2;have:c=97+i:=eg b
      lia),if_neg '"']
    simp only[W,V,M];refine⟨_,_,rfl,j,_,_,rfl,j,S,?_⟩;simp only[L];refine⟨lt,⟨_,_,_,by rw[ld]⟩,?_⟩;rw[←n,c]
   ·have A:lx i r[i]=(97+i)::(if r[i]=1 then[] else(tx r[i]).cps.toList):=by unfold lx;rw[if_neg c]
    rw[A,List.cons_append] at ld;have fg:=(gO e0 e1).1;have q:Fr (if r[i]=1 then[] else(tx r[i]).cps.toList) (bf (i+1) (r.drop (i+1))):=by
     have l2:=congrArg List.length ld;rw[d5,cq] at l2;refine⟨by lia,λc f=>?_,R1,λc l b=>by have:=R2 c l b;lia⟩;split at f
     ·cases f
     ·exact fg.all c f
    generalize hE:(if r[i]=1 then[] else(tx r[i]).cps.toList)=E at ld q;rw[bH (by rw[ld];rfl),if_pos rfl];have P:(⟨(bf i (r.drop i)).toArray⟩:Str).length<=1000:=by show(bf i (r.drop i)).toArray.size<=_;rw[cC];lia
    have Y:(bf i (r.drop i)).drop 1=E++bf (i+1) (r.drop (i+1)):=by rw[ld];rfl
    have d2:(bf i (r.drop i)).drop (1+E.length)=bf (i+1) (r.drop (i+1)):=by rw[←lE,Y,wu]
    have ln:=congrArg List.length ld;rw[d5,cq] at ln;refine WP.of (yr (z:=⟨(bf i (r.drop i)).toArray⟩) (i:=1) rfl rfl (by show 1<=(bf i (r.drop i)).length;lia) P) ?_;refine Os q ?_ _ (show(bf i (r.drop i)).drop 1=_ from Y);have el:bT [.str ⟨E.toArray⟩] (au++[O.lst ((r.take i).map D.int)])=.ok (.int (E.length:Int)) (au++[O.lst ((r.take i).map D.int)]):=by
     show(if(⟨E.toArray⟩:Str).length<=sizeLine then ar.ok (D.int ((⟨E.toArray⟩:Str).length:Int)) _ else .stuck)=_;have J:(⟨E.toArray⟩:Str).length=E.length:=by show E.toArray.size=_;simp
     rw[J,if_pos (ag _ (by have:=q.few;lia))]
    have ep:ay (aU aO (eC (D.int 1)) (aG bT (aB (aA 5) aC))) [some (.int (r.length:Int)),some (.str ⟨(bf i (r.drop i)).toArray⟩),some (.ref au.length),some (.str ⟨#[97+i]⟩),some (.int 0),some (.str ⟨E.toArray⟩)] (au++[O.lst ((r.take i).map D.int)])=.ok (some ((1+E.length:Nat):Int)) (au++[O.lst ((r.take i).map D.int)]):=by
     show ar.bind ((ar.bind (bT [.str ⟨E.toArray⟩] (au++[O.lst ((r.take i).map D.int)])) λy s=>aO (.int 1) y s)) _=_;rw[el];show ar.ok (some (1+(E.length:Int))) _=_;rw[Int.natCast_add]
     rfl
    refine WP.of (yr (z:=⟨(bf i (r.drop i)).toArray⟩) (i:=1+E.length) rfl ep (by show 1+E.length<=(bf i (r.drop i)).length;lia) P) ?_;rw[show(⟨(bf i (r.drop i)).toArray⟩:Str).cps.toList.drop (1+E.length)=bf (i+1) (r.drop (i+1)) from d2];rw[←hE];refine RL '!' e1 ?_;simp only[W,V,M];refine⟨_,_,rfl,j,_,_,rfl,j,S,?_⟩;simp only[L];exact⟨lt,⟨_,_,_,rfl⟩,n⟩
  ·rintro C s ⟨hi,⟨v,u,p,rfl⟩,rfl⟩;have en:((List.range' 97 r.length).map λc=>D.str ⟨#[c]⟩).length=r.length:=by rw[ax,sO]
   rw[en,K4,mR];simp only[W,V];refine WP.of (kh (neg:=false) (d:=.str ("" : Str)) rfl rfl (jI ae)) ?_
   dsimp only[bK];rw[if_pos '"'];refine WP.of (fm (xs:=r.map .int) '&') ?_;exact k _
theorem Oh(b:Sg sep c) (h:∀r∈l,Nm r/\r≠[0]){R:List D->aa->Prop}(q:R ((l.map (bJ sep)).map .str) au):WP (aX (gN 0) aK (aG ql (aB (aA 0) (aB (eC (.str sep)) aC))) (aL l) [none] au) R:=by
 refine jp (as:=l) (λa=>∃v,a=[v]) (λ_=>true) (λr=>.str (bJ sep r)) aN ⟨_,rfl⟩ ?_ ?_
 ·rintro r d a ⟨v,rfl⟩;refine⟨_,rfl,⟨_,rfl⟩,by simp only[W,hV],λ_=>?_⟩;simp only[W,V];exact RE b (h r d).1 ⟨rfl,rfl⟩
 ·rw[kj];rw[hZ] at q;exact q
theorem MA:Sg ("." : Str) 46:=⟨by decide +kernel,by decide⟩
theorem mj:Sg ("," : Str) 44:=⟨by decide +kernel,by decide⟩
theorem pcs{a:Str}{c:Nat}(f:Sg a c)(b:c≠32){l:List (List Int)}(h:∀r∈l,Nm r/\r≠[0]):∀t∈l.map (bJ a),Pc t:=λt e=>by
 obtain⟨r,d,rfl⟩:=de.mp e;exact nP f b (h r d).1 (h r d).2
theorem Q7{l:List (List Int)}(h:∀ r∈l,Nm r/\r≠[0])(a:l.length<=1000)(q:Q (.str (dk (l.map (bJ ".")))) au):WP (yO [aM l] au) Q:=by
 refine df rfl ?_;simp only[W,V];refine⟨_,rfl,by rw[zu];exact ag _ '!',Oh MA h ?_⟩;exact CF (pcs MA '"' h) (by rw[ax];exact a) q
theorem Ru{l:List (List Int)}(h:∀ r∈l,Nm r/\r≠[0])(a:l.length<=1000)(q:Q (.str (dk (l.map (bJ ",")))) au):WP (yU [aM l] au) Q:=by
 refine df rfl ?_;simp only[W,V];refine⟨_,rfl,by rw[zu];exact ag _ '!',Oh mj h ?_⟩;exact CF (pcs mj '"' h) (by rw[ax];exact a) q
structure Cn (r:List Int):Prop where
 len:r.length<=4
 lo:∀x∈r,0<=x
 wt:gM 1 r<=16
 last:dF r=true
theorem jH:∀r:List Int,g9 (r.map .int)=r.sum
 |[]=>rfl
 |x::r=>by show x+g9 (r.map .int)=_;rw[jH r,pi]
theorem wc(h:∀r∈l,gF 16 r)(b:fQ l):(∀r∈l,Nm r/\r≠[0])/\dZ (aM l)=true:=by
 refine⟨λr b=>?_,?_⟩
 ·have p:=h r b;refine⟨⟨by have:=p.len;lia,λx a=>by have:=p.pos x a;lia,λx a=>?_⟩,λe=>?_⟩
  ·have:=lq (λy f=>by have:=p.pos y f;lia) x a;have:=p.sum;lia
  ·have:=p.pos 0 (by rw[e];simp);lia
 ·show((aL l).all fL&&bC (bG (aL l)))=true;rw[nB,(mJ l).mpr b,Bool.and_true,dL];intro d c;obtain⟨r,b,rfl⟩:=de.mp c;have p:=h r b;show((r.map D.int).all fu&&(decide ((r.map D.int).length<=6)&&decide (g9 (r.map D.int)<=16)))=true;rw[jH,bH p.sum,bH (by rw[ax];exact p.len),dL.mpr]
  ·rfl
  ·intro d c;obtain⟨x,a,rfl⟩:=de.mp c;exact bH (p.pos x a)
theorem uE:∀{r:List Int},r.length<=4->(∀x∈r,0<=x)->gM 1 r<=16->∀x∈r,x<100
 |[],_,_,_=>by simp
 |[a],_,lo,w=>by
  have f:=lo a '&';simp only[gM] at w;intro x e;simp only[ce,iB,iy] at e;lia
 |[a,b],_,lo,w=>by
  have f:=lo a '&';have g:=lo b '&';simp only[gM] at w;intro x e;simp only[ce,iB,iy] at e;lia
 |[a,b,c],_,lo,w=>by
  have f:=lo a '&';have g:=lo b '&';have i:=lo c '&';simp only[gM] at w;intro x e;simp only[ce,iB,iy] at e;lia
 |[a,b,c,d],_,lo,w=>by
  have f:=lo a '&';have g:=lo b '&';have i:=lo c '&';have j:=lo d '&';simp only[gM] at w;intro x e;simp only[ce,iB,iy] at e;lia
 |_::_::_::_::_::_,h,_,_=>by simp at h
theorem F7(h:∀r∈l,Cn r)(a:fQ l):(∀r∈l,Nm r/\r≠[0])/\j9 (aM l)=true:=by
 refine⟨λr a=>?_,?_⟩
 ·have p:=h r a;refine⟨⟨by have:=p.len;lia,p.lo,uE p.len p.lo p.wt⟩,λe=>?_⟩;have:=p.last;rw[e] at this;cases this
 ·show((aL l).all gB&&bC (bG (aL l)))=true;rw[nB,(mJ l).mpr a,Bool.and_true,dL];intro d b;obtain⟨r,a,rfl⟩:=de.mp b;have p:=h r a;show(decide ((r.map D.int).length<=4)&&((r.map D.int).all eU&&(dF (eM (r.map D.int))&&decide (gM 1 (eM (r.map D.int))<=16))))=true;rw[BI,p.last,bH p.wt,bH (by rw[ax];exact p.len),dL.mpr]
  ·rfl
  ·intro d b;obtain⟨x,c,rfl⟩:=de.mp b;exact bH (p.lo x c)
section
variable {au:aa}{Q:D->aa->Prop}
theorem rA{xs:List Int}{i:Nat}(a:i<xs.length)(q:Q (.int (xs.getD i 0)) au):WP (cx (.lst (xs.map .int)) (.int (i:Int)) au) Q:=by
 refine iR (xs:=xs.map .int) (d:=.int (xs.getD i 0)) rfl (si ?_) q;rw[dm,bQ a,ie,bQ a]
 rfl
end
theorem IH{r:List Int}{y:Int}(h:∀x∈r,0<=x)(b:0<=y):∀x∈r++[y],0<=x:=λx a=>by
 rcases cM.mp a with z|z
 ·exact h x z
 ·rw[bX.mp z];exact b
end Dd
namespace K68
end K68
namespace Dd
open L2
theorem xi{l:List (List Int)}(h:∀r∈l,Ex 1000 r):∀t∈l.map bz,Pc t:=λt a=>by
 obtain⟨r,b,rfl⟩:=de.mp a;exact AQ (h r b)
theorem QM{l:List (List Int)}(h:∀r∈l,Ex 1000 r)(b:l.length<=1000)(q:Q (.str (dk (l.map bz))) au):WP (yL [aM l] au) Q:=by
 refine df rfl ?_;simp only[W,V];refine⟨_,rfl,by rw[zu];exact ag _ '!',?_⟩;refine jp (as:=l) (λa=>∃v,a=[v]) (λ_=>true) (λr=>.str (bz r)) aN ⟨_,rfl⟩ ?_ ?_
 ·rintro r c a ⟨v,rfl⟩;refine⟨_,rfl,⟨_,rfl⟩,by simp only[W,hV],λ_=>?_⟩;simp only[W,V];exact RF (h r c) ⟨rfl,rfl⟩
 ·rw[kj];have e:l.map (λr=>D.str (bz r))=(l.map bz).map .str:=by rw[hZ];rfl
  rw[e];exact CF (xi h) (by rw[ax];exact b) q
theorem rj{N:Int}(e:1<=N)(h:xG N.toNat l):lR N (aM l)=true:=by
 show((aL l).all (dM N)&&bC (bG (aL l)))=true;rw[nB,(mJ l).mpr h.rise,Bool.and_true,dL];intro d a;obtain⟨r,b,rfl⟩:=de.mp a;show(decide (((r.map D.int).length:Int)=N)&&(r.map D.int).all eU)=true;rw[bH (by rw[ax,h.len r b];lia),dL.mpr]
 ·rfl
 ·intro d a;obtain⟨x,c,rfl⟩:=de.mp a;exact bH (h.pos r b x c)
end Dd
namespace K67
end K67
namespace Dd
open L2
end Dd
namespace L2
open Spec PyProof.Rows PySem.W
end L2
namespace Dd
open L2
end Dd
namespace L2
open Spec PyProof.Rows
noncomputable def md(a b:Str):Option Nat:=(Builtin.Str.occurrences a b 0 a.length 1).head?
theorem II: rS X "str.index" (λx d H Q=>∃(a b:Str) (i:Nat),x=.str a/\d=[.str b]/\md a b=some i/\Q (.int i) H):=by
 intro m s k H x d v l Q I f g h;obtain⟨a,b,i,rfl,rfl,e,q⟩:=h;obtain⟨t,rfl⟩:=f;obtain⟨w,rfl,c⟩:=g.one;obtain⟨u,rfl⟩:=c;unfold md at e;cases ho:Builtin.Str.occurrences a b 0 a.length 1 with
 |nil=>rw[ho] at e;cases e
 |cons j rest=>
  rw[ho] at e;cases e;exact SC.index ho ⟨.int _,H,I.tok _,⟨_,rfl⟩,q⟩
end L2
namespace Dd
open L2 PyProof.Rows
def j8(f:SE) (g:SA):SE:=λe j=>(f e j).bind λx d=>match x with
 |.str a=>(g e d).bind λh c=>match h with
  |[.str b]=>match md a b with
   |some i=>.ok (.int i) c
   |none=>.stuck
  |_=>.stuck
 |_=>.stuck
theorem Gf{d:Pos}(P:JE X o f)(Y:JA X (e::es) ga)(g:attributeBase o "index" X.env (eval o X.env)=eval o X.env:=by rfl)
  (k:((backTo cpos (starEach (e::es) X.env)).all (λx=>!x.1)&&(backToKw cpos (keywordEach [] X.env)).all (λx=>x.1.isSome)
   && decide ((e::es).length+([]:List Keyword).length+(if([]:List Keyword).isEmpty then 0 else 1)<30))=true:=by rfl)
  (h:(d.endLine==cpos.line)=true:=by rfl)(S:starEach (e::es) X.env=(false,eval e X.env)::starEach es X.env:=by rfl)(c:(backTo cpos (starEach es X.env)).any (·.1)=false:=by rfl):
  JE X (.Call (.Attribute o "index" d) (e::es) [] cpos) (j8 f ga):=⟨eI (ls Af F.slot_str_index F.type_str_index II P.out Y.out g k h S c) λτ H Q m=>by
 obtain⟨R,y,au,v,E,a,I,e,q⟩:=m;obtain⟨x,j,e1,e⟩:=zd e;refine⟨R,y,au,x,j,a,I,e1,λn H1 u t l A=>?_⟩;split at e
 ·rename_i s;obtain⟨z,r,e2,e⟩:=zd e;cases A;refine⟨rfl,n,y,j,z,r,a.ext t,l,e2,λG H2 ws T p C=>?_⟩;split at e
  ·rename_i b;split at e
   ·rename_i i J;cases e;obtain⟨w,rfl,U⟩:=C.one;cases U;exact⟨_,_,i,rfl,rfl,J,q _ _ _ (t.trans T) p (.int _)⟩
   ·cases e
  ·cases e
 ·cases e⟩
def gl(d c:cg) (e:SE) (g:SA):SE:=λb f=>(e b f).bind λv a=>match v with
 |.int i=>if i=0 then(g b a).bind d else if i=1 then(g b a).bind c else .stuck
 |_=>.stuck
section
variable {X:Cx}{R:hL}{e:Expr}{g:SA}{pos:Pos}{x1:Str}{x2:Str}
theorem ND{fa:Addr}{x:Str}{k:Nat}{J:List Str}{F:cg}(c:∃f fd,fa=f/\fS X.prog X.w X.K X.mg X.base (pT X.prog X.w) k f fd J (λt H Q E=>∃n i o,ah X.K n H i t/\bv X.K n o H/\t.length=J.length/\((∃v d,F i o=.ok v d/\∀h m u,bj n H h m->bv X.K h d m->At X.K h m v u->Q u m)\/∃x d,F i o=.exc x d/\jx X.K n H d x E))/\Binds X.K fd J []/\W.keepIn X.K (.ref f)=true)(hw:kI X R)(hn:∀i o,i.length≠J.length->F i o=.stuck)(hr:bP k X.A)(ha:JA X [e] g)
  (he:starEach [e] X.env=[(false,eval e X.env)]){Y:List (Addr×Obj)}{s:Shared}{y:L2.St}{H:Hp}{Q:VK}(I:Inv X Y y H s){n:Loc}{σ:DS}{o:aa}(a:cm X.K n H σ y)(rp:bv X.K n o H)
  {i:List D}{j:aa}(e1:g σ o=.ok i j)(h1:(∃v d,F i j=.ok v d/\∀h m u,bj n H h m->bv X.K h d m->At X.K h m v u->Q u m)\/∃x d,F i j=.exc x d/\jx X.K n H d x (R y)):
  wpAny (model X.prog X.w) X.A (callWith pos (.ref fa) [] (backTo pos (starEach [e] X.env)) []) (EP X Y y Q) X.xe s:=by
 obtain⟨f,fd,rfl,G,b,kp⟩:=c;refine Lo (h₀:=X.base) I.ok.mod.kin kp (bp (ha.out pos Y s y H (λt H1=>∃l,bj n H l H1/\bv X.K l j H1/\ah X.K l H1 i t) I ⟨n,σ,o,i,j,a,rp,e1,λl H1 u x1 w a1=>⟨l,x1,w,a1⟩⟩) λus s1 ⟨t,H1,P,r,l,x1,w,a1⟩=>⟨P.kIn,?_⟩) he rfl;have p:t.length=J.length:=by
  rw[a1.length];by_cases hl:i.length=J.length
  ·exact hl
  ·rcases h1 with⟨v,d,A,_⟩|⟨x,d,A,_⟩<;>(rw[hn i j hl] at A;cases A)
 have r2:aq t (us++[]):=by rw[fE];exact r
 refine wpAny_call (wk (G.run X.A X.stack s1 H1 ⟨us,[]⟩ (us++[]) t Q (R y) hr P.env0 (b s1 us P.kIn (by rw[fE,←r.length];exact p)) r2 ⟨l,i,j,a1,w,p,?_⟩) λr s' S=>?_)
 ·rcases h1 with⟨v,d,A,q⟩|⟨x,d,A,q⟩
  ·exact .inl ⟨v,d,A,λh m u x2=>q h m u (x1.trans x2)⟩
  ·exact .inr ⟨x,d,A,q.ext x1⟩
 ·cases r with
  |error er=>
   obtain⟨ea,T,C,dx,m,rfl,os,U,un,a0,Fl,hR⟩:=S;exact hw Y y m ea T C dx s' Fl (P.call' (ch:=[]) os un a0 U (λ_ z=>nomatch z)) hR
  |ok fl=>
   cases fl with
   |ret u=>exact P.after S
   |next=>exact False.elim S
   |brk=>exact False.elim S
   |cont=>exact False.elim S
end
section
variable {X:Cx}{R:hL}{ei:Expr}{e:Expr}{fi:SE}{g:SA}{pos:Pos}{p1:Pos}{p2:Pos}{pl:Pos}{ps0:Pos}{x1:Str}{x2:Str}{k1:Nat}{k2:Nat}{ps1:List Str}{ps2:List Str}{F1:cg}{F2:cg}
theorem J1(t:dH X.prog X.w X.K X.mg X.base x1 k1 ps1 F1)(c2:dH X.prog X.w X.K X.mg X.base x2 k2 ps2 F2)(hw:kI X R)(a2:∀ k E,k.length≠ps1.length->F1 k E=.stuck)(b0:∀ k E,k.length≠ps2.length->F2 k E=.stuck)(a0:bP k1 X.A)(a7:bP k2 X.A)(a6:Gl X x1)(a5:Gl X x2)(hi:JE X ei fi)(hx:gm ei)(ha:JA X [e] g)(P:(x1==("__debug__" : Str))=false:=by decide)(S:(x2==("__debug__" : Str))=false:=by decide)
  (he:starEach [e] X.env=[(false,eval e X.env)]:=by rfl)(b4:starEach [Expr.Name x1 p1,.Name x2 p2] X.env=[(false,eval (.Name x1 p1) X.env),(false,eval (.Name x2 p2) X.env)]:=by rfl):JX X R (.Call (.Subscript (.List [.Name x1 p1,.Name x2 p2] pl) ei ps0) [e] [] pos) (gl F1 F2 (bS fi) (bS g)):=by
 obtain⟨U,b3,G1,b1,a3,m1⟩:=t;obtain⟨G,b5,G2,b2,a9,m2⟩:=c2;refine⟨λaW s τ H Q I ⟨Y,σ,E,a,rp,h⟩=>?_⟩;obtain⟨i,j,e0,a8⟩:∃(i:Int) (j:aa),fi σ E=.ok (.int i) j/\∃J F,((i=0/\J=U/\F=F1)\/(i=1/\J=G/\F=F2))/\∃k d,g σ j=.ok k d/\((∃v b,F k d=.ok v b/\∀m r u,bj Y H m r->bv X.K m b r->At X.K m r v u->Q u r)\/∃x b,F k d=.exc x b/\jx X.K Y H b x (R τ)):=by
  rcases h with⟨v,b,C,q⟩|⟨x,b,C,q⟩
  ·obtain⟨w,j,e2,f⟩:=zd C;cases w with
   |int i=>
    refine⟨i,j,oY e2,?_⟩;by_cases c:i=0
    ·simp only[c,f5] at f;obtain⟨k,d,z,A⟩:=zd f;exact⟨_,_,.inl ⟨c,rfl,rfl⟩,k,d,oY z,.inl ⟨v,b,A,q⟩⟩
    ·simp only[c,gS] at f;by_cases t:i=1
     ·simp only[t,f5] at f;obtain⟨k,d,z,A⟩:=zd f;exact⟨_,_,.inr ⟨t,rfl,rfl⟩,k,d,oY z,.inl ⟨v,b,A,q⟩⟩
     ·simp only[t,gS] at f;cases f
   |_=>cases f
  ·obtain⟨w,j,e2,f⟩:=sD C;cases w with
   |int i=>
    refine⟨i,j,e2,?_⟩;by_cases c:i=0
    ·simp only[c,f5] at f;obtain⟨k,d,z,A⟩:=sD f;exact⟨_,_,.inl ⟨c,rfl,rfl⟩,k,d,z,.inr ⟨x,b,A,q⟩⟩
    ·simp only[c,gS] at f;by_cases t:i=1
     ·simp only[t,f5] at f;obtain⟨k,d,z,A⟩:=sD f;exact⟨_,_,.inr ⟨t,rfl,rfl⟩,k,d,z,.inr ⟨x,b,A,q⟩⟩
     ·simp only[t,gS] at f;cases f
   |_=>cases f
 refine Call_ ?_;have ev:=um vP (qF (se (jy (X:=X) (x:=x1) (v:=V.ref U) (pos:=p1) a6 m1 rfl P) (se (jy (X:=X) (x:=x2) (v:=V.ref G) (pos:=p2) a5 m2 rfl S) nO)) (pos:=pl)) hi.out hx (pos:=ps0);obtain⟨J,F,o,k,d,C,T⟩:=a8;refine bp (ev aW s τ H (λv r=>v=.ref J/\∃p,bj Y H p r/\bv X.K p j r) I ?_) λfv s1 ⟨v,H1,I1,rv,a4,p,n,y⟩=>?_
 ·refine⟨by rw[hY];simp,λl hl=>?_⟩;refine⟨Y,σ,E,.int i,j,a.ext (bj.new hl _),rp.new hl _,e0,λp H2 u y1 y a1=>?_⟩;cases a1;have o1:=tZ rp hl;have g1:=(y1.out (fh (H:=H) (a:=l)) o1).1;refine⟨l,_,i,.ref J,rfl,rfl,.inl (.inl g1),?_,rfl,p,(bj.new hl _).trans y1,y⟩;rcases o with⟨rfl,rfl,_⟩|⟨rfl,rfl,_⟩<;>rfl
 ·subst a4;cases rv;rcases o with⟨_,rfl,rfl⟩|⟨_,rfl,rfl⟩
  ·refine ND (x:=x1) ⟨_,_,rfl,G1,b1,a3⟩ hw a2 a0 ha he I1 (a.ext n) y C ?_;rcases T with⟨v,b,f,q⟩|⟨x,b,f,q⟩
   ·exact .inl ⟨v,b,f,λm r u x2=>q m r u (n.trans x2)⟩
   ·exact .inr ⟨x,b,f,q.ext n⟩
  ·refine ND (x:=x2) ⟨_,_,rfl,G2,b2,a9⟩ hw b0 a7 ha he I1 (a.ext n) y C ?_;rcases T with⟨v,b,f,q⟩|⟨x,b,f,q⟩
   ·exact .inl ⟨v,b,f,λm r u x2=>q m r u (n.trans x2)⟩
   ·exact .inr ⟨x,b,f,q.ext n⟩
end
def eX(e:SE) (k:Nat) (is:List Nat) (d:SG) (c:ST) (f:SE):SE:=λb g=>(e b g).bind λx a=>bS (aG aY (aB (aI (aJ (eC x)) k is d c f) aC)) b a
theorem DZ{X:Cx}{R:hL}(h:iD X.K (aJ fi) τ H R0):mf X.K (tX X.K R fi) τ H R0\/rE X.K (tX X.K R fi) τ H R0:=by
 obtain⟨k,j,l,r,o,a,m,e,q⟩:=h;obtain⟨x,p,n,e⟩:=zd e;cases x with
 |tup ys=>
  cases e;refine .inr ⟨k,j,l,a,m,.inl ⟨_,_,n,λf H1 u c b i=>?_⟩⟩;cases i with
  |tup h1 h2 h3=>exact⟨_,rfl,⟨_,bD.of h1⟩,q _ _ _ c b (uA (λd H2 g=>bD.of (g.out h1 h2).1) h3)⟩
 |lst ys=>
  cases e;refine .inl ⟨k,j,l,a,m,.inl ⟨_,_,n,λf H1 u c b i=>?_⟩⟩;cases i with
  |lst h1 h2 h3=>exact⟨_,rfl,⟨_,cp.of h1⟩,q _ _ _ c b (xQ (λd H2 g=>cp.of (g.out h1 h2).1) h3)⟩
 |scr ys=>
  cases e;refine .inl ⟨k,j,l,a,m,.inl ⟨_,_,n,λf H1 u c b i=>?_⟩⟩;cases i with
  |scr h1 h3=>exact⟨_,rfl,⟨_,h1.sq⟩,q _ _ _ c b (xQ (λd H2 g=>(h1.extG g).sq) h3)⟩
 |_=>cases e
theorem Bj{R:hL}{N:List Str}(P:JX X R iter fi)(t:Gl X "tuple")(hm:X.mg "tuple"=none)(g:X.calm=true)(hg:∀ b C d s H,JG (dB X N scope b C d s H) tg bd)(Y:∀ b C d s H,tu (dB X N scope b C d s H) ifs c)(he:∀ b C d s H,JE (dB X N scope b C d s H) elt f)(S:bh X N k is scope)(hs:∀ x,foldedSetIterable iter X.env x=pure x:=by intro _; rfl)
  (i:starEach [Expr.ListComp elt [⟨tg,iter,ifs,0⟩] scope cpos] X.env=[(false,eval (.ListComp elt [⟨tg,iter,ifs,0⟩] scope cpos) X.env)]:=by rfl):
  JX X R (.Call (.Name "tuple" p) [.ListComp elt [⟨tg,iter,ifs,0⟩] scope cpos] [] pos) (eX fi k is bd c f):=by
 have pc:PE X (.ListComp elt [⟨tg,iter,ifs,0⟩] scope cpos) (ig (λj H U=>mf X.K (tX X.K R fi) j H U\/rE X.K (tX X.K R fi) j H U) k is (gD X.K bd) (kz X.K c) (tD X.K f)):=
  vW g (uq (vX P.out) (vd P.out)) (λb C d s H=>(hg b C d s H).out) (λb C d s H=>(Y b C d s H).out) (λb C d s H=>(he b C d s H).out) S hs
 refine⟨eI (NN nC t hm jz (se pc nO i) '"' '"' i rfl) λj H Q ⟨T,l,m,a,J,h⟩=>?_⟩;rcases h with⟨v,st',e,q⟩|⟨x,st',e,q⟩
 ·obtain⟨x,n,e1,e2⟩:=zd e;have e3:aG aY (aB (aI (aJ fi) k is bd c f) aC) l m=.ok v st':=by
   have:=oY e2;unfold aG aB aI aJ eC at this;unfold aG aB aI aJ;rw[e1];exact this
  have h2:=qk nr j H Q ⟨T,l,m,v,st',a,J,e3,q⟩;obtain⟨A,r,I,xs,a3,a2,G,e4,q2⟩:=h2;obtain⟨y,a0,e5,e6⟩:=zd e4;cases e6;have h3:=qz j H _ ⟨A,r,I,y,_,a2,G,e5,λE H1 u x1 o a1=>q2 E H1 [u] x1 o (.cons a1 .nil)⟩;exact DZ h3
 ·have e0:fi l m=.exc x st':=by
   unfold eX at e;cases z:fi l m with
   |ok y n=>rw[z] at e;exact(AL e).elim
   |exc y w=>rw[z] at e;cases e;rfl
   |stuck=>rw[z] at e;cases e
  exact .inl ⟨T,l,m,a,J,.inr ⟨x,st',e0,q⟩⟩
theorem JZ{R:hL}{d:List Stmt}(u:JT X c' b)(z:JX X R e' f')(A:m4 X R d t):m4 X R (.If c' [.Return (some e') p2] [] pos::d) (aF (bU (bS b) (ao f') (bS ck)) t):=⟨tG (Br (qu u.out (AT (qH z.out)) vZ) A.out) λE o H m=>by
 obtain⟨p,c,j,a,x,q⟩:=m;obtain⟨v,st1,C,q⟩:∃v st1,b c j=.ok v st1/\gG X.K p H E (R o) (if v=true then ao f' c st1 else t c st1):=by
  cases e0:b c j with
  |ok v st1=>
   refine⟨v,st1,rfl,?_⟩;have l:aF (bU (bS b) (ao f') (bS ck)) t c j=if v=true then ao f' c st1 else t c st1:=by
    unfold aF bU bS;rw[e0];cases v with
    |true=>
     show(match (f' c st1).bind (λv st1=>ar.ok (Fl.ret v) st1) with|.ok (.nx k) st1=>t k st1|r=>r)=(f' c st1).bind (λv st1=>ar.ok (Fl.ret v) st1);cases f' c st1<;>rfl
    |false=>rfl
   rw[←l];exact q
  |exc y w=>
   exfalso
   rcases q with⟨_,_,e,_⟩|⟨_,_,e,_⟩<;>(unfold aF bU bS at e;rw[e0] at e;cases e)
  |stuck=>
   exfalso
   rcases q with⟨_,_,e,_⟩|⟨_,_,e,_⟩<;>(unfold aF bU bS at e;rw[e0] at e;cases e)
 refine⟨p,c,j,v,st1,a,x,C,λf H1 n h=>?_⟩;have s:=q.ext n;cases v with
 |true=>
  refine ja ⟨f,c,st1,a.ext n,h,?_⟩;have g:gG X.K f H1 E (R o) (ao f' c st1):=s;cases e2:f' c st1 with
  |ok v w=>
   have i:ao f' c st1=.ok (.ret v) w:=by unfold ao;rw[e2];rfl
   rw[i] at g;exact .inl ⟨v,_,rfl,g.okE⟩
  |exc y w=>
   have i:ao f' c st1=.exc y w:=by unfold ao;rw[e2];rfl
   rw[i] at g;exact .inr ⟨_,_,rfl,g.excE⟩
  |stuck=>
   have i:ao f' c st1=.stuck:=by unfold ao;rw[e2];rfl
   rw[i] at g;exact g.stuck.elim
 |false=>exact jb ⟨f,c,st1,a.ext n,h,s⟩⟩
end Dd
namespace Dd
open L2
def uh:SS:=(aF (aH 7 (aI (jd (aB (aA 2) aC)) 1 [6] (gN 0) (eB (aU kX (aU cx (aA 1) (aA 0)) (eC (.int 0)))) (aA 0)))
 (aF (aH 8 (dS (eC (.str "")) (aB (aI (aJ (aA 7)) 1 [6] (gN 0) aK (aU aO (aU cu (eC (.str "abcdefghij")) (aA 0)) (fO (eB (aU kX (aU cx (aA 1) (aA 0)) (eC (.int 1)))) (aG dX (aB (aU cx (aA 1) (aA 0)) aC)) (eC (.str ""))))) aC)))
 (cR (bW (aA 5) (aB (fO (eB (aU lY (aA 8) (eC (.str "")))) (aA 8) (eC (.str "1"))) aC)))))
def ug:cg:=bV 10 3 (aF (aH 3 (aG zp (aB (aA 0) (aB (eC (.int 4)) aC))))
 (aF (bU (eB (aU dE (aG zp (aB (aA 0) (aB (eC (.int 8)) aC))) (eC (.int 3)))) (aH 3 (aU aO (eC (.int 4)) (aG zp (aB (aA 0) (aB (eC (.int 27)) aC))))) ck)
 (aF (bU (eB (aU dE (aA 1) (eC (.int 0)))) (aF (aH 4 (aG nw (aB (aI (jd (aB (aA 3) aC)) 1 [0,2] (gN 0) aK (aG sJ (aB (aA 1) (aB (aA 2) (aB (eC (.int 12)) aC))))) aC)))
 (aF (aH 5 (dR aC))
 (dj (aJ (aA 4)) (gN 6) uh))) (aF (aH 9 (aG y9 (aB (aA 0) (aB (aA 3) (aB (eC (.int 16)) aC)))))
 (aF (bU (eB (aU dE (aA 1) (eC (.int 2)))) (aH 9 (aG nw (aB (aI (aJ (aA 9)) 1 [0] (gN 0) (eB (aU db (aG gd (aB (j7 (aA 0) bq (ay (eC (.int 1)))) aC)) (eC (.int 14)))) (aU aO (j7 (aA 0) bq (ay (eC (.int 1)))) (aU eL (aS (aB (eC (.int 1)) aC)) (aG zp (aB (aA 1) (aB (eC (.int 2)) aC)))))) aC))) ck)
 (aH 5 (dU (aJ (aA 9)) 1 [1] (gN 0) aK (fO (eB (aU kX (aG bE (aB (aA 0) aC)) (eC (.int 0)))) (dS (aU cu (eC (.str ".,")) (aU fN (aA 1) (eC (.int 1)))) (aB (aI (aJ (aA 0)) 1 [] (gN 0) aK (aG dX (aB (aA 0) aC))) aC)) (eC (.str "-"))))))))
 (ao (fO (eB (aU kX (aG bE (aB (aA 5) aC)) (eC (.int 0)))) (dS (eC (.str " + ")) (aB (sZ (aA 5)) aC)) (eC (.str "0")))))))
def mM:cg:=bV 1 1 (aF (bU (bS (dC (cn (aG av (aB (aA 0) (aB (eC (.ty "str")) aC)))))) (fK "NoText" (bS (aB (eC (.str "what is read is a text")) aC))) (bS ck))
 (bS (ao (fO (eB (aU lY (aA 0) (eC (.str "0")))) (dQ (aA 0) (aB (eC (.str " + ")) aC)) (fy aC)))))
def ub:cg:=bV 3 2 (aF (aH 2 (eX (aG mM (bS (aB (aA 1) aC))) 1 [0] (gN 0) aK (aG qj (aB (aA 1) (aB (aA 0) aC)))))
 (aF (bU (bS (iQ (dC (cn (aG yz (aB (aA 0) (aB (aA 2) aC))))) (eB (aU lY (aG yL (aB (aA 2) aC)) (aA 1))))) (fK "NoText" (bS (aB (eC (.str "this text is not how a sum of so many letters is written")) aC))) (bS ck))
 (bS (ao (aA 2)))))
def sG:cg:=bV 2 1 (aF (aH 1 (eX (aG mM (bS (aB (aA 0) aC))) 1 [] (gN 0) aK (aG lA (aB (aA 0) (aB (eC (.str ".")) aC)))))
 (aF (bU (bS (iQ (dC (cn (aG yK (aB (aA 1) aC)))) (eB (aU lY (aG yO (aB (aA 1) aC)) (aA 0))))) (fK "NoText" (bS (aB (eC (.str "this text is not how a sum of rows is written")) aC))) (bS ck))
 (bS (ao (aA 1)))))
def sH:cg:=bV 2 1 (aF (aH 1 (eX (aG mM (bS (aB (aA 0) aC))) 1 [] (gN 0) aK (aG lA (aB (aA 0) (aB (eC (.str ",")) aC)))))
 (aF (bU (bS (iQ (dC (cn (aG yQ (aB (aA 1) aC)))) (eB (aU lY (aG yU (aB (aA 1) aC)) (aA 0))))) (fK "NoText" (bS (aB (eC (.str "this text is not how a sum of counts is written")) aC))) (bS ck))
 (bS (ao (aA 1)))))
def uc:cg:=bV 4 3 (lS 3 ["NoText"] (aF (bU (bS (eB (aU dE (aA 0) (eC (.int 0))))) (ao (aG ub (bS (aB (aA 1) (aB (aA 2) aC))))) (bS ck))
 (ao (gl sG sH (bS (aU fN (aA 0) (eC (.int 1)))) (bS (aB (aA 2) aC))))) (ao (fO (gE (cn (jf 3 ["NoText"])) (cn (jf 3 ["NoText"]))) (eC (.str "refused")) (eC (.str "another")))))
def qx:cg:=bV 1 1 (aF (bU (iQ (eB (aU (gw true) (aG bT (aB (aA 0) aC)) (fy (aB (eC (.int 1)) (aB (eC (.int 2)) aC))))) (iQ (eB (aU kX (aG bE (aB (aI (hG (aA 0)) 1 [] (gN 0) (eB (aU (eT true) (aA 0) (eC (.str "0123456789")))) (aA 0)) aC)) (eC (.int 0)))) (eB (aU dE (aU cu (aA 0) (eC (.int 0))) (eC (.str "0")))))) (ao (eC .non)) ck)
 (ao (aG fX (aB (aA 0) aC))))
def Dh:SS:=(aH 6 (aU aO (aA 6) (eC (.int 1))))
def PD:SS:=(aF (aH 5 (fO (eB (aU (eT false) (aU cu (aA 1) (aA 4)) (cP (eC (.str "abcdefghij")) bq (ay (aA 0))))) (j8 (eC (.str "abcdefghij")) (aB (aU cu (aA 1) (aA 4)) aC)) (mZ hD (eC (.int 1)))))
 (aF (bU (eB (aU sY (aA 5) (aA 3))) (ao (eC .non)) ck)
 (aF (aH 6 (aU aO (aA 4) (eC (.int 1))))
 (aF (cZ (gE (eB (aU db (aA 6) (aG bT (aB (aA 1) aC)))) (eB (aU (eT false) (aU cu (aA 1) (aA 6)) (eC (.str "0123456789"))))) Dh)
 (aF (aH 7 (eC (.int 1)))
 (aF (bU (eB (aU kX (aA 6) (aU aO (aA 4) (eC (.int 1))))) (aF (aH 7 (aG qx (aB (cP (aA 1) (ay (aU aO (aA 4) (eC (.int 1)))) (ay (aA 6))) aC)))
 (bU (iQ (eB (aU (eS false) (aA 7) (eC .non))) (eB (aU dE (aA 7) (eC (.int 1))))) (ao (eC .non)) ck)) ck)
 (aF (da (aA 2) (aA 5) (aA 7))
 (aF (aH 3 (aA 5))
 (aH 4 (aA 6))))))))))
def zi:cg:=bV 8 2 (aF (bU (eB (aU dE (aA 1) (eC (.str "1")))) (ao (aU eL (aS (aB (eC (.int 0)) aC)) (aA 0))) ck)
 (aF (aH 2 (dU (jd (aB (aA 0) aC)) 1 [] (gN 0) aK (eC (.int 0))))
 (aF (aH 3 (mZ hD (eC (.int 1))))
 (aF (aH 4 (eC (.int 0)))
 (aF (cZ (eB (aU db (aA 4) (aG bT (aB (aA 1) aC)))) PD)
 (ao (fO (eB (aU Au (aA 3) (eC (.int 0)))) (aG aY (aB (aA 2) aC)) (eC .non))))))))
def Pu:SS:=(aF (aH 5 (fO (eB (aU dE (aA 4) (eC (.str "0")))) (eC (.int 0)) (aG qx (aB (aA 4) aC))))
 (aF (bU (iQ (eB (aU (eS false) (aA 5) (eC .non))) (eB (aU dE (aG bE (aB (aA 3) aC)) (aG bE (aB (aA 2) aC))))) (ao (eC .non)) ck)
 (cR (bW (aA 3) (aB (aA 5) aC)))))
def yX:cg:=bV 6 3 (aF (bU (eB (aU dE (aA 0) (eC (.str "-")))) (ao (aS aC)) ck)
 (aF (aH 3 (dR aC))
 (aF (dj (aJ (dQ (aA 0) (aB (aA 1) aC))) (gN 4) Pu)
 (aF (bU (eB (aU kX (aG gd (aB (aI (jd (aB (aG bE (aB (aA 3) aC)) aC)) 1 [3,2] (gN 0) aK (aU cL (aU cx (aA 1) (aA 0)) (aU cx (aA 2) (aA 0)))) aC)) (eC (.int 16)))) (ao (eC .non)) ck)
 (aF (bU (iQ (gE (eB (aU dE (aA 1) (eC (.str ".")))) (eB (aU (gw false) (eC (.int 0)) (aA 3)))) (eB (aU dE (aU cx (aA 3) (mZ hD (eC (.int 1)))) (eC (.int 0))))) (ao (eC .non)) ck)
 (ao (aG aY (aB (aA 3) aC))))))))
def C6:SS:=(bU (eB (aU dE (aA 0) (eC (.int 0)))) (cR (bW (aA 3) (aB (aG zi (aB (aA 1) (aB (aA 4) aC))) aC))) (cR (bW (aA 3) (aB (aG yX (aB (aA 4) (aB (aU cu (eC (.str ".,")) (aU fN (aA 0) (eC (.int 1)))) (aB (aU cx (fy (aB (fy (aB (eC (.int 1)) (aB (eC (.int 1)) (aB (eC (.int 1)) (aB (eC (.int 1)) (aB (eC (.int 1)) (aB (eC (.int 1)) aC))))))) (aB (fy (aB (eC (.int 1)) (aB (eC (.int 3)) (aB (eC (.int 7)) (aB (eC (.int 15)) aC))))) aC))) (aU fN (aA 0) (eC (.int 1)))) aC)))) aC))))
def ud:cg:=bV 6 3 (aF (bU (dC (cn (aG av (aB (aA 2) (aB (eC (.ty "str")) aC))))) (ao (eC .non)) ck)
 (aF (bU (eB (aU dE (aA 2) (eC (.str "0")))) (ao (aS aC)) ck)
 (aF (aH 3 (dR aC))
 (aF (dj (aJ (dQ (aA 2) (aB (eC (.str " + ")) aC))) (gN 4) C6)
 (aF (bU (eB (aU (gw false) (eC .non) (aA 3))) (ao (eC .non)) ck)
 (aF (aH 5 (aI (xx (aB (eC (.int 1)) (aB (aG bE (aB (aA 3) aC)) aC))) 1 [3] (gN 0) (dC (eB (aU db (aU cx (aA 1) (aU fN (aA 0) (eC (.int 1)))) (aU cx (aA 1) (aA 0))))) (aA 0)))
 (ao (fO (eB (aU dE (aG bE (aB (aA 5) aC)) (eC (.int 0)))) (aG aY (aB (aA 3) aC)) (eC .non)))))))))
def uf:cg:=bV 2 1 (aF (bU (eB (aU dE (aG zp (aB (aA 0) (aB (eC (.int 4)) aC))) (eC (.int 0)))) (aF (aH 1 (eC (.str " !\"#$&'()*+,-./0123456789:;<=>?@ABCDEFGHIJKLMNOPQRSTUVWXYZ[\\]^_`")))
 (aF (aH 1 (aU aO (aA 1) (eC (.str "abcdefghijklmnopqrstuvwxyz{|}~\n"))))
 (ao (aU cu (aA 1) (aG zp (aB (aA 0) (aB (aG bT (aB (aA 1) aC)) aC))))))) ck)
 (ao (aU cu (eC (.str "abcdefghij0123456789 +.,-")) (aG zp (aB (aA 0) (aB (eC (.int 25)) aC))))))
def yW:cg:=bV 6 2 (aF (aH 2 (aG zp (aB (aA 0) (aB (aU aO (aG bT (aB (aA 1) aC)) (eC (.int 1))) aC))))
 (aF (aH 3 (aG zp (aB (aA 0) (aB (eC (.int 4)) aC))))
 (aF (bU (eB (aU dE (aA 3) (eC (.int 0)))) (ao (aU aO (cP (aA 1) bq (ay (aA 2))) (cP (aA 1) (ay (aU aO (aA 2) (eC (.int 1)))) bq))) ck)
 (aF (bU (eB (aU dE (aA 3) (eC (.int 1)))) (ao (aU aO (aU aO (cP (aA 1) bq (ay (aA 2))) (aG uf (aB (aA 0) aC))) (cP (aA 1) (ay (aA 2)) bq))) ck)
 (aF (bU (eB (aU dE (aA 3) (eC (.int 2)))) (ao (aU aO (aU aO (cP (aA 1) bq (ay (aA 2))) (aG uf (aB (aA 0) aC))) (cP (aA 1) (ay (aU aO (aA 2) (eC (.int 1)))) bq))) ck)
 (aF (aH 4 (dQ (aA 1) (aB (eC (.str " + ")) aC)))
 (aF (aH 2 (aU ez (aA 2) (aG bE (aB (aA 4) aC))))
 (aF (aH 5 (aU aO (j7 (aA 4) (ay (aU aO (aA 2) (eC (.int 1)))) (ay (aU aO (aA 2) (eC (.int 2))))) (j7 (aA 4) (ay (aA 2)) (ay (aU aO (aA 2) (eC (.int 1)))))))
 (ao (dS (eC (.str " + ")) (aB (aU aO (aU aO (j7 (aA 4) bq (ay (aA 2))) (aA 5)) (j7 (aA 4) (ay (aU aO (aA 2) (eC (.int 2)))) bq)) aC)))))))))))
def AZ:SS:=(cR (bW (aA 5) (aB (aG yW (aB (aA 2) (aB (aU cx (aA 5) (aU cx (fy (aB (eC (.int 0)) (aB (aU fN (aG bE (aB (aA 5) aC)) (eC (.int 1))) aC))) (aG oN (aB (aU dE (aG zp (aB (aA 2) (aB (eC (.int 3)) aC))) (eC (.int 0))) aC)))) aC))) aC)))
def A3:SS:=(aF (aH 8 (aG uc (aB (aA 3) (aB (aA 4) (aB (aA 7) aC)))))
 (aF (aH 9 (aG ud (aB (aA 3) (aB (aA 4) (aB (aA 7) aC)))))
 (bU (iQ (eB (aU lY (aA 8) (fO (eB (aU (eS true) (aA 9) (eC .non))) (aA 9) (eC (.str "refused"))))) (cn (aG av (aB (aA 8) (aB (eC (.ty "list")) aC))))) (ao (eC (.bl false))) ck)))
def wh:SS:=(aF (aH 2 (aG ua (aB (aA 0) (aB (aA 1) aC))))
 (aF (aH 3 (aG zp (aB (aA 2) (aB (eC (.int 3)) aC))))
 (aF (aH 4 (aU aO (eC (.int 1)) (aG zp (aB (aA 2) (aB (eC (.int 10)) aC)))))
 (aF (aH 5 (dR (aB (aG ug (aB (aA 2) (aB (aA 3) (aB (aA 4) aC)))) (aB (aG ug (aB (aA 2) (aB (aG zp (aB (aA 2) (aB (eC (.int 3)) aC))) (aB (aA 4) aC)))) aC))))
 (aF (dj (jd (aB (eC (.int 5)) aC)) (gN 6) AZ)
 (aF (cR (bW (aA 5) (aB (aU cx (fy (aB (eC .non) (aB (eC (.int 0)) (aB (eC (.bl true)) (aB (fy aC) (aB (aS (aB (eC (.str "a")) aC)) (aB (fy (aB (eC (.str "0")) aC)) (aB (aU xm (eC (.int 10)) (eC (.int 39))) (aB (aS aC) aC))))))))) (aG zp (aB (aA 2) (aB (eC (.int 8)) aC)))) aC)))
 (dj (aJ (sZ (aA 5))) (gN 7) A3)))))))
def qi:cg:=bV 10 1 (aF (dj (jd (aB (aG xD (aB (eC (.int 1)) (aB (aG mm (aB (eC (.int 12)) (aB (aG bE (aB (aA 0) aC)) aC))) aC))) aC)) (gN 1) wh)
 (ao (eC (.bl true))))
section
open Builtin Builtin.Str StrLaws
theorem Oa{x:Str}:∀(b:List Nat) (a f:Nat),a<=x.length->ChainG x sep x.length a b f->(Str.join sep (partsFrom x sep.length a b)).cps.toList=x.cps.toList.drop a
 |[],a,f,ha,_=>by
  show(strSub x a x.length).cps.toList=_;rw[strSub_toList,lL (by rw[gr,dJ];exact bi _)]
 |c::cs,a,f,ha,h=>by
  obtain⟨k,j,m,d⟩:=h;obtain⟨l,i⟩:=AD.mp j;have g:=Oa cs (c+sep.length) f '!' d;obtain⟨q,r,e⟩:=partsFrom_ne x sep.length (c+sep.length) cs;show(Str.join sep (strSub x a c::partsFrom x sep.length (c+sep.length) cs)).cps.toList=_;rw[e] at g ⊢;rw[mI,g,strSub_toList,←i,←lE,mU];have:x.cps.toList.drop c=(x.cps.toList.drop a).drop (c-a):=by rw[lE,show a+(c-a)=c by lia]
  rw[this,mU]
theorem Ji(x a:Str):Txt.split x a≠[]:=by
 unfold Txt.split;split
 ·simp
 ·split
  ·simp
  ·rw[partsBetween_eq];obtain⟨q,r,e⟩:=partsFrom_ne x a.length 0 (occurrences x a 0 x.length (x.length+1));rw[e];simp
theorem Qd{a:Str}(d:1<=a.length):Txt.join a (Txt.split x a)=x:=by
 have c:∀ts,Txt.join a ts=Str.join a ts:=λts=>glued_eq_join _ _
 rw[c];unfold Txt.split;split
 ·rfl
 ·split
  ·rfl
  ·rw[partsBetween_eq];obtain⟨f,b,e⟩:=occ_tight x a d;exact jr (Oa _ 0 f (eJ _) b)
noncomputable def f8(a:List Str):Nat:=(a.map (·.length)).sum
theorem sj:∀{ts:List Str},ts≠[]->(Txt.join sep ts).length+sep.length=f8 ts+ts.length*sep.length:=λ{ts} b=>by
 rw[show Txt.join sep ts=Str.join sep ts from glued_eq_join _ _]
 induction ts with
 |nil=>exact absurd rfl b
 |cons p r a=>
  cases r with
  |nil=>show p.length+sep.length=(p.length+0)+1*sep.length;lia
  |cons q r=>
   have h:=congrArg List.length (mI sep p q r);rw[cq,cq,dJ,dJ,dJ,dJ] at h;have a:=a '&';show(Str.join sep (p::q::r)).length+sep.length=(p.length+f8 (q::r))+(r.length+1+1)*sep.length;rw[d5] at a;rw[Nat.succ_mul];lia
theorem Nr:∀{a:List Str},t∈a->t.length<=f8 a
 |p::r,h=>by
  show _<=p.length+f8 r;rcases ce.mp h with rfl|h
  ·lia
  ·have:=Nr h;lia
theorem IC:∀{a:List Str}{t:Str},t∈a->c∈t.cps.toList->c∈(Txt.join sep a).cps.toList:=λ{a t} ht b=>by
 rw[show Txt.join sep a=Str.join sep a from glued_eq_join _ _]
 induction a with
 |nil=>cases ht
 |cons p r ih=>
  cases r with
  |nil=>rw[bX.mp ht] at b;exact b
  |cons q r=>
   rw[mI];rcases ce.mp ht with rfl|ht
   ·exact ra _ b
   ·exact j3 _ (j3 _ (ih ht))
end
structure Tx (t:Str):Prop where
 asc:cF t
 few:t.length<=995
structure SZ (sep t:Str) (ts:List Str):Prop where
 ne:ts≠[]
 back:Txt.join sep ts=t
 tx:∀p∈ts,Tx p
 few:ts.length<=996
theorem rZ{sep:Str}(f:1<=sep.length)(h:Tx t):SZ sep t (Txt.split t sep):=by
 have b:=Ji t sep;have a:=Qd (x:=t) f;have i:=sj (sep:=sep) b;rw[a] at i;have j:=h.few;have k:=qZ.mpr b;have:(Txt.split t sep).length-1<=((Txt.split t sep).length-1)*sep.length:=Nat.le_mul_of_pos_right _ f;have e:(Txt.split t sep).length*sep.length=((Txt.split t sep).length-1)*sep.length+sep.length:=by
  rw[←Nat.succ_mul];congr 1;lia
 refine⟨b,a,λp d=>⟨λc g=>h.asc c (by rw[←a];exact IC d g),?_⟩,by lia⟩;have:=Nr d;lia
theorem AM: eT neg (.str ⟨#[c]⟩) (.str ("0123456789" : Str)) au=.ok (.bl (if neg then !decide (48<=c/\c<58) else decide (48<=c/\c<58))) au:=by
 have e:(!(Builtin.Str.occurrences ("0123456789" : Str) ⟨#[c]⟩ 0 ("0123456789" : Str).length 1).isEmpty)=decide (48<=c/\c<58):=by
  by_cases h:48<=c/\c<58
  ·rw[qB h,bH h];rfl
  ·rw[vJ h,bM h];rfl
 show ar.ok (D.bl (if neg then !(!(Builtin.Str.occurrences ("0123456789" : Str) ⟨#[c]⟩ 0 ("0123456789" : Str).length 1).isEmpty) else !(Builtin.Str.occurrences ("0123456789" : Str) ⟨#[c]⟩ 0 ("0123456789" : Str).length 1).isEmpty)) au=_
 rw[e]
section
variable {au:aa}
theorem FU{f:SE}{a:DS}{z:Str}(d:f a au=.ok (.str z) au)(h:cF z):hG f a au=.ok (z.cps.toList.map λc=>.str ⟨#[c]⟩) au:=by
 unfold hG;rw[d];show(if(z.cps.all λx=>decide (x<128))=true then ar.ok (signs z) au else .stuck)=_;rw[if_pos]
 ·rfl
 ·rw[←wA,dL];exact λc b=>bH (h c b)
end
theorem jB(h:Tx z):bT [.str z] au=.ok (.int (z.length:Int)) au:=by
 show(if z.length<=sizeLine then _ else _)=_;rw[if_pos (ag _ (by have:=h.few;lia))]
def kD(z:Str):Option Int:=((List.range 99).find? λi=>decide (tx ((i+1:Nat):Int)=z)).map λi=>((i+1:Nat):Int)
theorem sr(h:kD z=some i):1<=i/\i<100/\z=tx i:=by
 obtain⟨n,a,rfl⟩:=fH.mp h;have c:=gq.mp (List.mem_of_find?_eq_some a);have b:tx ((n+1:Nat):Int)=z:=by simpa using List.find?_some a
 exact⟨by lia,by lia,b.symm⟩
theorem qK(f:0<=i)(g:i<100)(d:0<=j)(c:j<100)(e:tx i=tx j):i=j:=by
 have a:=(gO f g).2;have b:=(gO d c).2;rw[e,b] at a;have:=eg a;lia
theorem nN(f:1<=i)(d:i<100):kD (tx i)=some i:=by
 cases e:kD (tx i) with
 |some j=>
  obtain⟨a,b,c⟩:=sr e;rw[qK '!' d '!' b c]
 |none=>
  exfalso
  have h:=Option.map_eq_none_iff.mp e;have:=List.find?_eq_none.mp h (i.toNat-1) (gq.mpr '!');rw[show((i.toNat-1+1:Nat):Int)=i by lia] at this;simp at this
theorem Bm(h:∀i:Int,1<=i->i<100->z≠tx i):kD z=none:=by
 cases e:kD z with
 |none=>rfl
 |some j=>exact absurd (sr e).2.2 (h j (sr e).1 (sr e).2.1)
theorem Qa:(List.range 99).all (λn=>decide ((tx ((n+1:Nat):Int)).cps.toList.head?≠some 48))=true:=by decide +kernel
theorem Jo(a:1<=i)(b:i<100):(tx i).cps.toList.head?≠some 48:=by
 have:=gX (dL.mp Qa (i.toNat-1) (gq.mpr '!'))
 rwa [show((i.toNat-1+1:Nat):Int)=i by lia] at this
theorem Ih:(((List.range 9).all λa=>decide (eA ⟨#[49+a]⟩=some (a+1)/\tx ((a+1:Nat):Int)=⟨#[49+a]⟩))&&((List.range 9).all λa=>(List.range 10).all λb=>decide (eA ⟨#[49+a,48+b]⟩=some (10*(a+1)+b)/\tx ((10*(a+1)+b:Nat):Int)=⟨#[49+a,48+b]⟩)))=true:=by decide +kernel
theorem Gp(f:pS z)(h:z.cps.toList.head?≠some 48):∃n:Nat,eA z=some n/\kD z=some (n:Int):=by
 have i:=Ih;rw[eh] at i;have p:=f.some;have o:=f.few;have g:=f.all;have d:=dJ z;obtain⟨l,e⟩:∃l,z.cps.toList=l:=⟨_,rfl⟩
 have j:z=⟨l.toArray⟩:=jr e;rw[e] at h g d
 match l,d with
 |[],d=>simp at d;lia
 |[a],_=>
  have w:=g a '&';have k:a≠48:=λq=>h (by rw[q];rfl)
  have:=gX (dL.mp i.1 (a-49) (gq.mpr '!'));rw[show 49+(a-49)=a by lia] at this;rw[j];refine⟨_,this.1,?_⟩;rw[show(⟨[a].toArray⟩:Str)=⟨#[a]⟩ from rfl,←this.2];exact nN '!' '!'
 |[a,b],_=>
  have w:=g a '&';have m:=g b '&';have k:a≠48:=λq=>h (by rw[q];rfl)
  have:=gX (dL.mp (dL.mp i.2 (a-49) (gq.mpr '!')) (b-48) (gq.mpr '!'));rw[show 49+(a-49)=a by lia,show 48+(b-48)=b by lia] at this;rw[j];refine⟨_,this.1,?_⟩;rw[show(⟨[a,b].toArray⟩:Str)=⟨#[a,b]⟩ from rfl,←this.2];exact nN '!' '!'
 |a::b::c::l,d=>simp at d;lia
noncomputable def oi:Option Int->D
 |none=>.non
 |some i=>.int i
theorem EV:gw true (.int ((n:Nat):Int)) (.lst [.int 1,.int 2]) au=.ok (.bl (!decide (n=1\/n=2))) au:=by
 have a:dataOf au (.lst [.int 1,.int 2])=some (.list [.int 1,.int 2]):=rfl;unfold gw;rw[a,show dataOf au (.int (n:Int))=some (.int n) from rfl];dsimp only;rw[if_pos ⟨rfl,by decide +kernel⟩,if_pos rfl]
 congr 2
 show(!(((1:Int)==(n:Int))||(((2:Int)==(n:Int))||false)))=_
 congr 1
 rw[Bool.or_false,kR,zE,jt,jX,jX];lia
section
variable {au:aa}{Q:D->aa->Prop}
theorem OQ{z:Str}(h:Tx z)(q:Q (oi (kD z)) au):WP (qx [.str z] au) Q:=by
 have o:=dJ z;refine df rfl ?_;simp only[W,V];refine WP.of (jB h) ?_;refine⟨ag _ '&',WP.of EV ?_⟩;dsimp only[bK];by_cases c1:z.length=1\/z.length=2
 ·rw[bH c1,if_neg '"'];refine WP.of (FU (z:=z) rfl h.asc) ⟨by rw[ax];exact ag _ (by have:=h.few;lia),?_⟩;refine jp (as:=z.cps.toList) (λm=>∃v,m=[v]) (λc=>!decide (48<=c/\c<58)) (λc=>.str ⟨#[c]⟩) (λc=>.str ⟨#[c]⟩) ⟨_,rfl⟩ ?_ ?_
  ·rintro c a m ⟨v,rfl⟩;refine⟨_,rfl,⟨_,rfl⟩,?_,λ_=>?_⟩
   ·simp only[W,V];refine WP.of AM ?_;exact⟨rfl,rfl⟩
   ·simp only[W,V];exact⟨trivial,trivial⟩
  refine⟨trivial,?_⟩;by_cases c2:∀c∈z.cps.toList,48<=c/\c<58
  ·have u:(z.cps.toList.filter λc=>!decide (48<=c/\c<58))=[]:=Ae.mpr λc a=>by rw[bH (c2 c a)];decide
   rw[u,if_neg '&'];have A:pS z:=⟨by lia,by lia,c2⟩
   obtain⟨c,l,e⟩:∃c l,z.cps.toList=c::l:=by
    cases e:z.cps.toList with
    |nil=>rw[e] at o;simp at o;lia
    |cons c l=>exact⟨c,l,rfl⟩
   have w:cu (.str z) (.int 0) au=.ok (.str ⟨#[c]⟩) au:=by
    have g:z.cps[(0:Int).toNat]?=some c:=by
     rw[←gj,e];rfl
    show(if(0:Int)<=0/\(0:Int)<2^63/\(0:Int)<z.length then(match z.cps[(0:Int).toNat]? with|some c=>ar.ok (D.str ⟨#[c]⟩) au|none=>.stuck) else .stuck)=_;rw[if_pos ⟨by lia,by lia,by lia⟩,g]
   have t:cF ⟨#[c]⟩:=λx C=>by rw[show x=c by simpa using C];exact h.asc c (by rw[e];simp)
   have p:cF ("0" : Str):=λc a=>by rw[dc] at a; have:=bX.mp a; lia
   refine WP.of w ?_;by_cases c3:c=48
   ·have j:(⟨#[c]⟩:Str)="0":=jr (by rw[dc,c3])
    rw[j];refine WP.of (kh (neg:=false) rfl rfl (jI p)) ?_;dsimp only[bK];rw[if_pos '"'];have:kD z=none:=Bm λi k d b=>Jo k d (by rw[←b,e,c3];rfl)
    rw[this] at q;exact q
   ·have j:(⟨#[c]⟩:Str)≠"0":=λy=>c3 (by
     have:=congrArg (λz:Str=>z.cps.toList) y;rw[dc] at this
     exact(List.cons.inj this).1)
    refine WP.of (nh t p j) ?_;dsimp only[bK];rw[if_neg '"'];obtain⟨n,s,E⟩:=Gp A (by rw[e];exact λy=>c3 (eg y));have b:fX [.str z] au=.ok (.int (n:Int)) au:=by
     show(match eA z with|some n=>ar.ok (D.int (n:Int)) au|none=>.stuck)=_;rw[s]
    refine WP.of b ?_;rw[E] at q;exact q
  ·have r:(z.cps.toList.filter λc=>!decide (48<=c/\c<58))≠[]:=λe=>c2 λc a=>by
    have:=Ae.mp e c a
    simpa using this
   have G:=qZ.mpr r;rw[if_pos (by rw[ax];lia)];have:kD z=none:=Bm λi k d b=>c2 (by rw[b];exact(gO '!' d).1.all)
   rw[this] at q;exact q
 ·rw[bM c1,if_pos '"']
  have:kD z=none:=Bm λi k d b=>c1 (by
   have f:=(gO (i:=i) '!' d).1;rw[←b] at f;have:=f.few;have:=f.some
   lia)
  rw[this] at q;exact q
end
theorem tM:∀(a b:List Int) (k:Nat),bf k (a++b)=bf k a++bf (k+a.length) b
 |[],b,k=>rfl
 |e::a,b,k=>by
  show lx k e++bf (k+1) (a++b)=(lx k e++bf (k+1) a)++_;rw[tM a b (k+1),eu,d5,show k+1+a.length=k+(a.length+1) by lia]
theorem xX:∀(m k:Nat),bf k (List.replicate m 0)=[]
 |0,_=>rfl
 |m+1,k=>by
  show lx k 0++bf (k+1) (List.replicate m 0)=[]
  rw[xX m (k+1)];rfl
theorem BG:∀L:List Nat,∃E R,L=E++R/\(∀c∈E,48<=c/\c<58)/\∀c l,R=c::l->¬ (48<=c/\c<58)
 |[]=>⟨[],[],rfl,by simp,λc l h=>by cases h⟩
 |c::L=>by
  by_cases h:48<=c/\c<58
  ·obtain⟨E,R,e,b,a⟩:=BG L
   exact⟨c::E,R,by rw[e];rfl,λx hx=>by
    rcases ce.mp hx with rfl|hx
    ·exact h
    ·exact b x hx,a⟩
  ·exact⟨[],c::L,rfl,by simp,λd l e=>by cases e;exact h⟩
theorem vI:∀{E e R R2:List Nat},(∀c∈E,48<=c/\c<58)->(∀c∈e,48<=c/\c<58)->(∀c l,R=c::l->¬ (48<=c/\c<58))->(∀c l,R2=c::l->¬ (48<=c/\c<58))->E++R=e++R2->E=e/\R=R2
 |[],[],R,R2,_,_,_,_,h=>⟨rfl,h⟩
 |[],c::e,R,R2,_,h2,h3,_,h=>absurd (h2 c '&') (h3 c _ h)
 |c::E,[],R,R2,h1,_,_,h4,h=>absurd (h1 c '&') (h4 c _ h.symm)
 |c::E,d::e,R,R2,h1,h2,h3,h4,h=>by
  injection h with g i
  obtain⟨a,b⟩:=vI (λx f=>h1 x (by simp[f])) (λx f=>h2 x (by simp[f])) h3 h4 i;exact⟨by rw[g,a],b⟩
def kY(E:List Nat):Option Int:=if E=[] then some 1 else match kD ⟨E.toArray⟩ with
 |none=>none
 |some e=>if e=1 then none else some e
abbrev oH(e:Int):List Nat:=if e=1 then[] else(tx e).cps.toList
theorem D2(a:0<=e)(b:e<100):(tx e).cps.toList≠[]:=λh=>by
 have:=(gO a b).1.some;rw[←dJ,h] at this;simp at this
theorem Iv(h:kY E=some e):1<=e/\e<100/\E=oH e:=by
 unfold kY at h;split at h
 ·rename_i c;cases h;exact⟨by lia,by lia,c⟩
 ·split at h
  ·cases h
  ·rename_i x f;split at h
   ·cases h
   ·rename_i d;cases h;obtain⟨a,b,c⟩:=sr f;refine⟨a,b,?_⟩;rw[oH,if_neg d,←c]
theorem uM(b:1<=e)(a:e<100):kY (oH e)=some e:=by
 unfold kY;by_cases c:e=1
 ·rw[c];rfl
 ·have:oH e=(tx e).cps.toList:=if_neg c;rw[this,if_neg (D2 '!' a),show(⟨(tx e).cps.toList.toArray⟩:Str)=tx e from jr rfl,nN b a];show(if e=1 then none else some e)=_;rw[if_neg c]
theorem uS(h:e≠0):lx k e=(97+k)::oH e:=by unfold lx;rw[if_neg h]
theorem Cs:∀{s:List Int}{k c:Nat}{R:List Nat},(∀x∈s,0<=x)->bf k s=c::R->∃j,∃e:Int,∃t:List Int,s=List.replicate j 0++e::t/\0<e/\c=97+k+j/\R=oH e++bf (k+j+1) t
 |[],k,c,R,_,h=>by cases(show([]:List Nat)=c::R from h)
 |e::s,k,c,R,lo,h=>by
  by_cases z:e=0
  ·subst z;obtain⟨j,e,t,d,g,l,b⟩:=Cs (s:=s) (k:=k+1) (λx f=>lo x (by simp[f])) (show bf (k+1) s=c::R from h);exact⟨j+1,e,t,by rw[d];rfl,g,by lia,by rw[b,show k+1+j+1=k+(j+1)+1 by lia]⟩
  ·have a:lx k e++bf (k+1) s=c::R:=h;rw[uS z] at a;injection a with m i
   exact⟨0,e,s,rfl,by have:=lo e '&';lia,by lia,i.symm⟩
theorem Kg{s:List Int}(h:k+s.length<=30)(lo:∀x∈s,0<=x):∀c l,bf k s=c::l->¬ (48<=c/\c<58):=λc l e=>by
 rcases tT (r:=s) (k:=k) with w|⟨d,b,w,a⟩
 ·rw[w] at e;cases e
 ·rw[w] at e;cases e;lia
structure Rd (N:Nat) (L0:List Nat) (p:List Int) (L:List Nat):Prop where
 len:p.length<=N
 lo:∀x∈p,0<=x
 hi:∀x∈p,x<100
 is:L0=bf 0 p++L
 pos:p=[]\/bf 0 p≠[]
 all:∀r,Ex 100 r->r.length=N->L0=bf 0 r->∃s,r=p++s
theorem Rd.init{N:Nat}{L:List Nat}:Rd N L [] L:=⟨eJ _,by simp,by simp,rfl,.inl rfl,λr _ _ _=>⟨r,rfl⟩⟩
theorem Rd.rest{N:Nat}{L:List Nat}(h:Rd N L0 p L) (b:Ex 100 r)(d:r.length=N)(e:L0=bf 0 r):∃s,r=p++s/\L=bf p.length s/\∀x∈s,0<=x/\x<100:=by
 obtain⟨s,a⟩:=h.all r b d e;refine⟨s,a,?_,λx c=>⟨b.lo x (by rw[a];simp[c]),b.hi x (by rw[a];simp[c])⟩⟩;have:=h.is;rw[e,a,tM,iW] at this;exact(List.append_cancel_left this).symm
theorem Rd.no{N:Nat}{L:List Nat}(h:Rd N L0 p (c::L))(n:¬ (97+p.length<=c/\c<97+N)):∀r,Ex 100 r->r.length=N->L0≠bf 0 r:=λr k a e=>by
 obtain⟨s,b,i,d⟩:=h.rest k a e;obtain⟨j,x,t,f,o,l,m⟩:=Cs (λx g=>(d x g).1) i.symm;have:=congrArg List.length b;rw[f,cq,cq,mW,d5] at this;lia
theorem Rd.next{N:Nat}{R:List Nat}(U:N<=10)(h:Rd N L0 p (c::(E++R)))(Y:97+p.length<=c)(X:c<97+N)(C:∀c∈E,48<=c/\c<58)(Q:∀c l,R=c::l->¬ (48<=c/\c<58)):
  match kY E with
  |none=>∀r,Ex 100 r->r.length=N->L0≠bf 0 r
  |some e=>Rd N L0 (p++List.replicate (c-97-p.length) 0++[e]) R:=by
 have b:∀r,Ex 100 r->r.length=N->L0=bf 0 r->∃e t,r=p++List.replicate (c-97-p.length) 0++e::t/\1<=e/\e<100/\E=oH e:=λr d g e=>by
  obtain⟨s,v,P,o⟩:=h.rest d g e;obtain⟨j,x,t,k,T,a3,H⟩:=Cs (λx m=>(o x m).1) P.symm;have m:=o x (by rw[k];simp);have S:=congrArg List.length v;rw[k,cq,cq,mW,d5] at S;have w:∀c∈oH x,48<=c/\c<58:=λc i=>by
   unfold oH at i;split at i
   ·cases i
   ·exact(gO '!' m.2).1.all c i
  obtain⟨u,q⟩:=vI C w Q (Kg '!' λy hy=>(o y (by rw[k];simp[hy])).1) H;refine⟨x,t,?_,by lia,m.2,u⟩;rw[v,k,show c-97-p.length=j by lia,eu]
 split
 ·rename_i a;intro r d g e;obtain⟨x,t,u,q,n,I⟩:=b r d g e;rw[I,uM q n] at a;cases a
 ·rename_i x a;obtain⟨u,q,n⟩:=Iv a;have f:bf 0 (p++List.replicate (c-97-p.length) 0++[x])=bf 0 p++(c::E):=by
   rw[tM,tM,xX,fE,cq,mW];show _++(lx _ x++[])=_;rw[fE,uS '!',n,show 97+(0+(p.length+(c-97-p.length)))=c by lia]
  refine⟨?_,?_,?_,?_,.inr ?_,?_⟩
  ·simp only[cq,mW,Lx];lia
  ·intro y hy;simp only[cM,py,bX] at hy;rcases hy with(hy|hy)|hy
   ·exact h.lo y hy
   ·lia
   ·lia
  ·intro y hy;simp only[cM,py,bX] at hy;rcases hy with(hy|hy)|hy
   ·exact h.hi y hy
   ·lia
   ·lia
  ·rw[f,h.is,eu];rfl
  ·rw[f];simp
  ·intro r d g e;obtain⟨y,t,z,A,J,G⟩:=b r d g e;have:y=x:=by
    rw[G,uM A J] at a;exact eg a
   exact⟨t,by rw[z,this,eu,eu,eu];rfl⟩
theorem FP{n:Nat}(h:n<=10): cP (eC (.str "abcdefghij")) bq (ay (aA 0)) (some (.int (n:Int))::σ) s=.ok (.str ⟨(List.range' 97 n).toArray⟩) s:=by
 show(if("abcdefghij" : Str).length<=sizeLine/\(StrLaws.sliceText ("abcdefghij" : Str) none (some (n:Int))).length<=sizeLine then ar.ok (D.str (StrLaws.sliceText ("abcdefghij" : Str) none (some (n:Int)))) s else .stuck)=_
 rw[vi h,if_pos ⟨ag _ '"',ag _ (by
  show(List.range' 97 n).toArray.size<=_;rw[cC,sO]
  lia)⟩]
theorem GW:eT false (.str ⟨#[c]⟩) (.str ⟨(List.range' 97 n).toArray⟩) s=.ok (.bl (decide (97<=c/\c<97+n))) s:=by
 show ar.ok (D.bl (!(Builtin.Str.occurrences (⟨(List.range' 97 n).toArray⟩:Str) ⟨#[c]⟩ 0 _ 1).isEmpty)) s=_;rw[K9]
 congr 2
 rw[kR,jt,jt];exact List.mem_range'_1
theorem HH(h:WP (f σ au) (λx d=>∃a,x=.str a/\WP (g σ d) (λe c=>∃b,∃i:Nat,e=[.str b]/\md a b=some i/\Q (.int (i:Int)) c))):WP (j8 f g σ au) Q:=by
 unfold j8;rw[zr];refine h.mono λx d h=>?_
 obtain⟨a,rfl,h⟩:=h;dsimp only;rw[zr];refine h.mono λe c h=>?_
 obtain⟨b,i,rfl,j,q⟩:=h;dsimp only;rw[j];exact q
theorem BM:∀(p:List Int) (m t:Nat),(p++List.replicate (m+(t+1)) 0).set (p.length+m) e=p++List.replicate m 0++[e]++List.replicate t 0
 |x::p,m,t=>by
  rw[d5,show p.length+1+m=(p.length+m)+1 by lia];show x::(p++List.replicate (m+(t+1)) 0).set (p.length+m) e=_;rw[BM p m t];rfl
 |[],0,t=>by
  rw[iW,kw];rfl
 |[],m+1,t=>by
  have:=BM (e:=e) [] m t;rw[show m+1+(t+1)=(m+(t+1))+1 by lia,kw,kw (n:=m)];show 0::(([]:List Int)++List.replicate (m+(t+1)) 0).set (0+m) e=_;rw[show 0+m=([]:List Int).length+m from rfl,this];rfl
theorem GG(h:97<=c/\c<107):md ("abcdefghij" : Str) ⟨#[c]⟩=some (c-97):=by
 have:c=97\/c=98\/c=99\/c=100\/c=101\/c=102\/c=103\/c=104\/c=105\/c=106:=by lia
 rcases this with rfl|rfl|rfl|rfl|rfl|rfl|rfl|rfl|rfl|rfl<;>decide +kernel
theorem sf{z:Str}{i c:Nat}(a:z.cps.toList[i]?=some c)(d:z.length<=1000):cu (.str z) (.int (i:Int)) s=.ok (.str ⟨#[c]⟩) s:=by
 have b:=(du.mp a).1;have:=dJ z;have g:z.cps[((i:Int)).toNat]?=some c:=by rw[←gj,kT];exact a
 unfold cu;dsimp only;rw[if_pos ⟨by lia,by lia,by lia⟩,g]
theorem Hs{z:Str}{i j:Nat}{lo:DS->aa->ar (Option Int)}(b:f σ au=.ok (.str z) au)(d:lo σ au=.ok (some (i:Int)) au)(c:hi σ au=.ok (some (j:Int)) au)(h:i<=j)(a:j<=z.length)(e:z.length<=1000):cP f lo hi σ au=.ok (.str ⟨((z.cps.toList.drop i).take (j-i)).toArray⟩) au:=by
 unfold cP;rw[b];show((lo σ au).bind _)=_;rw[d];show((hi σ au).bind _)=_;rw[c];show(if z.length<=sizeLine/\(StrLaws.sliceText z (some (i:Int)) (some (j:Int))).length<=sizeLine then ar.ok (D.str (StrLaws.sliceText z (some (i:Int)) (some (j:Int)))) au else .stuck)=_
 rw[StrLaws.sliceText_nat z h a,if_pos ⟨ag _ '!',ag _ (by
  show((z.cps.toList.drop i).take (j-i)).toArray.size<=_;rw[cC,iY,gr,dJ]
  lia)⟩]
theorem ER{z:Str}{E f:List Nat}{a:Nat}(h:Tx z)(t:z.cps.toList.drop (a+1)=E++f)(v:∀c∈E,48<=c/\c<58)(w:∀c l,f=c::l->¬ (48<=c/\c<58))(y:a+1<=z.length)
  (q:QQ (.nx [v0,some (.str z),v2,v3,some (.int (a:Int)),v5,some (.int ((a+1+E.length:Nat):Int)),v7]) au):
  WP (cZ (gE (eB (aU db (aA 6) (aG bT (aB (aA 1) aC)))) (eB (aU (eT false) (aU cu (aA 1) (aA 6)) (eC (.str "0123456789"))))) Dh [v0,some (.str z),v2,v3,some (.int (a:Int)),v5,some (.int ((a + 1:Nat):Int)),v7] au) QQ:=by
 have x:=dJ z;have A:=h.few;have p:=congrArg List.length t;rw[gr,cq,x] at p;have b:∀m,z.cps.toList[a+1+m]?=(E++f)[m]?:=λm=>by rw[←t,lJ]
 refine BA (λj n s=>∃m,m<=E.length/\j=E.length-m/\s=au/\n=[v0,some (.str z),v2,v3,some (.int (a:Int)),v5,some (.int ((a+1+m:Nat):Int)),v7]) (k:=E.length) ⟨0,eJ _,rfl,rfl,rfl⟩ '!' ?_;rintro j n s ⟨m,o,rfl,rfl,rfl⟩;have u:∀{R:Bool->aa->Prop},R (decide (m<E.length)) s->WP (gE (eB (aU db (aA 6) (aG bT (aB (aA 1) aC)))) (eB (aU (eT false) (aU cu (aA 1) (aA 6)) (eC (.str "0123456789")))) [v0,some (.str z),v2,v3,some (.int (a:Int)),v5,some (.int ((a + 1 + m:Nat):Int)),v7] s) R:=by
  intro R r;by_cases lt:m<E.length
  ·have g:z.cps.toList[a+1+m]?=some E[m]:=by rw[b,f7 lt];exact bQ lt
   have i:cu (.str z) (.int ((a+1+m:Nat):Int)) s=.ok (.str ⟨#[E[m]]⟩) s:=sf g '!';have o:=v _ (h8 lt);rw[bH lt] at r;simp only[W,V];refine WP.of (jB h) ?_;simp only[W,V];rw[if_pos '!',i];simp only[W];refine WP.of AM ?_;rw[bH o];exact r
  ·obtain rfl:m=E.length:=by lia
   rw[bM lt] at r;simp only[W,V];refine WP.of (jB h) ?_;simp only[W,V];by_cases c:a+1+E.length<z.length
   ·obtain⟨d,l,e⟩:∃d l,f=d::l:=by
     cases f with
     |nil=>simp at p;lia
     |cons d l=>exact⟨d,l,rfl⟩
    have i:cu (.str z) (.int ((a+1+E.length:Nat):Int)) s=.ok (.str ⟨#[d]⟩) s:=sf (by rw[b,iE (bi _),kQ,e];rfl) '!';rw[if_pos '!',i];simp only[W];refine WP.of AM ?_;rw[bM (w d l e)];exact r
   ·rw[if_neg '!'];exact r
 refine u ?_;by_cases lt:m<E.length
 ·rw[bH lt,if_pos rfl];unfold Dh;simp only[W,V,L];exact⟨E.length-(m+1),by lia,m+1,lt,rfl,trivial,by rw[show((a+1+(m+1):Nat):Int)=((a+1+m:Nat):Int)+1 by lia]⟩
 ·obtain rfl:m=E.length:=by lia
  rw[bM lt,if_neg '"'];exact q
theorem Qs{N:Nat}{R:List D->aa->Prop}(q:R ((List.replicate N (0:Int)).map .int) au):WP (aX (gN 0) aK (eC (.int 0)) (rng 0 N) [none] au) R:=by
 refine jT (λi b c s=>s=au/\b=(List.replicate i (0:Int)).map .int/\∃v,c=[v]) ⟨rfl,rfl,_,rfl⟩ ?_ ?_
 ·rintro i x b c s f ⟨rfl,rfl,v,rfl⟩;refine⟨_,rfl,?_⟩;simp only[W,V];refine⟨trivial,?_,_,rfl⟩;have:=List.replicate_succ' (n:=i) (a:=(0:Int));have d:(List.replicate (i+1) (0:Int)).map D.int=(List.replicate i (0:Int)).map D.int++[D.int 0]:=by rw[this,gW];rfl
  rw[←d]
  rfl
 ·rintro e c s ⟨rfl,rfl,v,rfl⟩;rw[jA];exact q
theorem BR(h:bf 0 r≠[]):z=bz r↔z.cps.toList=bf 0 r:=by
 unfold bz;rw[if_neg h];exact⟨λe=>by rw[e],λe=>jr e⟩
theorem RO{N:Nat}{z:Str}(hN:1<=N)(u:N<=10)(y:Tx z)(k1:∀r,Ex 100 r->r.length=N->z=bz r->∀g,Q (aN r) (au++g))(w:(∀r,Ex 100 r->r.length=N->z≠bz r)->∀g,Q .non (au++g)):WP (zi [.int (N:Int),.str z] au) Q:=by
 have X:cF ("1" : Str):=λc n=>by rw[lW] at n; have:=bX.mp n; lia
 have Y:=dJ z;have zf:=y.few;refine df rfl ?_;simp only[W,V];by_cases e:z="1"
 ·subst e;refine WP.of (kh (neg:=false) rfl rfl (jI X)) ?_;dsimp only[bK];rw[if_pos '"'];refine⟨ag _ '&',WP.of (ir '!') ?_⟩;have:=k1 (List.replicate N 0) ⟨by simp;lia,λx hx=>by rw[(py.mp hx).2];exact Int.le_refl 0,λx hx=>by rw[(py.mp hx).2];decide⟩ '&' (by unfold bz;rw[if_pos (xX N 0)]) [];rw[fE] at this;exact this
 ·refine WP.of (nh y.asc X e) ?_;dsimp only[bK];rw[if_neg '"'];have m:(∀r,Ex 100 r->r.length=N->z.cps.toList≠bf 0 r)->∀r,Ex 100 r->r.length=N->z≠bz r:=λh r hr T G=>by
   by_cases c:bf 0 r=[]
   ·unfold bz at G;rw[if_pos c] at G;exact e G
   ·exact h r hr T ((BR c).mp G)
  refine⟨_,rfl,f9 '!' '!',by rw[jA];exact ag _ '!',?_⟩;rw[kT];refine Qs ?_;refine BA (λj J s=>∃(p:List Int) (L:List Nat) (v5 v6 v7:Option D),j=L.length/\Rd N z.cps.toList p L/\s=au++[.lst ((p++List.replicate (N-p.length) 0).map .int)]/\J=[some (.int (N:Int)),some (.str z),some (.ref au.length),some (.int ((p.length:Int)-1)),some (.int (((bf 0 p).length:Nat):Int)),v5,v6,v7]) (k:=z.cps.toList.length) ⟨[],z.cps.toList,none,none,none,rfl,.init,rfl,rfl⟩ '!' ?_;rintro j J s ⟨p,L,v5,v6,v7,rfl,a,rfl,rfl⟩;have H:=congrArg List.length a.is;rw[cq,Y] at H;simp only[W,V];refine WP.of (jB y) ?_;simp only[W,V];cases L with
  |nil=>
   have is:z.cps.toList=bf 0 p:=by rw[a.is,fE]
   rw[wx] at H;rw[if_neg '!'];have l:(au++[O.lst ((p++List.replicate (N-p.length) 0).map .int)])[au.length]?=some (.lst ((p++List.replicate (N-p.length) 0).map .int)):=by simp
   by_cases pe:p=[]
   ·subst pe;have:¬ ((0:Int)<=((([]:List Int).length:Nat):Int)-1):=by decide
    rw[if_neg this];refine⟨trivial,w (λr hr T C=>?_) _⟩;by_cases c:bf 0 r=[]
    ·unfold bz at C;rw[if_pos c] at C;exact e C
    ·exact c (by rw[←(BR c).mp C,is];rfl)
   ·have ne:bf 0 p≠[]:=a.pos.resolve_left pe;have pp:=qZ.mpr pe;refine⟨trivial,?_⟩;rw[if_pos (show(0:Int)<=(p.length:Int)-1 by lia)];refine WP.of (fm l) ?_;have A:bf 0 (p++List.replicate (N-p.length) 0)=bf 0 p:=by rw[tM,xX,fE]
    have T:=a.len;refine k1 _ ⟨by simp;lia,λx hx=>?_,λx hx=>?_⟩ (by simp;lia) ((BR (by rw[A];exact ne)).mpr (by rw[A];exact is)) _
    ·rcases cM.mp hx with hx|hx
     ·exact a.lo x hx
     ·rw[(py.mp hx).2];exact Int.le_refl 0
    ·rcases cM.mp hx with hx|hx
     ·exact a.hi x hx
     ·rw[(py.mp hx).2];decide
  |cons c L=>
   rw[d5] at H;rw[if_pos '!'];unfold PD;have g:z.cps.toList[(bf 0 p).length]?=some c:=by rw[a.is,iE (bi _),kQ];rfl
   simp only[W,V];have q:cu (.str z) (.int (((bf 0 p).length:Nat):Int)) (au++[O.lst ((p++List.replicate (N-p.length) 0).map .int)])=_:=sf g '!';rw[q];simp only[W];rw[FP u];simp only[W];rw[GW];simp only[W];by_cases n:97<=c/\c<97+N
   ·rw[bH n,if_pos rfl]
    with_reducible refine HH ?_
    simp only[W,V];refine⟨_,rfl,?_⟩;rw[q];simp only[W];refine⟨_,c-97,rfl,GG ⟨by lia,by lia⟩,?_⟩;by_cases hj:((c-97:Nat):Int)<=(p.length:Int)-1
    ·rw[if_pos hj];simp only[W,V,Dd.L];exact⟨trivial,w (m (a.no λh=>by lia)) _⟩
    ·rw[if_neg hj];obtain⟨E,R,A,I,hR⟩:=BG L;subst A;have b:=a.next u '!' n.2 I hR;have hd:z.cps.toList.drop ((bf 0 p).length+1)=E++R:=by
      rw[a.is,←lE,wu];rfl
     rw[cq] at H;rw[show(((bf 0 p).length:Nat):Int)+1=(((bf 0 p).length+1:Nat):Int) from rfl];refine⟨trivial,ER y hd I hR '!' ?_⟩;have l:(au++[O.lst ((p++List.replicate (N-p.length) 0).map .int)])[au.length]?=some (.lst ((p++List.replicate (N-p.length) 0).map .int)):=by simp
     have rl:=a.len;have v:i9 ((p++List.replicate (N-p.length) 0).map D.int).length ((c-97:Nat):Int)=some (c-97):=by
      rw[qC '!' (by simp;lia)];simp
     have t:∀e:Int,List.set (au++[O.lst ((p++List.replicate (N-p.length) 0).map .int)]) au.length (.lst (((p++List.replicate (N-p.length) 0).map D.int).set (c-97) (.int e)))=au++[O.lst (((p++List.replicate (c-97-p.length) (0:Int)++[e])++List.replicate (N-(p++List.replicate (c-97-p.length) (0:Int)++[e]).length) (0:Int)).map D.int)]:=λe=>by
      have h1:=BM (e:=e) p (c-97-p.length) (N-(c-97)-1);rw[show c-97-p.length+(N-(c-97)-1+1)=N-p.length by lia,show p.length+(c-97-p.length)=c-97 by lia] at h1;have P:N-(p++List.replicate (c-97-p.length) 0++[e]).length=N-(c-97)-1:=by simp;lia
      rw[P,←h1,List.map_set];simp
     have o:∀e:Int,Rd N z.cps.toList (p++List.replicate (c-97-p.length) 0++[e]) R->((p++List.replicate (c-97-p.length) 0++[e]).length:Int)-1=((c-97:Nat):Int)/\(bf 0 (p++List.replicate (c-97-p.length) 0++[e])).length=(bf 0 p).length+1+E.length:=λe h=>by
      have P:=congrArg List.length h.is;rw[cq,Y] at P;exact⟨by simp;lia,by lia⟩
     simp only[W,V,M];refine⟨trivial,?_⟩;by_cases cE:E=[]
     ·subst cE;rw[if_neg '&'];have d:kY []=some 1:=rfl;rw[d] at b;obtain⟨S,U⟩:=o 1 b;refine⟨_,_,_,_,rfl,rfl,l,v,?_⟩;simp only[Dd.L];exact⟨R.length,by simp,_,R,some (.int ((c-97:Nat):Int)),some (.int (((bf 0 p).length+1+([]:List Nat).length:Nat):Int)),some (.int 1),rfl,b,t 1,by rw[S,U]⟩
     ·have lp:=qZ.mpr cE;rw[if_pos '!'];have es:=Hs (au:=au++[O.lst ((p++List.replicate (N-p.length) 0).map .int)]) (f:=aA 1) (z:=z) (i:=(bf 0 p).length+1) (j:=(bf 0 p).length+1+E.length) (σ:=[some (.int (N:Int)),some (.str z),some (.ref au.length),some (.int ((p.length:Int)-1)),some (.int (((bf 0 p).length:Nat):Int)),some (.int ((c-97:Nat):Int)),some (.int (((bf 0 p).length+1+E.length:Nat):Int)),some (.int 1)]) (lo:=ay (aU aO (aA 4) (eC (D.int 1)))) (hi:=ay (aA 6)) rfl rfl rfl '!' '!' '!';rw[es];simp only[W];rw[hd,show(bf 0 p).length+1+E.length-((bf 0 p).length+1)=E.length by lia,KY];refine OQ ⟨λc n=>by have:=I c n;lia,by show E.toArray.size<=_;rw[cC];lia⟩ ?_;cases hn:kD ⟨E.toArray⟩ with
      |none=>
       have d:kY E=none:=by unfold kY;rw[if_neg cE,hn]
       rw[d] at b;refine WP.of (show eS false D.non D.non _=.ok (.bl true) _ from rfl) ?_;dsimp only[bK];rw[if_pos rfl];simp only[Dd.L];exact w (m b) _
      |some e=>
       have d:kY E=if e=1 then none else some e:=by unfold kY;rw[if_neg cE,hn]
       refine WP.of (show eS false (D.int e) D.non _=.ok (.bl false) _ from rfl) ?_;dsimp only[bK];rw[if_neg '"'];refine WP.of (show cO false (D.int e) (D.int 1) _=.ok (.bl (decide (e=1))) _ from qq) ?_;dsimp only[bK];by_cases q:e=1
       ·have d:kY E=none:=by rw[d];exact if_pos q
        rw[d] at b;rw[bH q,if_pos rfl];simp only[Dd.L];exact w (m b) _
       ·have d:kY E=some e:=by rw[d];exact if_neg q
        rw[d] at b;rw[bM q,if_neg '"'];obtain⟨S,U⟩:=o e b;refine⟨_,_,_,_,rfl,rfl,l,v,?_⟩;simp only[Dd.L];exact⟨R.length,by simp;lia,_,R,some (.int ((c-97:Nat):Int)),some (.int (((bf 0 p).length+1+E.length:Nat):Int)),some (.int e),rfl,b,t e,by rw[S,U];rfl⟩
   ·rw[bM n,if_neg '"'];refine⟨trivial,?_⟩;rw[if_pos '!'];simp only[W,V,Dd.L];exact w (m (a.no λh=>by lia)) _
noncomputable def Vr(b:Bool) (r:List Int):Prop:=if b then gF 16 r else Cn r
noncomputable def fJ(b:Bool):Str:=if b then "." else ","
noncomputable def eP(b:Bool):List Int:=if b then[1,1,1,1,1,1] else[1,3,7,15]
noncomputable def SU(b:Bool):Nat:=if b then 46 else 44
theorem kN(b:Bool):Sg (fJ b) (SU b):=by
 cases b
 ·exact mj
 ·exact MA
def wsum(b:Bool) (a:List Int):Int:=((List.range a.length).map λk=>a.getD k 0*(eP b).getD k 0).sum
theorem vq{a:List Int}(h:a.length<=6):wsum true a=a.sum:=by
 match a with
 |[]=>rfl
 |[a]=>simp[wsum,eP,kS]
 |[a,b]=>simp[wsum,eP,kS];try lia
 |[a,b,c]=>simp[wsum,eP,kS];try lia
 |[a,b,c,d]=>simp[wsum,eP,kS];try lia
 |[a,b,c,d,e]=>simp[wsum,eP,kS];try lia
 |[a,b,c,d,e,f]=>simp[wsum,eP,kS];try lia
 |_::_::_::_::_::_::_::_=>simp at h
theorem vp{a:List Int}(h:a.length<=4):wsum false a=gM 1 a:=by
 match a with
 |[]=>rfl
 |[a]=>simp[wsum,eP,kS,gM]
 |[a,b]=>simp[wsum,eP,kS,gM];try lia
 |[a,b,c]=>simp[wsum,eP,kS,gM];try lia
 |[a,b,c,d]=>simp[wsum,eP,kS,gM];try lia
 |_::_::_::_::_::_=>simp at h
structure Vl (b:Bool) (r:List Int):Prop where
 len:r.length<=(eP b).length
 lo:∀x∈r,0<=x
 hi:∀x∈r,x<100
 sum:wsum b r<=16
 nz:b=true->0∉r
 last:dF r=true
theorem lv(h:Vr b r):Vl b r:=by
 cases b with
 |true=>
  have h:gF 16 r:=h;have lo:∀x∈r,0<=x:=λx a=>by have:=h.pos x a;lia
  refine⟨h.len,lo,λx a=>?_,by rw[vq h.len];exact h.sum,λ_ c=>?_,?_⟩
  ·have:=lq lo x a;have:=h.sum;lia
  ·have:=h.pos 0 c;lia
  ·rcases BP r with e|⟨l,x,e⟩
   ·rw[e];rfl
   ·rw[e,yH,bM (by have:=h.pos x (by rw[e];simp);lia)];rfl
 |false=>
  have h:Cn r:=h;exact⟨h.len,h.lo,uE h.len h.lo h.wt,by rw[vp h.len];exact h.wt,(λz=>by cases z),h.last⟩
theorem uw(h:Vl b r):Vr b r:=by
 cases b with
 |true=>
  have a:r.length<=6:=h.len
  exact(⟨a,λx c=>by
   have:=h.lo x c;have d:x≠0:=λe=>h.nz rfl (by rw[←e];exact c)
   lia,by rw[←vq a];exact h.sum⟩:gF 16 r)
 |false=>
  have a:r.length<=4:=h.len;exact(⟨a,h.lo,by rw[←vp a];exact h.sum,h.last⟩:Cn r)
theorem fZ(h:Vr b r):Nm r/\r≠[0]:=by
 have v:=lv h;refine⟨⟨?_,v.lo,v.hi⟩,λe=>?_⟩
 ·have:=v.len;have a:(eP b).length<=6:=by cases b<;>decide
  lia
 ·have:=v.last;rw[e] at this;cases this
def i4(z:Str):Option Int:=if z="0" then some 0 else kD z
theorem LP:tx 0="0":=by decide +kernel
theorem Km(h:i4 z=some i):0<=i/\i<100/\z=tx i:=by
 unfold i4 at h;split at h
 ·rename_i e;cases h;exact⟨by lia,by lia,by rw[e,LP]⟩
 ·obtain⟨a,b,c⟩:=sr h;exact⟨by lia,b,c⟩
theorem GR(b:0<=i)(a:i<100):i4 (tx i)=some i:=by
 unfold i4;by_cases c:i=0
 ·rw[c,LP,if_pos rfl]
 ·rw[if_neg (λe=>c (qK b a '!' '!' (by rw[e,LP]))),nN '!' a]
theorem Od:∀{a r:List Int},(∀x∈a,0<=x)->(∀x∈a,x<100)->(∀x∈r,0<=x)->(∀x∈r,x<100)->a.map tx=r.map tx->a=r
 |[],[],_,_,_,_,_=>rfl
 |[],y::r,_,_,_,_,h=>by cases h
 |x::a,[],_,_,_,_,h=>by cases h
 |x::a,y::r,h1,h2,h3,h4,h=>by
  injection h with d c
  rw[qK (h1 x '&') (h2 x '&') (h3 y '&') (h4 y '&') d,Od (λz b=>h1 z (by simp[b])) (λz b=>h2 z (by simp[b])) (λz b=>h3 z (by simp[b])) (λz b=>h4 z (by simp[b])) c]
theorem Ql(h:Nm r)(a:r≠[]):Txt.split (bJ (fJ b) r) (fJ b)=r.map tx:=by
 have c:=kN b;unfold bJ;rw[if_neg a];refine Cq c.list ?_ (by simpa using a) ?_
 ·cases b<;>decide +kernel
 ·intro t e f;obtain⟨i,d,rfl⟩:=de.mp e;have:=(gO (h.lo i d) (h.hi i d)).1.all _ f;have:=c.no;lia
theorem Iy{r:List Int}(h:au[k]?=some (.lst (r.map .int))):gw neg (.int x) (.ref k) au=.ok (.bl (if neg then !decide (x∈r) else decide (x∈r))) au:=by
 have c:dataOf au (.ref k)=some (.list (dI r)):=by
  unfold dataOf now;rw[pY h];dsimp only;rw[bZ];have:∀r:List Int,bA (r.map .int)=some (dI r):=λr=>by
   induction r with
   |nil=>rfl
   |cons a r ih=>rw[dr,bA,ih];rfl
  rw[this]
  rfl
 unfold gw;rw[c,show dataOf au (.int x)=some (.int x) from rfl];dsimp only;obtain⟨f,b⟩:=tF r;rw[if_pos ⟨rfl,by show(PyData.canLayAll0 (dI r)&&decide (PyData.depthAll (dI r)+1<=64))=true;rw[f,b];rfl⟩];have e:((dI r).any λy=>PyData.eqv y (.int x))=decide (x∈r):=by
  unfold dI;rw[List.any_map,kR,K5,decide_eq_true_iff];constructor
  ·rintro⟨y,d,h⟩;have h:(y==x)=true:=h;rw[←eq_of_beq h];exact d
  ·intro h;exact⟨x,h,show(x==x)=true by simp⟩
 rw[e]
theorem KU{a:List Int}{R:List D->aa->Prop}(y:a.length<=(eP b).length)(lo:∀x∈a,0<=x)(o:∀x∈a,x<100)(h:au[n]?=some (.lst (a.map .int)))(q:R (((List.range a.length).map λk=>a.getD k 0*(eP b).getD k 0).map .int) au):
  WP (aX (gN 0) aK (aU cL (aU cx (aA 1) (aA 0)) (aU cx (aA 2) (aA 0))) (rng 0 a.length) [none,some (.ref n),some (.lst ((eP b).map .int))] au) R:=by
 refine jT (λi e f s=>s=au/\i<=a.length/\e=((List.range i).map λk=>a.getD k 0*(eP b).getD k 0).map .int/\∃v,f=[v,some (.ref n),some (.lst ((eP b).map .int))]) ⟨rfl,eJ _,rfl,_,rfl⟩ ?_ ?_
 ·rintro i x e f s p ⟨rfl,l,rfl,v,rfl⟩;obtain⟨c,rfl⟩:=p6 p;refine⟨_,rfl,?_⟩;rw[sK];simp only[W,V];have g:a.getD i 0=a[i]:=by rw[ie,bQ c];rfl
  refine iR (xs:=a.map .int) (d:=.int (a.getD i 0)) (qe h) (si (by rw[dm,bQ c,g];rfl)) ?_;refine rA (xs:=eP b) '!' ?_;have u:=lo _ (h8 c);have w:=o _ (h8 c);have t:0<=(eP b).getD i 0/\(eP b).getD i 0<=15:=by
   have:∀x∈eP b,0<=x/\x<=15:=by cases b<;>decide
   have j:i<(eP b).length:=by lia
   rw[ie,bQ j];exact this _ (h8 j)
  rw[g];have m:a.getD i 0*(eP b).getD i 0=a[i]*(eP b).getD i 0:=by rw[g]
  simp only[W];refine⟨.inr ⟨by lia,by lia⟩,trivial,c,?_,_,rfl⟩;rw[kS,gW,gW,←m]
  rfl
 ·rintro r f s ⟨rfl,_,rfl,v,rfl⟩;rw[jA];exact q
theorem GS{R:Fl->aa->Prop}(h:Tx z)(q:R (.nx [v0,v1,v2,v3,some (.str z),some (oi (i4 z))]) au):WP (aH 5 (fO (eB (aU dE (aA 4) (eC (.str "0")))) (eC (.int 0)) (aG qx (aB (aA 4) aC))) [v0,v1,v2,v3,some (.str z),v5] au) R:=by
 have b:cF ("0" : Str):=λc a=>by rw[dc] at a; have:=bX.mp a; lia
 unfold i4 at q;simp only[W,V];by_cases c:z="0"
 ·rw[if_pos c] at q;subst c;refine WP.of (kh (neg:=false) rfl rfl (jI b)) ?_;dsimp only[bK];rw[if_pos '"'];exact q
 ·rw[if_neg c] at q;refine WP.of (nh h.asc b c) ?_;dsimp only[bK];rw[if_neg '"'];exact OQ h q
theorem Oy(T:Tx z)(k1:∀r,Vr b r->z=bJ (fJ b) r->∀g,Q (aN r) (au++g))(k2:(∀r,Vr b r->z≠bJ (fJ b) r)->∀g,Q .non (au++g)):WP (yX [.str z,.str (fJ b),.lst ((eP b).map .int)] au) Q:=by
 have ad:cF ("-" : Str):=λc E=>by rw[mi] at E; have:=bX.mp E; lia
 have hs:=kN b;refine df rfl ?_;simp only[W,V];by_cases e:z="-"
 ·subst e;refine WP.of (kh (neg:=false) rfl rfl (jI ad)) ?_;dsimp only[bK];rw[if_pos '"'];have v0:Vr b []:=uw ⟨eJ _,by simp,by simp,by show(0:Int)<=16;decide,λ_=>by simp,rfl⟩;have:=k1 [] v0 rfl [];rw[fE] at this;exact⟨ag _ '&',this⟩
 ·refine WP.of (nh T.asc ad e) ?_;dsimp only[bK];rw[if_neg '"'];have H:=rZ (sep:=fJ b) (by rw[hs.len];lia) T;have q:∀r,Vr b r->z=bJ (fJ b) r->r≠[]/\Txt.split z (fJ b)=r.map tx:=λr k C=>by
   have G:r≠[]:=λy=>e (by rw[C,y];rfl)
   exact⟨G,by rw[C];exact Ql (fZ k).1 G⟩
  obtain⟨ts,n⟩:∃ts,Txt.split z (fJ b)=ts:=⟨_,rfl⟩
  rw[n] at H q;have tf:=T.few;have pf:=H.few;refine⟨ag _ '&',?_⟩;refine sC ?_;simp only[W,V];refine⟨_,rfl,_,rfl,by rw[hs.len];rfl,ag _ '!',by rw[n];exact ag _ '!',_,rfl,?_⟩;rw[n];have wl:(eP b).length<=6:=by cases b<;>decide
  refine kf (λi X s=>∃(a:List Int) (S Y:Option D),i<=ts.length/\a.length=i/\a.length<=(eP b).length/\(∀x∈a,0<=x)/\(∀x∈a,x<100)/\ts.take i=a.map tx/\X=[some (.str z),some (.str (fJ b)),some (.lst ((eP b).map .int)),some (.ref au.length),S,Y]/\s=au++[.lst (a.map .int)]) ⟨[],none,none,eJ _,rfl,eJ _,by simp,by simp,rfl,rfl,rfl⟩ ?_ ?_
  ·rintro i x X s u ⟨a,S,Y,hi,J,aw,lo,o,A,rfl,rfl⟩;rw[dm,fH] at u;obtain⟨t,P,rfl⟩:=u;have tt:=H.tx t (fj P);have lt:=(du.mp P).1;refine⟨_,rfl,?_⟩;unfold Pu;have j:(au++[O.lst (a.map D.int)])[au.length]?=some (.lst (a.map .int)):=by simp
   refine gI (R:=λfl s'=>fl=.nx [some (.str z),some (.str (fJ b)),some (.lst ((eP b).map .int)),some (.ref au.length),some (.str t),some (oi (i4 t))]/\s'=au++[.lst (a.map .int)]) ?_ ?_
   ·exact GS tt ⟨rfl,rfl⟩
   rintro _ _ ⟨rfl,rfl⟩;show WP _ _;have f:(∀r,Vr b r->Txt.split z (fJ b)=r.map tx->False)->∀r,Vr b r->z≠bJ (fJ b) r:=λh r k C=>h r k (by rw[n];exact(q r k C).2)
   have U:bE [.ref au.length] (au++[O.lst (a.map .int)])=.ok (.int (a.length:Int)) (au++[O.lst (a.map .int)]):=by
    unfold bE bI dY;simp[j]
   cases hn:i4 t with
   |none=>
    simp only[W,V,M];refine WP.of (show eS false D.non D.non _=.ok (.bl true) _ from rfl) ?_;dsimp only[bK];rw[if_pos rfl];simp only[Dd.L];refine k2 (f λr k p=>?_) _;rw[n] at p;have g:(r.map tx)[i]?=some t:=by rw[←p];exact P
    rw[dm,fH] at g;obtain⟨x,u,rfl⟩:=g;have v:=lv k;have hm:=fj u;rw[GR (v.lo x hm) (v.hi x hm)] at hn;cases hn
   |some x=>
    obtain⟨x0,x1,rfl⟩:=Km hn;simp only[W,V,M];refine WP.of (show eS false (D.int x) D.non _=.ok (.bl false) _ from rfl) ?_;dsimp only[bK];rw[if_neg '"'];refine WP.of U ?_;simp only[W];by_cases c:a.length=(eP b).length
    ·rw[bH (by rw[ax];lia),if_pos rfl];simp only[Dd.L];refine k2 (f λr k p=>?_) _;rw[n] at p;have v:=(lv k).len;have:=congrArg List.length p;rw[ax] at this;lia
    ·rw[bM (by rw[ax];lia),if_neg '"'];refine⟨_,_,rfl,j,_,_,rfl,j,by rw[ax,hY];lia,?_⟩;simp only[Dd.L];refine⟨a++[x],some (.str (tx x)),some (.int x),lt,by simp[J],by simp;lia,IH lo x0,λy hy=>?_,?_,rfl,?_⟩
     ·rcases cM.mp hy with w|w
      ·exact o y w
      ·rw[bX.mp w];exact x1
     ·rw[mK P,A,gW];rfl
     ·rw[gW];simp[oi]
  ·rintro X s ⟨a,S,Y,hi,J,aw,lo,o,A,rfl,rfl⟩;rw[ax] at J A;rw[mR] at A;have G:a≠[]:=λy=>H.ne (by rw[A,y];rfl)
   have C:z=bJ (fJ b) a:=by
    unfold bJ;rw[if_neg G,←A];exact H.back.symm
   have j:(au++[O.lst (a.map D.int)])[au.length]?=some (.lst (a.map .int)):=by simp
   have U:bE [.ref au.length] (au++[O.lst (a.map .int)])=.ok (.int (a.length:Int)) (au++[O.lst (a.map .int)]):=by
    unfold bE bI dY;simp[j]
   have same:∀r,Vr b r->z=bJ (fJ b) r->r=a:=λr k p=>by
    have h:=(q r k p).2;rw[A] at h;have v:=lv k;exact(Od lo o v.lo v.hi h).symm
   have f:¬ Vl b a->∀g,Q .non (au++g):=λh=>k2 λr k p=>h (by rw[←same r k p];exact lv k)
   simp only[W,V,M,Dd.N];refine WP.of U ⟨_,rfl,f9 '!' '!',by rw[jA];exact ag _ '!',?_⟩;rw[kT];refine KU aw lo o j ⟨_,mL _,?_⟩;show(if 16<wsum b a then _ else _);by_cases c1:16<wsum b a
   ·rw[if_pos c1];exact f (λv=>by have:=v.sum;lia) _
   rw[if_neg c1];have I:(b=true->0∉a)->WP (cx (.ref au.length) (.int (-1)) (au++[O.lst (a.map .int)])) (λx m=>WP (dE x (D.int 0) m) (bK λb m=>if b=true then Q D.non m else WP (aY [D.ref (List.length au)] m) λv m=>Q v m)):=λnz=>by
    obtain⟨l,x,ea⟩:=(BP a).resolve_left G;have J:L2.atI (a.map D.int) (-1)=some (.int x):=by rw[ea,gW];exact A8 _ _
    refine iR (xs:=a.map .int) (qe j) J ?_;refine WP.of (show cO false (D.int x) (D.int 0) _=.ok (.bl (decide (x=0))) _ from qq) ?_;dsimp only[bK];have lb:dF a=!decide (x=0):=by rw[ea,yH]
    by_cases c2:x=0
    ·rw[bH c2,if_pos rfl];exact f (λv=>by have:=v.last;rw[lb,bH c2] at this;cases this) _
    ·rw[bM c2,if_neg '"'];refine WP.of (fm j) ?_;exact k1 a (uw ⟨aw,lo,o,by lia,nz,by rw[lb,bM c2];rfl⟩) C _
   cases b with
   |true=>
    refine WP.of (kh (neg:=false) (d:=.str ("." : Str)) rfl rfl (jI (λc E=>by
     have:c=46:=by rw[show("." : Str).cps.toList=[46] by decide +kernel] at E; exact bX.mp E
     lia))) ?_
    dsimp only[bK];rw[if_pos '"'];refine WP.of (Iy j) ?_;dsimp only[bK];by_cases c3:(0:Int)∈a
    ·rw[bH c3,if_pos '"'];exact f (λv=>v.nz rfl c3) _
    ·rw[bM c3,if_neg '"'];exact I λ_=>c3
   |false=>
    have a1:∀{c:Nat}{z:Str},c<128->z.cps.toList=[c]->cF z:=λh e x u=>by rw[e] at u;rw[bX.mp u];exact h
    refine WP.of (nh (neg:=false) (a:=",") (b:=".") (a1 (c:=44) '"' (by decide +kernel)) (a1 (c:=46) '"' (by decide +kernel)) (by decide +kernel)) ?_
    dsimp only[bK];rw[if_neg '"'];exact I λz=>by cases z
def Vt(s N:Nat) (r:List Int):Prop:=match s with
 |0=>Ex 100 r/\r.length=N
 |1=>Vr true r
 |_=>Vr false r
def fV(s:Nat):List Int->Str:=match s with
 |0=>bz
 |1=>bJ "."
 |_=>bJ ","
theorem nJ{N:Nat}(h:Vt s N r):Pc (fV s r):=by
 match s with
 |0=>
  have h:Ex 100 r/\r.length=N:=h;exact AQ ⟨h.1.len,h.1.lo,λx a=>by have:=h.1.hi x a;lia⟩
 |1=>exact nP (kN true) '"' (fZ (b:=true) h).1 (fZ (b:=true) h).2
 |s+2=>exact nP (kN false) '"' (fZ (b:=false) h).1 (fZ (b:=false) h).2
theorem D5{N:Nat}(h:Vt s N r):r.length<=10:=by
 match s with
 |0=>exact h.1.len
 |1=>exact(fZ (b:=true) h).1.len
 |s+2=>exact(fZ (b:=false) h).1.len
theorem yq(h:aN a=aN b):a=b:=by
 have:a.map D.int=b.map D.int:=by injection h
 exact List.map_inj_right (λx y e=>by injection e) |>.mp this
theorem qJ{d:Type}{r:ar d}{a b:d}(c:WP r λv _=>v=a)(e:WP r λv _=>v=b):a=b:=by
 cases r with
 |ok v s=>exact(show v=a from c).symm.trans e
 |exc _ _=>exact c.elim
 |stuck=>exact c.elim
theorem we{N:Nat}(f:Vt s N a)(c:Vt s N b)(e:fV s a=fV s b):a=b:=by
 match s with
 |0=>
  have f:Ex 100 a/\a.length=N:=f;have c:Ex 100 b/\b.length=N:=c;have d:=C2 (au:=[]) (Q:=λv _=>v=aN a) f.1 λg=>rfl
  have h:=C2 (au:=[]) (Q:=λv _=>v=aN b) c.1 λg=>rfl
  rw[f.2,show bz a=bz b from e] at d;rw[c.2] at h;exact yq (qJ d h)
 |1=>
  have d:=sI (au:=[]) (Q:=λv _=>v=aN a) (kN true) '"' (fZ (b:=true) f).1 (fZ (b:=true) f).2 rfl;have h:=sI (au:=[]) (Q:=λv _=>v=aN b) (kN true) '"' (fZ (b:=true) c).1 (fZ (b:=true) c).2 rfl;rw[show bJ (fJ true) a=bJ (fJ true) b from e] at d;exact yq (qJ d h)
 |s+2=>
  have d:=sI (au:=[]) (Q:=λv _=>v=aN a) (kN false) '"' (fZ (b:=false) f).1 (fZ (b:=false) f).2 rfl;have h:=sI (au:=[]) (Q:=λv _=>v=aN b) (kN false) '"' (fZ (b:=false) c).1 (fZ (b:=false) c).2 rfl;rw[show bJ (fJ false) a=bJ (fJ false) b from e] at d;exact yq (qJ d h)
theorem BS{N:Nat}:∀{a b:List (List Int)},(∀r∈a,Vt s N r)->(∀r∈b,Vt s N r)->a.map (fV s)=b.map (fV s)->a=b
 |[],[],_,_,_=>rfl
 |[],y::r,_,_,h=>by cases h
 |x::a,[],_,_,h=>by cases h
 |x::a,y::b,h1,h2,h=>by
  injection h with e d
  rw[we (h1 x '&') (h2 y '&') e,BS (λz c=>h1 z (by simp[c])) (λz c=>h2 z (by simp[c])) d]
structure Wr (s N:Nat) (t:Str) (l:List (List Int)):Prop where
 ok:∀r∈l,Vt s N r
 rise:fQ l
 is:t=dk (l.map (fV s))
theorem Wr.pcs{N:Nat}(h:Wr s N t l):∀p∈l.map (fV s),Pc p:=λp a=>by
 obtain⟨r,b,rfl⟩:=de.mp a;exact nJ (h.ok r b)
theorem Wr.split{N:Nat}(h:Wr s N t l)(c:t≠"0"):l≠[]/\Txt.split t " + "=l.map (fV s):=by
 have a:l≠[]:=λe=>c (by rw[h.is,e];rfl)
 refine⟨a,?_⟩;rw[h.is];unfold dk;rw[if_neg (by simpa using a)];exact Cq (s0:=32) (tl:=[43,32]) j6 (by decide +kernel) (by simpa using a) λp b d=>((h.pcs p b).no _ d).1 rfl
def Po(s N:Nat) (t:Str) (o:Option (List Int)):Prop:=match o with
 |some r=>Vt s N r/\t=fV s r
 |none=>∀r,Vt s N r->t≠fV s r
def oD:Option (List Int)->D
 |some r=>aN r
 |none=>.non
def oP:Option (List Int)->PyData
 |some r=>cQ r
 |none=>.none
theorem Gh(os:List (Option (List Int))):bA (os.map oD)=some (os.map oP):=by
 induction os with
 |nil=>rfl
 |cons o os ih=>
  rw[dr,bA,ih];cases o with
  |none=>rfl
  |some r=>
   show(bZ (aN r)).bind _=_;rw[bZ,BE];rfl
theorem qE:∀a:List (Option (List Int)),PyData.canLayAll0 (a.map oP)=true/\PyData.depthAll (a.map oP)<=1
 |[]=>⟨rfl,eJ _⟩
 |none::a=>by
  obtain⟨b,c⟩:=qE a;refine⟨?_,?_⟩
  ·show(true&&PyData.canLayAll0 (a.map oP))=true;rw[b];rfl
  ·show max 0 (PyData.depthAll (a.map oP))<=1;lia
 |some x::a=>by
  obtain⟨b,c⟩:=qE a;obtain⟨d,e⟩:=tF x;refine⟨?_,?_⟩
  ·show(PyData.canLayAll0 (dI x)&&PyData.canLayAll0 (a.map oP))=true;rw[b,d];rfl
  ·show max (PyData.depthAll (dI x)+1) (PyData.depthAll (a.map oP))<=1;rw[e];lia
theorem GH{os:List (Option (List Int))}(h:au[k]?=some (.lst (os.map oD))):gw false .non (.ref k) au=.ok (.bl (decide (none∈os))) au:=by
 have a:dataOf au (.ref k)=some (.list (os.map oP)):=by
  unfold dataOf now;rw[pY h];dsimp only;rw[bZ,Gh]
  rfl
 unfold gw;rw[a,show dataOf au D.non=some .none from rfl];dsimp only;obtain⟨c,d⟩:=qE os;rw[if_pos ⟨rfl,by show(PyData.canLayAll0 (os.map oP)&&decide (PyData.depthAll (os.map oP)+1<=64))=true;rw[c,bH '!'];rfl⟩];have e:((os.map oP).any λy=>PyData.eqv y .none)=decide (none∈os):=by
  rw[List.any_map,kR,K5,decide_eq_true_iff];constructor
  ·rintro⟨y,b,h⟩;cases y with
   |none=>exact b
   |some r=>cases(show false=true from h)
  ·intro h;exact⟨none,h,rfl⟩
 rw[if_neg '"',e]
theorem Bh: cu (.str ".,") (.int (if b then 0 else 1)) au=.ok (.str (fJ b)) au:=by
 cases b
 ·exact sf (i:=1) (c:=44) (z:=".,") (by decide +kernel) (by decide +kernel)
 ·exact sf (i:=0) (c:=46) (z:=".,") (by decide +kernel) (by decide +kernel)
theorem HG{N:Nat}{os:List (Option (List Int))}{R:Fl->aa->Prop}(v:s<3)(w:1<=N)(i:N<=10)(j:Tx t)(c:au[m]?=some (.lst (os.map oD)))(u:os.length<=1000)(k:∀o g,Po s N t o->R (.nx [some (.int (s:Int)),some (.int (N:Int)),v2,some (.ref m),some (.str t),v5]) ((au++g).set m (.lst ((os++[o]).map oD)))):
  WP (C6 [some (.int (s:Int)),some (.int (N:Int)),v2,some (.ref m),some (.str t),v5] au) R:=by
 have p:=(du.mp c).1;have q:∀g,(au++g)[m]?=some (.lst (os.map oD)):=λg=>by rw[f7 p];exact c
 have a:∀(o:Option (List Int)) (g:aa),Po s N t o->∃y l,[oD o]=[y]/\(au++g)[m]?=some (.lst l)/\l.length<sizeLine/\R (.nx [some (.int (s:Int)),some (.int (N:Int)),v2,some (.ref m),some (.str t),v5]) ((au++g).set m (.lst (l++[y]))):=λo g x=>⟨_,_,rfl,q g,by rw[ax,hY];lia,by
  have:=k o g x;rw[gW] at this
  exact this⟩
 unfold C6;simp only[W,V,M]
 match s,v with
 |0,_=>
  rw[if_pos (by rfl)];refine⟨_,_,rfl,c,?_⟩;refine RO w i j (λr f u e g=>?_) (λh g=>?_)
  ·exact a (some r) g ⟨⟨f,u⟩,e⟩
  ·exact a none g λr f=>h r f.1 f.2
 |1,_=>
  rw[if_neg '"'];refine⟨_,_,rfl,c,?_⟩;have n:=Bh (b:=true) (au:=au);rw[show((1:Nat):Int)-1=(if true then 0 else 1) from rfl,n];simp only[W];refine⟨trivial,ag _ '&',ag _ '&',ag _ '&',trivial,iR (d:=.lst [.int 1,.int 1,.int 1,.int 1,.int 1,.int 1]) rfl rfl ?_⟩;refine Oy (b:=true) j (λr f e g=>?_) (λh g=>?_)
  ·exact a (some r) g ⟨f,e⟩
  ·exact a none g h
 |2,_=>
  rw[if_neg '"'];refine⟨_,_,rfl,c,?_⟩;have n:=Bh (b:=false) (au:=au);rw[show((2:Nat):Int)-1=(if false then 0 else 1) from rfl,n];simp only[W];refine⟨trivial,ag _ '&',ag _ '&',ag _ '&',trivial,iR (d:=.lst [.int 1,.int 3,.int 7,.int 15]) rfl rfl ?_⟩;refine Oy (b:=false) j (λr f e g=>?_) (λh g=>?_)
  ·exact a (some r) g ⟨f,e⟩
  ·exact a none g h
theorem J3{R:List D->aa->Prop}(b:au[m]?=some (.lst (aL l)))(q:R (((List.range (l.length-1)).filter λi=>!HT.lexLt (l.getD i []) (l.getD (i+1) [])).map λi=>D.int (((i+1:Nat):Int))) au):
  WP (aX (gN 0) (dC (eB (aU db (aU cx (aA 1) (aU fN (aA 0) (eC (.int 1)))) (aU cx (aA 1) (aA 0))))) (aA 0) (rng 1 ((l.length:Int)-1).toNat) [none,some (.ref m)] au) R:=by
 have e:rng 1 ((l.length:Int)-1).toNat=(List.range (l.length-1)).map λi=>D.int (((i+1:Nat):Int)):=by
  unfold rng;rw[show((l.length:Int)-1).toNat=l.length-1 by lia];refine zX λi _=>?_
  congr 1
  lia
 rw[e];have a:∀i:Nat,i<l.length->cx (.ref m) (.int i) au=.ok (aN (l.getD i [])) au:=λi h=>by
  refine ni (xs:=aL l) (qe b) (si ?_);rw[dm,bQ h,ie,bQ h]
  rfl
 refine jp (as:=List.range (l.length-1)) (λc=>∃v,c=[v,some (.ref m)]) (λi=>!HT.lexLt (l.getD i []) (l.getD (i+1) [])) (λi=>D.int (((i+1:Nat):Int))) (λi=>D.int (((i+1:Nat):Int))) ⟨_,rfl⟩ ?_ q;rintro i d c ⟨v,rfl⟩;have d:=gq.mp d;refine⟨_,rfl,⟨_,rfl⟩,?_,λ_=>by simp only[W,V,hV]⟩
 try simp only[W,V]
 refine⟨trivial,?_⟩;rw[show(((i+1:Nat):Int)-1)=((i:Nat):Int) by lia];refine WP.of (a i '!') (WP.of (a (i+1) '!') (WP.of vR ?_));simp only[W,V,hV]
theorem Og{N:Nat}(hs:s<3)(hN:1<=N)(C:N<=10)(J:Tx t)(S:∀l,Wr s N t l->∀g,Q (aM l) (au++g))(k2:(∀l,¬ Wr s N t l)->∀g,Q .non (au++g)):WP (ud [.int (s:Int),.int (N:Int),.str t] au) Q:=by
 have T:cF ("0" : Str):=λc P=>by rw[dc] at P; have:=bX.mp P; lia
 refine df rfl ?_;simp only[W,V];refine WP.of (show av [.str t,.ty "str"] au=.ok (.bl true) au from rfl) ⟨true,rfl,?_⟩
 rw[if_neg '"'];by_cases e:t="0"
 ·subst e;refine WP.of (kh (neg:=false) rfl rfl (jI T)) ?_;dsimp only[bK];rw[if_pos '"'];have:=S [] ⟨by simp,by simp[fQ],rfl⟩ [];rw[fE] at this;exact⟨ag _ '&',this⟩
 ·refine WP.of (nh J.asc T e) ?_;dsimp only[bK];rw[if_neg '"'];have w:=rZ (sep:=" + ") (by decide +kernel) J
  have k:∀ l,Wr s N t l->Txt.split t " + "=l.map (fV s):=λl h=>(h.split e).2
  obtain⟨ts,n⟩:∃ ts,Txt.split t " + "=ts:=⟨_,rfl⟩
  rw[n] at w k;have tf:=J.few;have pf:=w.few;refine⟨ag _ '&',?_⟩;refine sC ?_;simp only[W,V];refine⟨_,rfl,_,rfl,by decide +kernel,ag _ '!',by rw[n];exact ag _ '!',_,rfl,?_⟩;rw[n];refine kf (λi G H=>∃(os:List (Option (List Int))) (A I:Option D) (g:aa),os.length=i/\i<=ts.length/\(∀(j:Nat) (p:Str) (o:Option (List Int)),ts[j]?=some p->os[j]?=some o->Po s N p o)/\G=[some (.int (s:Int)),some (.int (N:Int)),some (.str t),some (.ref au.length),A,I]/\H=au++[O.lst (os.map oD)]++g) ⟨[],none,none,[],rfl,eJ _,(λj p o _ h=>by rw[zO] at h;cases h),rfl,by rw[fE];rfl⟩ ?_ ?_
  ·rintro i x G H Y ⟨os,A,I,g,q,X,u,rfl,rfl⟩;rw[dm,fH] at Y;obtain⟨p,f,rfl⟩:=Y;have tp:=w.tx p (fj f);have lt:=(du.mp f).1;refine⟨_,rfl,?_⟩;refine HG (m:=au.length) (os:=os) hs hN C tp '&' '!' λo g2 ho=>?_
   simp only[Dd.L];refine⟨os++[o],_,_,g++g2,by simp[q],lt,λj p' o' z y=>?_,rfl,?_⟩
   ·rcases gU j os.length with h|h
    ·rw[f7 h] at y;exact u j p' o' z y
    ·have d:j=os.length:=by
      have:=(du.mp y).1;simp at this;lia
     subst d;rw[q,f] at z;rw[iE (bi _),kQ] at y;cases z;cases y;exact ho
   ·simp
  ·rintro G H ⟨os,A,I,g,q,X,u,rfl,rfl⟩;rw[ax] at q;have a:(au++[O.lst (os.map oD)]++g)[au.length]?=some (.lst (os.map oD)):=by simp
   simp only[W,V];refine WP.of (GH a) ?_;dsimp only[bK];by_cases c:none∈os
   ·rw[bH c,if_pos rfl];rw[eu];refine k2 (λl h=>?_) _;obtain⟨j,d,E⟩:=kx c;have b:j<ts.length:=by lia
    have z:=u j ts[j] none (bQ b) (by rw[bQ d,E]);have U:=k l h;have v:j<l.length:=by have:=congrArg List.length U;rw[ax] at this;lia
    refine z l[j] (h.ok _ (h8 v)) ?_;have:ts[j]?=(l.map (fV s))[j]?:=by rw[U]
    rw[bQ b,dm,bQ v] at this;exact eg this
   ·rw[bM c,if_neg '"'];obtain⟨as,ea⟩:∃as:List (List Int),os=as.map some:=by
     refine⟨os.filterMap id,?_⟩;clear u a q X
     induction os with
     |nil=>rfl
     |cons o os ih=>
      cases o with
      |none=>exact absurd '&' c
      |some r=>
       have:=ih (λh=>c (by simp[h]));rw[zY,id];dsimp only;rw[dr,←this]
    subst ea;have eD:((as.map some).map oD)=aL as:=by rw[hZ];rfl
    rw[eD] at a ⊢;rw[ax] at q;have R:∀r∈as,Vt s N r:=λr hr=>by
     obtain⟨j,d,E⟩:=kx hr;have b:j<ts.length:=by lia
     exact(u j ts[j] (some r) (bQ b) (by rw[dm,bQ d,E];rfl)).1
    have et:ts=as.map (fV s):=by
     refine wC λj=>?_
     rcases gU j ts.length with h|h
     ·have d:j<as.length:=by lia
      rw[dm,bQ h,bQ d];exact congrArg some (u j ts[j] (some as[j]) (bQ h) (by rw[dm,bQ d];rfl)).2
     ·rw[ot h,ot (by rw[ax];lia)]
    have el:bE [.ref au.length] (au++[O.lst (aL as)]++g)=.ok (.int (as.length:Int)) (au++[O.lst (aL as)]++g):=by
     unfold bE bI dY;simp[a]
    refine WP.of el ⟨1,(as.length:Int),rfl,f9 '!' '!',f9 '!' '!',by rw[jA];exact ag _ '!',?_⟩;refine J3 a ?_;have e:=J5 as
    try simp only[W,V]
    rw[ax];have e3:decide ((((List.range (as.length-1)).filter λi=>!HT.lexLt (as.getD i []) (as.getD (i+1) [])).length:Int)=0)=bC as:=by
     rw[←e];exact decide_eq_decide.mpr '!'
    by_cases rb:bC as=true
    ·rw[if_pos (gX (e3.trans rb))];refine WP.of (fm a) ?_;rw[eu];refine S as ⟨R,(mJ as).mp rb,?_⟩ _;unfold dk;rw[←et,if_neg w.ne];exact w.back.symm
    ·rw[if_neg (λh=>rb (by rw[←e3,bH h]))];rw[eu];refine k2 (λl h=>rb ?_) _;have:=k l h;rw[et] at this;rw[BS R h.ok this];exact(mJ l).mpr h.rise
inductive Sn:D->Prop
 |non:Sn .non
 |int {i:Int}(h0:0<=i) (h1:i<100):Sn (.int i)
inductive Sd:D->Prop
 |non:Sd .non
 |tup {ds:List D}(h:∀d∈ds,Sn d) (hl:ds.length<=996):Sd (.tup ds)
theorem Sn.pl(h:Sn d):Pl 1000 d:=by cases h;exact .non;exact .int _
theorem Sd.pl(h:Sd d):Pl 1000 d:=by
 cases h with
 |non=>exact .non
 |tup h hl=>exact .tup (λd a=>(h d a).pl) '!'
theorem Sd.row(h:Sd (aN r)):∀x∈r,x<100:=λx a=>by
 cases h with
 |tup h hl=>
  have:=h (.int x) (de.mpr ⟨x,a,rfl⟩);cases this with
  |int h0 h1=>exact h1
theorem Iw:(((List.range 10).all λa=>decide (eA ⟨#[48+a]⟩=some a))&&((List.range 10).all λa=>(List.range 10).all λb=>decide (eA ⟨#[48+a,48+b]⟩=some (10*a+b))))=true:=by decide +kernel
theorem GB(f:pS z):∃n:Nat,n<100/\eA z=some n:=by
 have h:=Iw;rw[eh] at h;have m:=f.some;have k:=f.few;have g:=f.all;have d:=dJ z;obtain⟨l,e⟩:∃l,z.cps.toList=l:=⟨_,rfl⟩
 have i:z=⟨l.toArray⟩:=jr e;rw[e] at g d
 match l,d with
 |[],d=>simp at d;lia
 |[a],_=>
  have w:=g a '&';have:=gX (dL.mp h.1 (a-48) (gq.mpr '!'));rw[show 48+(a-48)=a by lia] at this;rw[i];exact⟨a-48,by lia,this⟩
 |[a,b],_=>
  have w:=g a '&';have j:=g b '&';have:=gX (dL.mp (dL.mp h.2 (a-48) (gq.mpr '!')) (b-48) (gq.mpr '!'));rw[show 48+(a-48)=a by lia,show 48+(b-48)=b by lia] at this;rw[i];exact⟨10*(a-48)+(b-48),by lia,this⟩
 |a::b::c::l,d=>simp at d;lia
theorem KS(h:WP (f σ au) (λx c=>WP (f' σ c) (λy d=>WP (g x y d) (λz a=>∃b,z=.bl b/\if b=true then WP (f'' σ a) (λw e=>WP (g' y w e) Q) else Q (.bl false) a)))):WP (dA g g' f f' f'' σ au) Q:=by
 unfold dA;rw[zr];refine h.mono λx c h=>?_
 rw[zr];refine h.mono λy d h=>?_
 rw[zr];refine h.mono λz a h=>?_
 obtain⟨b,rfl,h⟩:=h;cases b with
 |false=>exact h
 |true=>
  show WP ((f'' σ a).bind _) Q;rw[zr];exact h
theorem Ot(h:Tx z)(k:∀E R,z.cps.toList=E++R->(∀c∈E,48<=c/\c<58)->(∀c l,R=c::l->¬ (48<=c/\c<58))->Q (.str ⟨E.toArray⟩) au):WP (pb [.str z] au) Q:=by
 obtain⟨E,R,e,b,a⟩:=BG z.cps.toList;have f:=congrArg List.length e;rw[dJ,cq] at f;have:=h.few;exact Os ⟨by lia,b,λc d=>h.asc c (by rw[e];simp[d]),a⟩ (k E R e b a) z e
theorem mG(c:cF a)(d:cF b):cO neg (.str a) (.str b) au=.ok (.bl (if neg then !decide (a=b) else decide (a=b))) au:=by
 by_cases e:a=b
 ·subst e;rw[kh (neg:=neg) rfl rfl (jI c),bH rfl];cases neg<;>rfl
 ·rw[nh c d e,bM e];cases neg<;>rfl
theorem Pg(h:Tx z)(k:∀d,Sn d->Q d au):WP (qh [.str z] au) Q:=by
 refine df rfl ?_;simp only[W,V];refine KS ?_;simp only[W,V];refine WP.of (jB h) ?_;simp only[W,V];refine⟨trivial,_,rfl,?_⟩;by_cases c1:(1:Int)<=(z.length:Int)
 ·rw[bH c1,if_pos rfl];refine⟨trivial,?_⟩;by_cases c2:(z.length:Int)<=2
  ·rw[bH c2,if_neg '"'];refine Ot h λE R e b m=>?_
   have g:cF (⟨E.toArray⟩:Str):=λc a=>by have:=b c a;lia
   refine WP.of (mG g h.asc) ?_;dsimp only[bK];by_cases c3:(⟨E.toArray⟩:Str)=z
   ·rw[bH c3,if_neg '"'];have i:pS z:=⟨by lia,by lia,λc a=>b c (by rw[←c3] at a;exact a)⟩
    obtain⟨n,l,j⟩:=GB i;have f:fX [.str z] au=.ok (.int (n:Int)) au:=by
     show(match eA z with|some n=>ar.ok (D.int (n:Int)) au|none=>.stuck)=_;rw[j]
    refine WP.of f ?_;rw[uv '!' '!'];simp only[W];refine WP.of (mG (gO '!' '!').1.asc h.asc) ?_;dsimp only[bK];by_cases c4:tx (n:Int)=z
    ·rw[bH c4,if_pos '"'];exact WP.of f (k _ (.int '!' '!'))
    ·rw[bM c4,if_neg '"'];exact k _ .non
   ·rw[bM c3,if_pos '"'];exact k _ .non
  ·rw[bM c2,if_pos '"'];exact k _ .non
 ·rw[bM c1,if_neg '"'];exact k _ .non
theorem Pp(h:Tx z)(k:∀d,Sd d->Q d au):WP (lA [.str z,.str (fJ b)] au) Q:=by
 have ad:cF ("-" : Str):=λc m=>by rw[mi] at m; have:=bX.mp m; lia
 have l:=kN b;refine df rfl ?_;simp only[W,V];refine WP.of (mG h.asc ad) ?_;dsimp only[bK];by_cases e:z="-"
 ·rw[bH e,if_pos '"'];exact⟨ag _ '&',k _ (.tup '&' (eJ _))⟩
 ·rw[bM e,if_neg '"'];have n:=rZ (sep:=fJ b) (by rw[l.len];lia) h;have A:=h.few;have C:=n.few;refine sC ?_;simp only[W,V];refine⟨_,rfl,_,rfl,by rw[l.len];rfl,ag _ '!',ag _ '!',_,rfl,by rw[ax];exact ag _ '!',?_⟩;refine jT (λi a f s=>s=au/\a.length=i/\(∀d∈a,Sn d)/\∃v,f=[v]) ⟨rfl,rfl,by simp,_,rfl⟩ ?_ ?_
  ·rintro i x a f s o ⟨rfl,j,g,v,rfl⟩;rw[dm,fH] at o;obtain⟨t,q,rfl⟩:=o;refine⟨_,rfl,?_⟩;simp only[W,V];refine Pg (n.tx t (fj q)) λd p=>⟨rfl,by simp[j],λy r=>?_,_,rfl⟩
   rcases cM.mp r with w|w
   ·exact g y w
   ·rw[bX.mp w];exact p
  ·rintro u f s ⟨rfl,j,g,v,rfl⟩;rw[ax] at j;exact k _ (.tup g '!')
theorem RS(h:Tx z)(k:∀d,Sn d->Q d au):WP (ue [.str z] au) Q:=by
 refine df rfl ?_;simp only[W,V];have a:gy (aA 0) (some (.str z)::List.replicate (1-1) none) au=.ok (((z.length:Int) != 0)) au:=by
  show(if z.length<=sizeLine then ar.ok ((z.length:Int) != 0) au else .stuck)=_;rw[if_pos (ag _ (by have:=h.few;lia))]
 refine WP.of a ?_;split
 ·exact Pg h k
 ·exact k _ (.int '!' '!')
theorem RM{N:Nat}(hN:1<=N)(P:N<=10)(h:Tx z)(k:∀d g,Sd d->Q d (au++g)):WP (qj [.int (N:Int),.str z] au) Q:=by
 have a1:cF ("1" : Str):=λc o=>by rw[lW] at o; have:=bX.mp o; lia
 have ae:cF ("" : Str):=λc o=>by cases o
 refine df rfl ?_;simp only[W,V];refine WP.of (mG h.asc a1) ?_;dsimp only[bK];by_cases e:z="1"
 ·rw[bH e,if_pos '"'];refine⟨ag _ '&',WP.of (ir '!') ?_⟩
  have:=k (aN (List.replicate N 0)) [] (.tup (λd C=>by
   obtain⟨x,q,rfl⟩:=de.mp C;rw[(py.mp q).2]
   exact .int '!' '!') (by simp;lia))
  rw[fE] at this;exact this
 ·rw[bM e,if_neg '"'];refine⟨ag _ '&',WP.of (Ob P) ?_⟩;refine kf (λi H s=>∃(y:Str) (b:List D) (G t r:Option D),Tx y/\b.length=i/\i<=N/\(∀d∈b,Sn d)/\H=[some (.int (N:Int)),some (.str y),some (.ref au.length),G,t,r]/\s=au++[O.lst b]) ⟨z,[],none,none,none,h,rfl,eJ _,by simp,rfl,rfl⟩ ?_ ?_
  ·rintro i x H s q ⟨y,b,G,t,r,A,dl,hi,C,rfl,rfl⟩;rw[dm,fH] at q;obtain⟨c,o,rfl⟩:=q;have lt:i<N:=by
    have:=(du.mp o).1
    rwa [sO] at this
   have f:(au++[O.lst b])[au.length]?=some (.lst b):=by simp
   have U:b.length<sizeLine:=by rw[hY];lia
   have u:∀d:D,List.set (au++[O.lst b]) au.length (.lst (b++[d]))=au++[O.lst (b++[d])]:=λd=>by simp
   have p:∀d,Sn d->∀x∈b++[d],Sn x:=λd I x q=>by
    rcases cM.mp q with w|w
    ·exact C x w
    ·rw[bX.mp w];exact I
   refine⟨_,rfl,?_⟩;unfold C9;simp only[W,V];have es:gk (aA 1) (aB (aA 3) aC) [some (.int (N:Int)),some (.str y),some (.ref au.length),some (.str ⟨#[c]⟩),some (.int 0),r] (au++[O.lst b])=.ok (.bl (decide (y.cps.toList.head?=some c))) (au++[O.lst b]):=by
    show ar.ok (D.bl (Txt.startswith y ⟨#[c]⟩)) _=_;rw[Ol]
   refine WP.of es ⟨_,rfl,?_⟩;by_cases hh:y.cps.toList.head?=some c
   ·rw[bH hh,if_pos rfl];have yl:=dJ y;have yf:=A.few;have y1:1<=y.cps.toList.length:=by
     cases hy:y.cps.toList with
     |nil=>rw[hy] at hh;cases hh
     |cons a l=>simp
    have j:∀m,Tx ⟨(y.cps.toList.drop m).toArray⟩:=λm=>⟨λc o=>A.asc c (lK o),by
     show(y.cps.toList.drop m).toArray.size<=_
     rw[cC,gr];lia⟩
    refine WP.of (yr (z:=y) (i:=1) rfl rfl y1 '!') ?_;refine Ot (j 1) λE R eE hE hR=>?_
    have Y:=congrArg List.length eE;rw[cq] at Y;have a0:y.cps.toList.length-1=E.length+R.length:=by rw[←Y];show _=(y.cps.toList.drop 1).length;rw[gr]
    have X:Tx ⟨E.toArray⟩:=⟨λc o=>by have:=hE c o;lia,by show E.toArray.size<=_;rw[cC];lia⟩
    have el:bT [.str ⟨E.toArray⟩] (au++[O.lst b])=.ok (.int (E.length:Int)) (au++[O.lst b]):=by
     rw[jB X];show ar.ok (D.int ((E.toArray.size:Nat):Int)) _=_;rw[cC]
    have ep:ay (aU aO (eC (D.int 1)) (aG bT (aB (aA 5) aC))) [some (.int (N:Int)),some (.str y),some (.ref au.length),some (.str ⟨#[c]⟩),some (.int 0),some (.str ⟨E.toArray⟩)] (au++[O.lst b])=.ok (some ((1+E.length:Nat):Int)) (au++[O.lst b]):=by
     show ar.bind ((ar.bind (bT [.str ⟨E.toArray⟩] (au++[O.lst b])) λy s=>aO (.int 1) y s)) _=_;rw[el];show ar.ok (some (1+(E.length:Int))) _=_;rw[Int.natCast_add]
     rfl
    refine WP.of (yr (z:=y) (i:=1+E.length) rfl ep '!' '!') ?_;have S:∀ d,Sn d->∃ n T,D.ref au.length=.ref n/\(au++[O.lst b])[n]?=some (.lst T)/\∃ v J,[d]=[v]/\(au++[O.lst b])[n]?=some (.lst J)/\J.length<sizeLine/\fW (λH s=>∃(y:Str) (b:List D) (G t r:Option D),Tx y/\b.length=i + 1/\i + 1<=N/\(∀ d∈b,Sn d)/\H=[some (.int (N:Int)),some (.str y),some (.ref au.length),G,t,r]/\s=au++[O.lst b]) (iG (ao (fO (eB (aU dE (aA 1) (eC (.str "")))) (aG aY (aB (aA 2) aC)) (eC .non))) (kB Q)) (.nx [some (.int (N:Int)),some (.str ⟨(y.cps.toList.drop (1 + E.length)).toArray⟩),some (.ref au.length),some (.str ⟨#[c]⟩),some d,some (.str ⟨E.toArray⟩)]) ((au++[O.lst b]).set n (.lst (J++[v]))):=λd I=>by
     refine⟨_,_,rfl,f,_,_,rfl,f,U,?_⟩;simp only[Dd.L];exact⟨_,b++[d],_,_,_,j _,by simp[dl],lt,p d I,rfl,u d⟩
    refine RS X λd I=>?_
    simp only[W,V,M];exact S d I
   ·rw[bM hh,if_neg '"'];simp only[W,V,M];refine⟨_,_,rfl,f,_,_,rfl,f,U,?_⟩;simp only[Dd.L];exact⟨y,b++[.int 0],_,_,_,A,by simp[dl],lt,p _ (.int '!' '!'),rfl,u _⟩
  ·rintro H s ⟨y,b,G,t,r,A,dl,hi,C,rfl,rfl⟩;have f:(au++[O.lst b])[au.length]?=some (.lst b):=by simp
   simp only[W,V];refine WP.of (mG A.asc ae) ?_;dsimp only[bK];by_cases c4:y=""
   ·rw[bH c4,if_pos '"'];refine WP.of (fm f) ?_;exact k _ _ (.tup C (by rw[ax,sO] at dl;lia))
   ·rw[bM c4,if_neg '"'];exact k _ _ .non
theorem sv(h:WX (fi σ au) (λx a=>WP (aG aY (aB (aI (aJ (eC x)) k is bd c f) aC) σ a) Q) E):WX (eX fi k is bd c f σ au) Q E:=by
 unfold eX;cases z:fi σ au with
 |ok x a=>
  rw[z] at h;show WX (bS (aG aY (aB (aI (aJ (eC x)) k is bd c f) aC)) σ a) Q E;rw[qL];exact h
 |exc x a=>rw[z] at h;exact h
 |stuck=>rw[z] at h;exact h
theorem yF(h:WP (fi σ au) (λv d=>∃i,v=.int i/\WP (g σ d) (λb c=>(i=0/\WX (F1 b c) Q E)\/(i=1/\WX (F2 b c) Q E)))):WX (gl F1 F2 (bS fi) (bS g) σ au) Q E:=by
 unfold gl;rw[p7];refine h.mono λv d h=>?_
 obtain⟨i,rfl,h⟩:=h;dsimp only;obtain⟨b,c,e,a⟩:=h.get;rcases a with⟨rfl,a⟩|⟨rfl,a⟩
 ·rw[if_pos rfl,p7,e];exact a
 ·rw[if_neg '"',if_pos rfl,p7,e];exact a
noncomputable def cr(t:Str):List Str:=if t="0" then[] else Txt.split t " + "
theorem CL(a:Tx t)(q:Q (.lst ((cr t).map .str)) au):WX (mM [.str t] au) Q E:=by
 have d:cF ("0" : Str):=λc b=>by rw[dc] at b; have:=bX.mp b; lia
 refine iV rfl ?_;simp only[VX,W,V];refine WP.of (show av [.str t,.ty "str"] au=.ok (.bl true) au from rfl) ⟨true,rfl,?_⟩
 rw[if_neg '"'];refine WP.of (mG a.asc d) ?_;dsimp only[bK];unfold cr at q;by_cases e:t="0"
 ·rw[if_pos e] at q;rw[bH e,if_neg '"'];exact⟨ag _ '&',q⟩
 ·rw[if_neg e] at q;rw[bM e,if_pos '"'];have f:=rZ (sep:=" + ") (by decide +kernel) a
  have g:=a.few;have h:=f.few;refine sC ?_;simp only[W,V];exact⟨_,rfl,_,rfl,by decide +kernel,ag _ '!',ag _ '!',q⟩
theorem CK(h:av [d,.ty "str"] au=.ok (.bl false) au)(q:E ⟨"NoText",[]⟩ au):WX (mM [d] au) Q E:=by
 refine iV rfl ?_;simp only[VX,W,V];refine WP.of h ⟨false,rfl,?_⟩;rw[if_pos '"'];exact⟨ag _ '&',q⟩
theorem qa(b:Tx t):(∀p∈cr t,Tx p)/\(cr t).length<=996:=by
 unfold cr;split
 ·exact⟨by simp,by simp⟩
 ·have a:=rZ (sep:=" + ") (by decide +kernel) b
  exact⟨a.tx,a.few⟩
theorem Wr.pieces{N:Nat}(h:Wr s N t l):cr t=l.map (fV s):=by
 unfold cr;by_cases e:t="0"
 ·rw[if_pos e];by_cases c:l=[]
  ·rw[c];rfl
  ·exfalso
   refine Ec h.pcs (by simpa using c) ?_;have:=h.is;unfold dk at this;rw[if_neg (by simpa using c)] at this;rw[←this,e]
 ·rw[if_neg e];exact(h.split e).2
def lX(s N:Nat) (d:D):Bool:=match s with
 |0=>lR N d
 |1=>dZ d
 |_=>j9 d
theorem qw{N:Nat}(c:1<=N)(a:∀r∈l,Vt s N r)(b:fQ l):lX s N (aM l)=true:=by
 match s with
 |0=>
  have a:∀r∈l,Ex 100 r/\r.length=N:=a
  exact rj (N:=(N:Int)) '!' ⟨b,λr h=>by rw[(a r h).2];lia,λr h=>(a r h).1.lo⟩
 |1=>exact(wc a b).2
 |s+2=>exact(F7 a b).2
theorem qt{N:Nat}(j:1<=N)(g:N<=10)(i:∀d∈b,Sd d)(h:lX s N (.tup b)=true):∃l,b=aL l/\(∀r∈l,Vt s N r)/\fQ l:=by
 match s with
 |0=>
  have h:(b.all (dM N)&&bC (bG b))=true:=h;rw[eh] at h;obtain⟨l,rfl⟩:=BV h.1;rw[nB] at h;refine⟨l,rfl,λr f=>?_,(mJ l).mp h.2⟩;have c:aN r∈aL l:=de.mpr ⟨r,f,rfl⟩;have a:=dL.mp h.1 (aN r) c;have a:(decide (((r.map D.int).length:Int)=N)&&(r.map D.int).all eU)=true:=a;rw[eh,jt,ax,dL] at a;have lo:∀x∈r,0<=x:=λx e=>gX (a.2 (.int x) (de.mpr ⟨x,e,rfl⟩))
  exact(⟨⟨by lia,lo,(i _ c).row⟩,by lia⟩:Ex 100 r/\r.length=N)
 |1=>
  have h:(b.all fL&&bC (bG b))=true:=h;rw[eh] at h;obtain⟨l,rfl⟩:=Cv h.1;rw[nB] at h;refine⟨l,rfl,λr f=>?_,(mJ l).mp h.2⟩;have c:aN r∈aL l:=de.mpr ⟨r,f,rfl⟩;have a:=dL.mp h.1 (aN r) c;have a:((r.map D.int).all fu&&(decide ((r.map D.int).length<=6)&&decide (g9 (r.map D.int)<=16)))=true:=a;rw[eh,eh,jt,jt,ax,dL,jH] at a;exact(⟨a.2.1,λx e=>gX (a.1 (.int x) (de.mpr ⟨x,e,rfl⟩)),a.2.2⟩:gF 16 r)
 |s+2=>
  have h:(b.all gB&&bC (bG b))=true:=h;rw[eh] at h;obtain⟨l,rfl⟩:=BD h.1;rw[nB] at h;refine⟨l,rfl,λr f=>?_,(mJ l).mp h.2⟩;have c:aN r∈aL l:=de.mpr ⟨r,f,rfl⟩;have a:=dL.mp h.1 (aN r) c;have a:(decide ((r.map D.int).length<=4)&&((r.map D.int).all eU&&(dF (eM (r.map D.int))&&decide (gM 1 (eM (r.map D.int))<=16))))=true:=a;rw[eh,eh,eh,jt,jt,ax,dL,BI] at a;exact(⟨a.1,λx e=>gX (a.2.1 (.int x) (de.mpr ⟨x,e,rfl⟩)),a.2.2.2,a.2.2.1⟩:Cn r)
structure Rp (s N:Nat) (p:Str) (d:D):Prop where
 sd:Sd d
 is:∀r,Vt s N r->p=fV s r->d=aN r
theorem D7{N:Nat}(h:Vt s N r):Sd (aN r):=by
 have b:(∀x∈r,0<=x)/\∀x∈r,x<100:=by
  match s with
  |0=>exact⟨h.1.lo,h.1.hi⟩
  |1=>exact⟨(fZ (b:=true) h).1.lo,(fZ (b:=true) h).1.hi⟩
  |s+2=>exact⟨(fZ (b:=false) h).1.lo,(fZ (b:=false) h).1.hi⟩
 exact .tup (λd c=>by
  obtain⟨x,a,rfl⟩:=de.mp c
  exact .int (b.1 x a) (b.2 x a)) (by rw[ax];have:=D5 h;lia)
theorem qv{N:Nat}(h:Vt s N r):Rp s N (fV s r) (aN r):=⟨D7 h,λb a e=>by rw[we h a e]⟩
theorem Kw{N:Nat}(i:1<=N)(b:N<=10)(f:Tx p)(k:∀d g,Rp 0 N p d->Q d (au++g)):WP (qj [.int (N:Int),.str p] au) Q:=by
 by_cases c:∃r,Vt 0 N r/\p=fV 0 r
 ·obtain⟨r,a,rfl⟩:=c;have h:Ex 100 r/\r.length=N:=a;have:=C2 (au:=au) (Q:=Q) h.1 λg=>k _ g (qv a)
  rw[h.2] at this;exact this
 ·exact RM i b f λd g h=>k d g ⟨h,λr a e=>absurd ⟨r,a,e⟩ c⟩
theorem Kx{N:Nat}(i:Tx p)(k:∀ d g,Rp 1 N p d->Q d (au++g)):WP (lA [.str p,.str "."] au) Q:=by
 have f:∀d,Rp 1 N p d->Q d au:=λd h=>by have:=k d [] h;rwa [fE] at this
 by_cases c:∃r,Vt 1 N r/\p=fV 1 r
 ·obtain⟨r,a,rfl⟩:=c;exact sI (kN true) '"' (fZ (b:=true) a).1 (fZ (b:=true) a).2 (f _ (qv a))
 ·exact Pp (b:=true) i λd h=>f d ⟨h,λr a e=>absurd ⟨r,a,e⟩ c⟩
theorem Ky{N:Nat}(i:Tx p)(k:∀ d g,Rp 2 N p d->Q d (au++g)):WP (lA [.str p,.str ","] au) Q:=by
 have f:∀d,Rp 2 N p d->Q d au:=λd h=>by have:=k d [] h;rwa [fE] at this
 by_cases c:∃r,Vt 2 N r/\p=fV 2 r
 ·obtain⟨r,a,rfl⟩:=c;exact sI (kN false) '"' (fZ (b:=false) a).1 (fZ (b:=false) a).2 (f _ (qv a))
 ·exact Pp (b:=false) i λd h=>f d ⟨h,λr a e=>absurd ⟨r,a,e⟩ c⟩
structure Rq (s N:Nat) (t:Str) (ds:List D):Prop where
 sd:∀d∈ds,Sd d
 few:ds.length<=996
 is:∀l,Wr s N t l->ds=aL l
theorem Rq.of{N:Nat}{ds:List D}(e:Tx t)(m:ds.length=(cr t).length)(h:∀(j:Nat) (p:Str) (d:D),(cr t)[j]?=some p->ds[j]?=some d->Rp s N p d):Rq s N t ds:=by
 have k:=(qa e).2;refine⟨λd a=>?_,by lia,λl w=>?_⟩
 ·obtain⟨j,i,g⟩:=kx a;exact(h j (cr t)[j] d (bQ '!') (by rw[bQ i,g])).sd
 ·have b:=w.pieces;have f:=congrArg List.length b;rw[ax] at f;refine wC λj=>?_
  unfold aL;rcases gU j l.length with c|c
  ·have a:j<ds.length:=by lia
   rw[bQ a,dm,bQ c];refine congrArg some ((h j (fV s l[j]) ds[j] ?_ (bQ a)).is l[j] (w.ok _ (h8 c)) rfl);rw[b,dm,bQ c];rfl
  ·rw[ot '!',ot (by rw[ax];lia)]
theorem Rq.pl{N:Nat}(h:Rq s N t ds):Pl 1000 (.tup ds):=.tup (λd a=>(h.sd d a).pl) (by have:=h.few;lia)
theorem HS{N:Nat}{R:List D->aa->Prop}(A:1<=N)(e:N<=10)(n:Tx t)(k:∀o g,Rq 0 N t o->R o (au++g)):WP (aX (gN 0) aK (aG qj (aB (aA 1) (aB (aA 0) aC))) ((cr t).map .str) [v,some (.int (N:Int))] au) R:=by
 refine jT (λi a f s=>a.length=i/\(∀(j:Nat) (p:Str) (d:D),(cr t)[j]?=some p->a[j]?=some d->Rp 0 N p d)/\(∃v,f=[v,some (.int (N:Int))])/\∃g,s=au++g) ⟨rfl,(λj p d _ h=>by rw[zO] at h;cases h),⟨_,rfl⟩,[],by simp⟩ ?_ ?_
 ·rintro i x a f s r ⟨c,l,⟨v,rfl⟩,g,rfl⟩;rw[dm,fH] at r;obtain⟨p,q,rfl⟩:=r;refine⟨_,rfl,?_⟩;simp only[W,V];refine Kw A e ((qa n).1 p (fj q)) λd w u=>?_
  refine⟨by simp[c],λj E C m b=>?_,⟨_,rfl⟩,g++w,by simp⟩;rcases gU j a.length with h|h
  ·rw[f7 h] at b;exact l j E C m b
  ·have z:j=a.length:=by
    have:=(du.mp b).1;simp at this;lia
   subst z;rw[c,q] at m;rw[iE (bi _),kQ] at b;cases m;cases b;exact u
 ·rintro y f s ⟨c,l,_,g,rfl⟩;rw[ax] at c;exact k y g (.of n c l)
theorem HU{N:Nat}{R:List D->aa->Prop}(m:Tx t)(k:∀ n g,Rq 1 N t n->R n (au++g)):WP (aX (gN 0) aK (aG lA (aB (aA 0) (aB (eC (.str ".")) aC))) ((cr t).map .str) [v] au) R:=by
 refine jT (λi a e s=>a.length=i/\(∀(j:Nat) (p:Str) (d:D),(cr t)[j]?=some p->a[j]?=some d->Rp 1 N p d)/\(∃v,e=[v])/\∃g,s=au++g) ⟨rfl,(λj p d _ h=>by rw[zO] at h;cases h),⟨_,rfl⟩,[],by simp⟩ ?_ ?_
 ·rintro i x a e s q ⟨c,f,⟨v,rfl⟩,g,rfl⟩;rw[dm,fH] at q;obtain⟨p,o,rfl⟩:=q;refine⟨_,rfl,?_⟩;simp only[W,V];refine Kx (N:=N) ((qa m).1 p (fj o)) λd u r=>?_
  refine⟨by simp[c],λj A z l b=>?_,⟨_,rfl⟩,g++u,by simp⟩;rcases gU j a.length with h|h
  ·rw[f7 h] at b;exact f j A z l b
  ·have y:j=a.length:=by
    have:=(du.mp b).1;simp at this;lia
   subst y;rw[c,o] at l;rw[iE (bi _),kQ] at b;cases l;cases b;exact r
 ·rintro w e s ⟨c,f,_,g,rfl⟩;rw[ax] at c;exact k w g (.of m c f)
theorem HV{N:Nat}{R:List D->aa->Prop}(m:Tx t)(k:∀ n g,Rq 2 N t n->R n (au++g)):WP (aX (gN 0) aK (aG lA (aB (aA 0) (aB (eC (.str ",")) aC))) ((cr t).map .str) [v] au) R:=by
 refine jT (λi a e s=>a.length=i/\(∀(j:Nat) (p:Str) (d:D),(cr t)[j]?=some p->a[j]?=some d->Rp 2 N p d)/\(∃v,e=[v])/\∃g,s=au++g) ⟨rfl,(λj p d _ h=>by rw[zO] at h;cases h),⟨_,rfl⟩,[],by simp⟩ ?_ ?_
 ·rintro i x a e s q ⟨c,f,⟨v,rfl⟩,g,rfl⟩;rw[dm,fH] at q;obtain⟨p,o,rfl⟩:=q;refine⟨_,rfl,?_⟩;simp only[W,V];refine Ky (N:=N) ((qa m).1 p (fj o)) λd u r=>?_
  refine⟨by simp[c],λj A z l b=>?_,⟨_,rfl⟩,g++u,by simp⟩;rcases gU j a.length with h|h
  ·rw[f7 h] at b;exact f j A z l b
  ·have y:j=a.length:=by
    have:=(du.mp b).1;simp at this;lia
   subst y;rw[c,o] at l;rw[iE (bi _),kQ] at b;cases l;cases b;exact r
 ·rintro w e s ⟨c,f,_,g,rfl⟩;rw[ax] at c;exact k w g (.of m c f)
theorem ym:∀{a b:List (List Int)},aL a=aL b->a=b
 |[],[],_=>rfl
 |[],y::b,h=>by cases h
 |x::a,[],h=>by cases h
 |x::a,y::b,h=>by
  have e:aN x::aL a=aN y::aL b:=h;injection e with d c
  rw[yq d,ym c]
theorem Q6{N:Nat}(n:1<=N)(d:N<=10)(i:Tx t)(q:∀ l,Wr 0 N t l->∀ g,Q (aM l) (au++g))(o:(∀ l,¬ Wr 0 N t l)->∀ g,E ⟨"NoText",[]⟩ (au++g)):WX (ub [.int (N:Int),.str t] au) Q E:=by
 refine iV rfl ?_;simp only[VX,W,V];refine sv ?_;simp only[VX,W,V];refine CL i ?_;refine⟨_,rfl,by rw[ax];exact ag _ (by have:=(qa i).2;lia),?_⟩;refine HS n d i λj g f=>?_
 refine Qc f.pl '!' ?_;show ∃b,some (lX 0 N (.tup j))=some b/\_
 refine⟨_,rfl,?_⟩;by_cases c:lX 0 N (.tup j)=true
 ·rw[c];obtain⟨l,rfl,h,a⟩:=qt n d f.sd c;have y:l.length<=996:=by have:=f.few;rw[zu] at this;exact this
  have m:∀p∈l.map (fV 0),Pc p:=λp u=>by
   obtain⟨r,a,rfl⟩:=de.mp u;exact nJ (h r a)
  rw[if_neg '"'];refine QM (λr a=>⟨(h r a).1.len,(h r a).1.lo,λx v=>by have:=(h r a).1.hi x v;lia⟩) '!' ?_;refine WP.of (mG (AB m) i.asc) ?_;dsimp only[bK];by_cases e:dk (l.map (fV 0))=t
  ·rw[bH (show dk (l.map bz)=t from e),if_neg '"']
   try simp only[VX,W,V]
   exact q l ⟨h,a,e.symm⟩ _
  ·rw[bM (show ¬ dk (l.map bz)=t from e),if_pos '"']
   try simp only[VX,W,V]
   refine⟨ag _ '&',o (λk w=>e ?_) _⟩;have:=f.is k w;have:=ym this;rw[this];exact w.is.symm
 ·have s:lX 0 N (.tup j)=false:=by simpa using c
  rw[s,if_pos '"']
  try simp only[VX,W,V]
  refine⟨ag _ '&',o (λk w=>c ?_) _⟩;rw[f.is k w];exact qw n w.ok w.rise
theorem Rk{N:Nat}(n:1<=N)(h:N<=10)(f:Tx t)(q:∀ l,Wr 1 N t l->∀ g,Q (aM l) (au++g))(o:(∀ l,¬ Wr 1 N t l)->∀ g,E ⟨"NoText",[]⟩ (au++g)):WX (sG [.str t] au) Q E:=by
 refine iV rfl ?_;simp only[VX,W,V];refine sv ?_;simp only[VX,W,V];refine CL f ?_;refine⟨_,rfl,by rw[ax];exact ag _ (by have:=(qa f).2;lia),?_⟩;refine HU (N:=N) f λi g a=>?_
 refine Qt a.pl '!' ?_;show ∃b,some (lX 1 N (.tup i))=some b/\_
 refine⟨_,rfl,?_⟩;by_cases c:lX 1 N (.tup i)=true
 ·rw[c];obtain⟨l,rfl,j,d⟩:=qt n h a.sd c;have v:l.length<=996:=by have:=a.few;rw[zu] at this;exact this
  have m:∀p∈l.map (fV 1),Pc p:=λp u=>by
   obtain⟨r,d,rfl⟩:=de.mp u;exact nJ (j r d)
  rw[if_neg '"'];refine Q7 (λr d=>fZ (b:=true) (j r d)) '!' ?_;refine WP.of (mG (AB m) f.asc) ?_;dsimp only[bK];by_cases e:dk (l.map (fV 1))=t
  ·rw[bH (show dk (l.map (bJ "."))=t from e),if_neg '"']
   try simp only[VX,W,V]
   exact q l ⟨j,d,e.symm⟩ _
  ·rw[bM (show ¬ dk (l.map (bJ "."))=t from e),if_pos '"']
   try simp only[VX,W,V]
   refine⟨ag _ '&',o (λk w=>e ?_) _⟩;have:=a.is k w;have:=ym this;rw[this];exact w.is.symm
 ·have s:lX 1 N (.tup i)=false:=by simpa using c
  rw[s,if_pos '"']
  try simp only[VX,W,V]
  refine⟨ag _ '&',o (λk w=>c ?_) _⟩;rw[a.is k w];exact qw n w.ok w.rise
theorem RD{N:Nat}(n:1<=N)(h:N<=10)(f:Tx t)(q:∀ l,Wr 2 N t l->∀ g,Q (aM l) (au++g))(o:(∀ l,¬ Wr 2 N t l)->∀ g,E ⟨"NoText",[]⟩ (au++g)):WX (sH [.str t] au) Q E:=by
 refine iV rfl ?_;simp only[VX,W,V];refine sv ?_;simp only[VX,W,V];refine CL f ?_;refine⟨_,rfl,by rw[ax];exact ag _ (by have:=(qa f).2;lia),?_⟩;refine HV (N:=N) f λi g a=>?_
 refine Rb a.pl '!' λv=>?_
 show ∃b,some (lX 2 N (.tup i))=some b/\_
 refine⟨_,rfl,?_⟩;by_cases c:lX 2 N (.tup i)=true
 ·rw[c];obtain⟨l,rfl,j,d⟩:=qt n h a.sd c;have x:l.length<=996:=by have:=a.few;rw[zu] at this;exact this
  have m:∀p∈l.map (fV 2),Pc p:=λp u=>by
   obtain⟨r,d,rfl⟩:=de.mp u;exact nJ (j r d)
  rw[if_neg '"'];refine Ru (λr d=>fZ (b:=false) (j r d)) '!' ?_;refine WP.of (mG (AB m) f.asc) ?_;dsimp only[bK];by_cases e:dk (l.map (fV 2))=t
  ·rw[bH (show dk (l.map (bJ ","))=t from e),if_neg '"']
   try simp only[VX,W,V]
   rw[eu];exact q l ⟨j,d,e.symm⟩ _
  ·rw[bM (show ¬ dk (l.map (bJ ","))=t from e),if_pos '"']
   try simp only[VX,W,V]
   rw[eu];refine⟨ag _ '&',o (λk w=>e ?_) _⟩;have:=a.is k w;have:=ym this;rw[this];exact w.is.symm
 ·have s:lX 2 N (.tup i)=false:=by simpa using c
  rw[s,if_pos '"']
  try simp only[VX,W,V]
  rw[eu];refine⟨ag _ '&',o (λk w=>c ?_) _⟩;rw[a.is k w];exact qw n w.ok w.rise
section
variable {Q:D->aa->Prop}
theorem sw{f d e:Option D}{s:aa}(q:Q (.str "refused") s):(⟨"NoText",[]⟩:fG).cls∈(["NoText"]:List Str)/\WP (jf 3 ["NoText"] [f,d,e,some (.exn (⟨"NoText",[]⟩:fG).cls (⟨"NoText",[]⟩:fG).at_)] s) (λx a=>∃ b,mY a x=some b/\if b=true then WP (jf 3 ["NoText"] [f,d,e,some (.exn (⟨"NoText",[]⟩:fG).cls (⟨"NoText",[]⟩:fG).at_)] a) (λx a=>∃ b,mY a x=some b/\if b=true then Q (.str "refused") a else Q (.str "another") a) else Q (.str "another") a):=by
 refine⟨bX.mpr rfl,?_⟩;refine vn (c:="NoText") (l:=[]) rfl (bX.mpr rfl) ⟨true,rfl,?_⟩
 rw[if_pos rfl];refine vn (c:="NoText") (l:=[]) rfl (bX.mpr rfl) ⟨true,rfl,?_⟩
 rw[if_pos rfl];exact q
end
theorem Nt{N:Nat}(f:s<3)(d:1<=N)(a:N<=10)(b:Tx t)(c:∀ l,Wr s N t l->∀ g,Q (aM l) (au++g))(e:(∀ l,¬ Wr s N t l)->∀ g,Q (.str "refused") (au++g)):WP (uc [.int (s:Int),.int (N:Int),.str t] au) Q:=by
 refine df rfl ?_;simp only[VX,W,V]
 match s,f with
 |0,_=>
  rw[if_pos '"'];exact Q6 d a b (λl w g=>c l w g) λh g=>sw (e h g)
 |1,_=>
  rw[if_neg '"'];refine yF ?_;simp only[W,V];refine⟨trivial,_,rfl,.inl ⟨by decide,?_⟩⟩;exact Rk (N:=N) d a b (λl w g=>c l w g) λh g=>sw (e h g)
 |2,_=>
  rw[if_neg '"'];refine yF ?_;simp only[W,V];refine⟨trivial,_,rfl,.inr ⟨by decide,?_⟩⟩;exact RD (N:=N) d a b (λl w g=>c l w g) λh g=>sw (e h g)
theorem wb(a:F=sG\/F=sH)(h:av [d,.ty "str"] au=.ok (.bl false) au)(q:E ⟨"NoText",[]⟩ au):WX (F [d] au) Q E:=by
 rcases a with rfl|rfl
 ·refine iV rfl ?_;simp only[VX,W,V];refine sv ?_;simp only[VX,W,V];exact CK h q
 ·refine iV rfl ?_;simp only[VX,W,V];refine sv ?_;simp only[VX,W,V];exact CK h q
theorem Jl{s N:Nat}(a:s<3)(h:av [d,.ty "str"] au=.ok (.bl false) au)(q:Q (.str "refused") au):WP (uc [.int (s:Int),.int (N:Int),d] au) Q:=by
 refine df rfl ?_;simp only[VX,W,V]
 match s,a with
 |0,_=>
  rw[if_pos '"'];refine iV rfl ?_;simp only[VX,W,V];refine sv ?_;simp only[VX,W,V];exact CK h (sw q)
 |1,_=>
  rw[if_neg '"'];refine yF ?_;simp only[W,V];exact⟨trivial,_,rfl,.inl ⟨by decide,wb (.inl rfl) h (sw q)⟩⟩
 |2,_=>
  rw[if_neg '"'];refine yF ?_;simp only[W,V];exact⟨trivial,_,rfl,.inr ⟨by decide,wb (.inr rfl) h (sw q)⟩⟩
theorem Qk{N:Nat}(h:av [d,.ty "str"] au=.ok (.bl false) au)(q:Q .non au):WP (ud [.int (s:Int),.int (N:Int),d] au) Q:=by
 refine df rfl ?_;simp only[W,V];refine WP.of h ⟨false,rfl,?_⟩;rw[if_pos '"'];exact q
open StrLaws in
theorem OI(i:Nat):StrLaws.sliceText z (some (i:Int)) none=⟨(z.cps.toList.drop i).toArray⟩:=by
 rcases gU i z.length with h|h
 ·exact Cp (by rw[dJ];lia)
 ·have e:StrLaws.sliceText z (some (i:Int)) none=StrLaws.sliceText z (some (z.length:Int)) none:=by
   unfold StrLaws.sliceText;have d:Builtin.Str.strSliceIndices (some (i:Int)) none 1 z.length=Builtin.Str.strSliceIndices (some (z.length:Int)) none 1 z.length:=by
    have a:¬ ((i:Int)<0):=by lia
    have b:¬ ((z.length:Int)<0):=by lia
    have c:min (i:Int) (z.length:Int)=(z.length:Int):=by lia
    simp[Builtin.Str.strSliceIndices,a,b,c]
   rw[d]
  rw[e,Cp (by rw[dJ];lia)];rw[wJ (by rw[dJ];lia),wJ (by rw[dJ];lia)]
theorem KF{z:Str}(h:i<=z.length):StrLaws.sliceText z none (some (i:Int))=⟨(z.cps.toList.take i).toArray⟩:=by
 rw[StrLaws.sliceText_to ⟨by lia,by rw[dJ];lia⟩];refine jr ?_;show(z.cps.toList.drop 0).take _=_;rw[KZ,show((i:Int)-0).toNat=i by lia]
theorem Jk(a b:List Str):f8 (a++b)=f8 a+f8 b:=by
 unfold f8;rw[gW,zF]
noncomputable def oA(a:Nat) (b:List Str):List Str:=b.take a++((b.drop (a+1)).take 1++(b.drop a).take 1)++b.drop (a+2)
theorem NT(a:Nat)(b:List Str):b=b.take a++((b.drop a).take 1++(b.drop (a+1)).take 1)++b.drop (a+2):=by
 have c:b.drop (a+2)=(b.drop (a+1)).drop 1:=by rw[lE]
 have d:b.drop (a+1)=(b.drop a).drop 1:=by rw[lE]
 rw[eu,eu,c,mU,d,mU,mU]
theorem Hy(a:Nat)(ts:List Str):f8 (oA a ts)=f8 ts:=by
 have h:=congrArg f8 (NT a ts);unfold oA;simp only[Jk] at h ⊢;lia
theorem Hx(a:Nat)(b:List Str):(oA a b).length=b.length:=by
 have h:=congrArg List.length (NT a b);unfold oA;simp only[cq] at h ⊢;lia
theorem wg(h:t∈oA a ts):t∈ts:=by
 unfold oA at h;simp only[cM] at h;rcases h with(h|h|h)|h
 ·exact pA h
 ·exact lK (pA h)
 ·exact lK (pA h)
 ·exact lK h
theorem vz{i j:Nat}(h:i<=j):cutD xs (some (i:Int)) (some (j:Int))=(xs.drop i).take (j-i):=by
 unfold cutD;rw[HT.ya,HT.ya];rcases gU i xs.length with c|c
 ·rw[jZ (show i<=xs.length by lia)];rcases gU j xs.length with d|d
  ·rw[jZ (show j<=xs.length by lia)]
  ·rw[qU d,lL (by rw[gr];lia),lL (by rw[gr];lia)]
 ·rw[qU c,wJ (bi _),wJ c,List.take_nil,List.take_nil]
noncomputable abbrev pG:Str:=" !\"#$&'()*+,-./0123456789:;<=>?@ABCDEFGHIJKLMNOPQRSTUVWXYZ[\\]^_`"
noncomputable abbrev pF:Str:="abcdefghijklmnopqrstuvwxyz{|}~\n"
noncomputable abbrev Ma:Str:="abcdefghij0123456789 +.,-"
theorem HL:((pG++pF).cps.toList.all λc=>decide (c<128))=true/\(Ma.cps.toList.all λc=>decide (c<128))=true/\(pG++pF).length<=100/\1<=(pG++pF).length/\Ma.length=25:=by decide +kernel
theorem O3(u:bO au n)(k:∀(c:Nat) e,c<128->bw au e n->Q (.str ⟨#[c]⟩) e):WP (uf [.ref n] au) Q:=by
 obtain⟨m,v,q,r,p⟩:=HL;refine df rfl ?_;simp only[W,V];refine gQ u '!' '!' λa s1 C A f=>?_
 simp only[W,V];have b:∀{z:Str}{i:Int}{s:aa}{R:D->aa->Prop},(z.cps.toList.all λc=>decide (c<128))=true->z.length<=100->0<=i->i<z.length->(∀c:Nat,c<128->R (.str ⟨#[c]⟩) s)->WP (cu (.str z) (.int i) s) R:=λ{z i s R} y E d h k=>by
  obtain⟨j,rfl⟩:=wK d;have o:j<z.cps.toList.length:=by rw[dJ];lia
  rw[sf (bQ o) '!'];exact k _ (gX (dL.mp y _ (h8 o)))
 by_cases c:a=0
 ·rw[if_pos c];have x:∀s:aa,aO (.str pG) (.str pF) s=.ok (.str (pG++pF)) s:=λs=>by
   show(if pG.length+pF.length<=sizeLine then ar.ok (D.str (pG++pF)) s else .stuck)=_;rw[if_pos (ag _ (by decide +kernel))]
  rw[x];simp only[W];generalize hz:(pG++pF)=z at m q r;have t:bT [.str z] s1=.ok (.int (z.length:Int)) s1:=by
   show(if z.length<=sizeLine then _ else _)=_;rw[if_pos (ag _ '!')]
  rw[t];simp only[W];refine gQ f.bag '!' '!' λi w d h l=>?_
  exact b m q d h λc g=>k c _ g (f.trans l)
 ·rw[if_neg c];refine gQ f.bag '!' '!' λi w d h l=>?_
  exact b (z:=Ma) v (by rw[p];decide) d (by rw[p];lia) λc g=>k c _ g (f.trans l)
theorem Qu(hb:bO au n)(ta:cF t)(tl:t.length<=994)(k:∀(t':Str) G,cF t'->t'.length<=t.length+1->bw au G n->Q (.str t') G):WP (yW [.ref n,.str t] au) Q:=by
 have tt:Tx t:=⟨ta,by lia⟩
 have zl:=dJ t;refine df rfl ?_;refine gI (R:=λY s'=>∃a:Nat,a<=t.length/\bw au s' n/\Y=.nx [some (.ref n),some (.str t),some (.int (a:Int)),none,none,none]) ?_ ?_
 ·simp only[W,V];rw[jB tt];simp only[W,V];refine gQ hb '!' '!' λa s1 a0 a1 S=>?_
  exact⟨a.toNat,by lia,S,by rw[show((a.toNat:Nat):Int)=a by lia]⟩
 rintro _ s1 ⟨a,al,S,rfl⟩;show WP _ _;refine gI (R:=λY s'=>∃h:Int,bw au s' n/\Y=.nx [some (.ref n),some (.str t),some (.int (a:Int)),some (.int h),none,none]) ?_ ?_
 ·simp only[W,V];refine gQ S.bag '!' '!' λh s2 h0 h1 o=>?_
  exact⟨h,S.trans o,rfl⟩
 rintro _ s2 ⟨h,o,rfl⟩;show WP _ _;have q:∀{s:aa}{j i l:Option D},cP (aA 1) bq (ay (aA 2)) [some (.ref n),some (.str t),some (.int (a:Int)),j,i,l] s=.ok (.str ⟨(t.cps.toList.take a).toArray⟩) s:=λ{s j i l}=>by
  show(if t.length<=sizeLine/\(StrLaws.sliceText t none (some (a:Int))).length<=sizeLine then ar.ok (D.str (StrLaws.sliceText t none (some (a:Int)))) s else .stuck)=_
  rw[KF al,if_pos ⟨ag _ '!',ag _ (by
   show(t.cps.toList.take a).toArray.size<=_
   rw[cC,iY];lia)⟩]
 have X:∀{s:aa}{j i l:Option D},cP (aA 1) (ay (aA 2)) bq [some (.ref n),some (.str t),some (.int (a:Int)),j,i,l] s=.ok (.str ⟨(t.cps.toList.drop a).toArray⟩) s:=λ{s j i l}=>by
  show(if t.length<=sizeLine/\(StrLaws.sliceText t (some (a:Int)) none).length<=sizeLine then ar.ok (D.str (StrLaws.sliceText t (some (a:Int)) none)) s else .stuck)=_
  rw[OI,if_pos ⟨ag _ '!',ag _ (by
   show(t.cps.toList.drop a).toArray.size<=_
   rw[cC,gr];lia)⟩]
 have J:∀{s:aa}{j i l:Option D},cP (aA 1) (ay (aU aO (aA 2) (eC (.int 1)))) bq [some (.ref n),some (.str t),some (.int (a:Int)),j,i,l] s=.ok (.str ⟨(t.cps.toList.drop (a+1)).toArray⟩) s:=λ{s j i l}=>by
  show(if t.length<=sizeLine/\(StrLaws.sliceText t (some ((a+1:Nat):Int)) none).length<=sizeLine then ar.ok (D.str (StrLaws.sliceText t (some ((a+1:Nat):Int)) none)) s else .stuck)=_
  rw[OI,if_pos ⟨ag _ '!',ag _ (by
   show(t.cps.toList.drop (a+1)).toArray.size<=_
   rw[cC,gr];lia)⟩]
 have g:∀{x y:Str}{s:aa}{R:D->aa->Prop},x.length<=2000->y.length<=2000->R (.str (x++y)) s->WP (aO (.str x) (.str y) s) R:=λ{x y s R} H p r=>by
  show WP (if x.length+y.length<=sizeLine then ar.ok (D.str (x++y)) s else .stuck) R;rw[if_pos (ag _ '!')];exact r
 have E:(⟨(t.cps.toList.take a).toArray⟩:Str).length=a:=by show(t.cps.toList.take a).toArray.size=a;rw[cC,iY];lia
 have A:∀m,(⟨(t.cps.toList.drop m).toArray⟩:Str).length=t.length-m:=λm=>by show(t.cps.toList.drop m).toArray.size=_;rw[cC,gr,zl]
 have T:cF ⟨(t.cps.toList.take a).toArray⟩:=λc hc=>ta c (pA hc)
 have U:∀m,cF ⟨(t.cps.toList.drop m).toArray⟩:=λm c hc=>ta c (lK hc)
 have d:∀{x y:Str},cF x->cF y->cF (x++y):=λH p c hc=>by
  rw[qR,iC] at hc;rcases cM.mp hc with w|w
  ·exact H c w
  ·exact p c w
 have I:∀{c:Nat},c<128->cF ⟨#[c]⟩:=λhc x H=>by have:x=_:=bX.mp H;lia
 have z:∀c:Nat,(⟨#[c]⟩:Str).length=1:=λc=>rfl
 simp only[W,V];by_cases c0:h=0
 ·rw[if_pos c0,q];simp only[W];rw[J];simp only[W];refine g '!' (by rw[A];lia) ?_;exact k _ _ (d T (U _)) (by rw[pr,E,A];lia) o
 rw[if_neg c0];by_cases c1:h=1
 ·rw[if_pos c1,q];simp only[W];refine O3 o.bag λc s3 hc D3=>?_
  refine g '!' (by rw[z];lia) ?_;rw[X];simp only[W];refine g (by rw[pr,E,z];lia) (by rw[A];lia) ?_;exact k _ _ (d (d T (I hc)) (U _)) (by rw[pr,pr,E,A,z];lia) (o.trans D3)
 rw[if_neg c1];by_cases c2:h=2
 ·rw[if_pos c2,q];simp only[W];refine O3 o.bag λc s3 hc D3=>?_
  refine g '!' (by rw[z];lia) ?_;rw[J];simp only[W];refine g (by rw[pr,E,z];lia) (by rw[A];lia) ?_;exact k _ _ (d (d T (I hc)) (U _)) (by rw[pr,pr,E,A,z];lia) (o.trans D3)
 rw[if_neg c2];have u:=rZ (sep:=" + ") (by decide +kernel) tt
 obtain⟨ts,v⟩:∃ ts,Txt.split t " + "=ts:=⟨_,rfl⟩
 rw[v] at u;have pf:=u.few;refine sC ?_;simp only[W,V,M];refine⟨_,rfl,_,rfl,by decide +kernel,ag _ '!',by rw[v];exact ag _ '!',?_⟩;rw[v,ax];have tp:=qZ.mpr u.ne;have em:(a:Int)%(ts.length:Int)=((a%ts.length:Nat):Int):=(Int.natCast_emod a ts.length).symm;rw[em];generalize a%ts.length=b;have f:∀{x y:List D}{s:aa}{R:D->aa->Prop},x.length<=4000->y.length<=4000->R (.lst (x++y)) s->WP (aO (.lst x) (.lst y) s) R:=λ{x y s R} H p r=>by
  show WP (if x.length+y.length<=sizeLine then ar.ok (D.lst (x++y)) s else .stuck) R;rw[if_pos (ag _ '!')];exact r
 have ml:∀m:Nat,((ts.map D.str).drop m).length<=996:=λm=>by rw[gr,ax];lia
 refine⟨by lia,_,rfl,_,rfl,.inr ⟨_,rfl,_,rfl,_,rfl,.inr ⟨_,rfl,?_⟩⟩⟩;rw[show((b:Int)+2)=((b+2:Nat):Int) from rfl,show((b:Int)+1)=((b+1:Nat):Int) from rfl,vz '!',vz '!',show b+2-(b+1)=1 by lia,show b+1-b=1 by lia];have C:∀m:Nat,(((ts.map D.str).drop m).take 1).length<=1:=λm=>by rw[iY];lia
 refine f (by have:=C (b+1);lia) (by have:=C b;lia) ?_;refine qb ?_;simp only[W,V,M];refine⟨_,rfl,_,rfl,.inr ⟨_,rfl,?_⟩⟩;rw[uH];have mt:((ts.map D.str).take b).length<=996:=by rw[iY,ax];lia
 refine f '!' (by rw[cq];have:=C b;have:=C (b+1);lia) ?_;refine⟨_,rfl,.inr ⟨_,rfl,?_⟩⟩;rw[show((b:Int)+2)=((b+2:Nat):Int) from rfl,MX];refine f (by rw[cq,cq];have:=C b;have:=C (b+1);lia) (by have:=ml (b+2);lia) ?_;have P:=Hx b ts;have ss:=Hy b ts;have a3:oA b ts≠[]:=λe=>by rw[e] at P;simp at P;lia
 refine⟨oA b ts,?_,?_,?_⟩
 ·unfold oA;simp only[gW,List.map_take,List.map_drop]
 ·unfold JoinOk;rw[sM];exact wz (B:=995) (λy p=>(u.tx y (wg p)).few) (by rw[P,show(" + " : Str).length=3 from rfl]; lia)
 ·have jl:=sj (sep:=" + ") a3
  have a2:=sj (sep:=" + ") u.ne
  rw[u.back] at a2;rw[ss,P] at jl;refine k _ _ (λc hc=>?_) '!' o;rcases yd hc with⟨y,p,hc⟩|hc
  ·exact(u.tx y (wg p)).asc c hc
  ·rw[j6] at hc;have:c=32\/c=43\/c=32:=by simpa using hc
   lia
structure Wd (z:Str):Prop where
 asc:cF z
 few:z.length<=30
theorem mn{z:Str}(h:(z.cps.toList.all λc=>decide (c<128))=true):cF z:=λc a=>gX (dL.mp h c a)
theorem Bk(a:cF sep)(h:∀t∈b,cF t):cF (Txt.join sep b):=λc hc=>by
 rcases yd hc with⟨y,d,hc⟩|hc
 ·exact h y d c hc
 ·exact a c hc
theorem AX(h:∀t∈a,t.length<=B):f8 a<=a.length*B:=StrLaws.sumLen_le a h
theorem Ir(h:∀ w∈a,Wd w)(f:a.length<=30)(c:a≠[]):JoinOk " + " a=true/\cF (Txt.join " + " a)/\(Txt.join " + " a).length<=987:=by
 refine⟨?_,Bk (mn (by decide +kernel)) λt b=>(h t b).asc,?_⟩
 ·unfold JoinOk;rw[sM];exact wz (B:=30) (λy e=>(h y e).few) (by rw[show(" + " : Str).length=3 from rfl]; lia)
 ·have d:=sj (sep:=" + ") c
  have:=AX (B:=30) λt b=>(h t b).few
  rw[show(" + " : Str).length=3 from rfl] at d
  lia
theorem Jq{N:Nat}(Q:σ0=[v0,v2,some (.int (N:Int)),v3,v4,some (.ref m),some d,v6,U,v9])(hd:d=aN r)(hN:N<=10)(hl:r.length=N)(hi:∀x∈r,x<100)(f:s[m]?=some (.lst xs))(hx:xs.length<=1000)(k:∀w v7 U,Wd w->QQ (.nx [v0,v2,some (.int (N:Int)),v3,v4,some (.ref m),some d,v7,U,v9]) (s.set m (.lst (xs++[.str w])))):
  WP (uh σ0 s) QQ:=by
 subst Q;have l:∀(i:Nat) (h:i<r.length),cx d (.int (i:Int)) s=.ok (.int r[i]) s:=λi h=>by
  rw[hd];exact ni (xs:=r.map .int) rfl (si (by rw[dm,bQ h];rfl))
 unfold uh;simp only[W,V];refine⟨_,rfl,f9 '!' '!',by rw[jA];exact ag _ '!',?_⟩;rw[kT];have er:rng 0 N=(List.range N).map λi=>D.int ((i:Nat):Int):=by
  unfold rng;exact zX λi _=>by rw[sK]
 rw[er];refine jp (as:=List.range N) (λn=>∃v,n=[v,some d]) (λi=>decide (0<r.getD i 0)) (λi=>D.int ((i:Nat):Int)) (λi=>D.int ((i:Nat):Int)) ⟨_,rfl⟩ ?_ ?_
 ·rintro i G n ⟨v,rfl⟩;have h:=gq.mp G;refine⟨_,rfl,⟨_,rfl⟩,?_,λ_=>by simp only[W,V,hV]⟩;simp only[W,V];refine WP.of (l i '!') ?_;simp only[W,V];have g:r.getD i 0=r[i]:=by rw[ie,bQ '!'];rfl
  exact⟨trivial,trivial,by rw[g]⟩
 ·have p:∀i∈(List.range N).filter (λi=>decide (0<r.getD i 0)),i<N:=λi h=>gq.mp (wy.mp h).1
  have P:((List.range N).filter (λi=>decide (0<r.getD i 0))).length<=N:=by
   have:=Lv (λi=>decide (0<r.getD i 0)) (List.range N)
   rwa [zR] at this
  generalize (List.range N).filter (λi=>decide (0<r.getD i 0))=is at p P;have I:cF ("" : Str):=λc E=>by cases E
  refine qb ?_;simp only[W,V];refine⟨_,rfl,_,rfl,by rw[ax];exact ag _ '!',?_⟩;refine jT (λi u n s'=>s'=s/\(∃b:List Str,u=b.map .str/\b.length=i/\∀w∈b,cF w/\w.length<=3)/\∃v,n=[v,some d]) ⟨rfl,⟨[],rfl,rfl,by simp⟩,_,rfl⟩ ?_ ?_
  ·rintro i x u n s' C ⟨rfl,⟨b,rfl,R,A⟩,v,rfl⟩;rw[dm,fH] at C;obtain⟨j,hj,rfl⟩:=C;have jN:=p j (fj hj);have H:j<r.length:=by lia
   refine⟨_,rfl,?_⟩;simp only[W,V];rw[Eb (k:=j) '!'];simp only[W];rw[l j H];simp only[W];have q:∀z:Str,cF z->z.length<=2->WP (aO (.str ⟨#[97+j]⟩) (.str z) s') (λy T=>T=s'/\(∃e:List Str,b.map D.str++[y]=e.map .str/\e.length=i+1/\∀w∈e,cF w/\w.length<=3)/\∃v,[some (D.int (j:Int)),some d]=[v,some d]):=λz az lz=>by
    have ad:aO (.str ⟨#[97+j]⟩) (.str z) s'=.ok (.str ((⟨#[97+j]⟩:Str)++z)) s':=by
     show(if(⟨#[97+j]⟩:Str).length+z.length<=sizeLine then ar.ok (D.str (⟨#[97+j]⟩++z)) s' else .stuck)=_;rw[if_pos (ag _ (by show 1+z.length<=_;lia))]
    rw[ad];refine⟨rfl,⟨b++[(⟨#[97+j]⟩:Str)++z],by rw[gW];rfl,by simp[R],λw J=>?_⟩,_,rfl⟩;rcases cM.mp J with h|h
    ·exact A w h
    ·rw[bX.mp h];refine⟨λc E=>?_,by rw[pr];show 1+z.length<=3;lia⟩;rw[qR,iC] at E;rcases cM.mp E with h|h
     ·have:c=97+j:=bX.mp h;lia
     ·exact az c h
   by_cases c:1<r[j]
   ·rw[bH c,if_pos rfl];have X:=hi _ (h8 H);rw[l j H];simp only[W];rw[uv '!' '!'];simp only[W];exact⟨trivial,q _ (gO '!' X).1.asc (gO '!' X).1.few⟩
   ·rw[bM c,if_neg '"'];exact⟨trivial,q "" I (by decide +kernel)⟩
  ·rintro ys n s' ⟨rfl,⟨b,rfl,R,A⟩,v,rfl⟩;rw[ax] at R;refine⟨b,rfl,xo (λt o=>by have:=(A t o).2;lia) '!',?_⟩;have Y:(Txt.join "" b).length<=30:=by
    by_cases ne:b=[]
    ·rw[ne];decide +kernel
    ·have jl:=sj (sep:="") ne
     have:=AX (B:=3) λt o=>(A t o).2
     rw[show("" : Str).length=0 from rfl] at jl
     lia
   have S:cF (Txt.join "" b):=Bk I λt o=>(A t o).1
   generalize Txt.join "" b=z at Y S
   simp only[W,V,M];refine⟨_,_,rfl,f,?_⟩;refine WP.of (mG S I) ?_;dsimp only[bK];by_cases c:z=""
   ·rw[bH c,if_neg '"'];exact⟨_,_,rfl,f,by rw[hY]; lia,k "1" _ _ ⟨mn (by decide +kernel),by decide +kernel⟩⟩
   ·rw[bM c,if_pos '"'];exact⟨_,_,rfl,f,by rw[hY];lia,k z _ _ ⟨S,Y⟩⟩
theorem Oo{b:Bool}{l:List (List Int)}{R:List D->aa->Prop}(h:∀ r∈l,Nm r/\r.length<=6)(k:∀ j:List Str,j.length=l.length->(∀ w∈j,Wd w)->R (j.map .str) au):WP (aX (gN 0) aK (fO (eB (aU kX (aG bE (aB (aA 0) aC)) (eC (.int 0)))) (dS (aU cu (eC (.str ".,")) (aU fN (aA 1) (eC (.int 1)))) (aB (aI (aJ (aA 0)) 1 [] (gN 0) aK (aG dX (aB (aA 0) aC))) aC)) (eC (.str "-"))) (aL l) [none,some (.int (if b then 1 else 2))] au) R:=by
 have f:=kN b;refine jp (as:=l) (λn=>∃v,n=[v,some (.int (if b then 1 else 2))]) (λ_=>true) (λr=>.str (bJ (fJ b) r)) aN ⟨_,rfl⟩ ?_ ?_
 ·rintro r m n ⟨v,rfl⟩;have a:=(h r m).1;refine⟨_,rfl,⟨_,rfl⟩,by simp only[W,hV],λ_=>?_⟩;simp only[W,V];refine⟨trivial,?_⟩;by_cases e:r=[]
  ·subst e;rw[if_neg '&'];exact⟨trivial,rfl⟩
  ·have z:0<(r.map D.int).length:=by rw[ax];exact qZ.mpr e
   rw[if_pos '!'];refine qb ?_;simp only[W,V];have x:=Bh (b:=b) (au:=au);refine⟨trivial,?_⟩;rw[show((if b=true then 1 else 2:Int)-1)=(if b then 0 else 1) by cases b<;>rfl,x];refine⟨_,rfl,_,rfl,by rw[ax];exact ag _ (by have:=a.len;lia),NS a ?_⟩;refine⟨r.map tx,rfl,Mm f a,?_⟩;unfold bJ;rw[if_neg e];exact⟨rfl,rfl⟩
 ·rw[kj];have s:l.map (λr=>D.str (bJ (fJ b) r))=(l.map (bJ (fJ b))).map D.str:=by rw[hZ];rfl
  rw[s];refine k _ (by rw[ax]) λw u=>?_
  obtain⟨r,m,rfl⟩:=de.mp u;obtain⟨a,A⟩:=h r m;have p:∀t∈r.map tx,cF t/\t.length<=2:=λt d=>by
   obtain⟨i,g,rfl⟩:=de.mp d;exact⟨(gO (a.lo i g) (a.hi i g)).1.asc,(gO (a.lo i g) (a.hi i g)).1.few⟩
  unfold bJ;split
  ·exact⟨mn (by decide +kernel),by decide +kernel⟩
  ·rename_i q;refine⟨Bk (λc o=>by rw[f.list] at o;have:=bX.mp o;have:=f.no;lia) λt d=>(p t d).1,?_⟩;have y:=sj (sep:=fJ b) (ts:=r.map tx) (by simpa using q);have:=AX (B:=2) λt d=>(p t d).2
   rw[f.len,ax] at y;rw[ax] at this;lia
theorem Hv{N:Nat}{R:List D->aa->Prop}(z:1<=N)(j:N<=10)(u:0<=c)(q:c<=30)(p:bO s n)(k:∀(l:List (List Int)) a,(l.length:Int)=c->(∀r∈l,r.length=N/\∀x∈r,x<100)->bw s a n->R (aL l) a):
  WP (aX (gN 0) aK (aG sJ (aB (aA 1) (aB (aA 2) (aB (eC (.int 12)) aC)))) (rng 0 c.toNat) [v,some (.ref n),some (.int (N:Int))] s) R:=by
 refine jT (λi b e a=>∃(l:List (List Int)) (v:Option D),b=aL l/\l.length=i/\(∀r∈l,r.length=N/\∀x∈r,x<100)/\e=[v,some (.ref n),some (.int (N:Int))]/\bw s a n) ⟨[],_,rfl,rfl,by simp,rfl,.refl p⟩ ?_ ?_
 ·rintro i x b e a h ⟨l,v,rfl,f,g,rfl,d⟩;refine⟨_,rfl,?_⟩;simp only[W,V];exact RG d.bag '!' '!' '!' '!' λr A y o w m=>⟨l++[r],_,by simp[aL],by simp[f],yn g ⟨by lia,λx h=>by have:=lq o x h;lia⟩,rfl,d.trans m⟩
 ·rintro t e a ⟨l,v,rfl,f,g,rfl,d⟩;rw[jA] at f;exact k l a '!' g d
structure Ws (au:aa) (n:Nat) (m:Nat) (ws:List Str) (s:aa):Prop where
 at0:s[m]?=some (.lst (ws.map .str))
 ok:∀w∈ws,Wd w
 few:ws.length<=30
 lo:au.length<=m
 drew:bw au s n
theorem KR{N:Nat}(Y:1<=N)(q:N<=10)(R:0<=c)(Q:c<=30)(U:bO au n)(z:bw au s n)(k:∀m a I o f e A j,Ws au n m a j->QQ (.nx [some (.ref n),v1,some (.int (N:Int)),some (.int c),I,some (.ref m),o,f,e,A]) j):
  WP ((aF (aH 4 (aG nw (aB (aI (jd (aB (aA 3) aC)) 1 [0,2] (gN 0) aK (aG sJ (aB (aA 1) (aB (aA 2) (aB (eC (.int 12)) aC))))) aC)))
 (aF (aH 5 (dR aC))
 (dj (aJ (aA 4)) (gN 6) uh))) [some (.ref n),v1,some (.int (N:Int)),some (.int c),I,v5,o,f,e,A] s) QQ:=by
 have p:=@Jq;generalize uh=F at p ⊢;simp only[W,V];refine⟨_,rfl,f9 '!' '!',by rw[jA];exact ag _ '!',?_⟩;refine Hv Y q R Q z.bag λl s2 l1 S P=>?_
 refine qD (l:=l) rfl '!' λg=>?_
 have lo:=Ct l;have J:∀r∈aQ l,r.length=N/\∀x∈r,x<100:=λr u=>S r (Bo u)
 have t:=(z.trans P).trans (.more (z.trans P).bag g);generalize aQ l=l' at lo J;generalize s2++g=s3 at t
 try simp only[W,V]
 refine⟨ag _ '&',_,rfl,?_⟩;refine kf (λi E j=>∃(a:List Str) (o f e:Option D),a.length=i/\(∀ w∈a,Wd w)/\j[s3.length]?=some (.lst (a.map .str))/\bw au j n/\i<=l'.length/\E=[some (.ref n),v1,some (.int (N:Int)),some (.int c),some (aM l'),some (.ref s3.length),o,f,e,A]) ⟨[],o,f,e,rfl,by simp,by simp,t.trans (.more t.bag _),eJ _,rfl⟩ ?_ ?_
 ·rintro i x E j hx ⟨a,o,f,e,H,G,b,C,X,rfl⟩;obtain⟨r,u,rfl⟩:=t0 hx;have lt:=(du.mp u).1;obtain⟨r1,r2⟩:=J r (fj u);refine⟨_,rfl,?_⟩;generalize hd:aN r=d;refine p rfl hd.symm q r1 r2 b (by rw[ax];lia) λw f e v=>?_
  simp only[Dd.L];refine⟨a++[w],_,_,_,by simp[H],λy T=>?_,?_,C.over U.lt t.len,lt,rfl⟩
  ·rcases cM.mp T with h|h
   ·exact G y h
   ·rw[bX.mp h];exact v
  ·rw[lM (jU b),gW];rfl
 ·rintro E j ⟨a,o,f,e,H,G,b,C,X,rfl⟩;rw[zu] at H;exact k _ a _ _ _ _ _ j ⟨b,G,by lia,t.len,C⟩
theorem rB(b:0<=t)(a:t<2):eL (.tup [.int 1]) (.int t) s=.ok (aN (List.replicate t.toNat 1)) s:=by
 unfold eL;dsimp only;rw[if_pos ⟨by simp,by lia,by lia,by simp;lia⟩];have:t=0\/t=1:=by lia
 rcases this with rfl|rfl<;>rfl
theorem Qm{R:List D->aa->Prop}(h:∀r∈l,gF 16 r)(Q:l.length<=1000)(E:bO s n)(k:∀(a:List (List Int)) b,a.length<=l.length->(∀r∈a,r.length<=2/\∀x∈r,1<=x/\x<=16)->bw s b n->R (aL a) b):
  WP (aX (gN 0) (eB (aU db (aG gd (aB (j7 (aA 0) bq (ay (eC (D.int 1)))) aC)) (eC (D.int 14))))
   (aU aO (j7 (aA 0) bq (ay (eC (D.int 1))))
    (aU eL (aS (aB (eC (D.int 1)) aC)) (aG zp (aB (aA 1) (aB (eC (D.int 2)) aC)))))
   (aL l) [v,some (D.ref n)] s) R:=by
 refine jT (λi d m b=>∃(a:List (List Int)) (v:Option D),d=aL a/\a.length<=i/\(∀r∈a,r.length<=2/\∀x∈r,1<=x/\x<=16)/\m=[v,some (.ref n)]/\bw s b n) ⟨[],_,rfl,eJ _,by simp,rfl,.refl E⟩ ?_ ?_
 ·rintro i x d m b j ⟨a,v,rfl,g,f,rfl,e⟩;obtain⟨r,C,rfl⟩:=t0 j;have p:=h r (fj C);have q:cutD (r.map D.int) none (some 1)=(r.take 1).map D.int:=by rw[show(some (1:Int))=some ((1:Nat):Int) from rfl,uH,List.map_take]
  refine⟨_,rfl,?_⟩;simp only[W,V,M];refine⟨_,rfl,.inl ⟨_,rfl,(r.take 1),?_,?_⟩⟩
  ·rw[q];exact mL _
  ·by_cases c:(r.take 1).sum<14
   ·rw[if_pos c];refine⟨_,rfl,.inl ⟨_,rfl,ag _ '&',?_⟩⟩;refine gQ e.bag '!' '!' λt P A z G=>?_
    rw[rB A z];simp only[W];have I:(r.take 1).length<=1:=by rw[iY];lia
    have J:(List.replicate t.toNat (1:Int)).length<=1:=by rw[mW];lia
    rw[q];refine⟨by rw[ax,ax];exact ag _ '!',a++[r.take 1++List.replicate t.toNat 1],_,by simp[aL],by simp;lia,yn f ⟨by rw[cq];lia,λx j=>?_⟩,rfl,e.trans G⟩;rcases cM.mp j with w|w
    ·have o:=pA w;have:=p.pos x o;have:=lq (λy u=>by have:=p.pos y u;lia) x o;have:=p.sum;lia
    ·rw[(py.mp w).2];lia
   ·rw[if_neg c];exact⟨a,_,rfl,by lia,f,rfl,e⟩
 ·rintro H m b ⟨a,v,rfl,g,f,rfl,e⟩;rw[zu] at g;exact k a b g f e
theorem O4{n:Nat}{s N:Nat}(hs:s<3)(hN:1<=N)(T:N<=10)(U:bO au n)(k:∀t u,cF t->t.length<=987->bw au u n->Q (.str t) u):WP (ug [.ref n,.int (s:Int),.int (N:Int)] au) Q:=by
 refine df rfl ?_;refine gI (R:=λq p=>∃c:Int,(0<=c/\c<=3)/\bw au p n/\q=.nx [some (.ref n),some (.int (s:Int)),some (.int (N:Int)),some (.int c),none,none,none,none,none,none]) ?_ ?_
 ·simp only[W,V];exact gQ U '!' '!' λc s1 P c1 o=>⟨c,⟨P,by lia⟩,o,rfl⟩
 rintro _ s1 ⟨c,hc,o,rfl⟩;show WP _ _;refine gI (R:=λq p=>∃c:Int,(0<=c/\c<=30)/\bw au p n/\q=.nx [some (.ref n),some (.int (s:Int)),some (.int (N:Int)),some (.int c),none,none,none,none,none,none]) ?_ ?_
 ·simp only[W,V];refine gQ o.bag '!' '!' λa s2 a0 a1 j=>?_
  simp only[W,V];by_cases e:a=3
  ·rw[if_pos e];refine gQ (o.trans j).bag '!' '!' λy s3 y0 y1 I=>?_
   simp only[W,V];exact⟨_,⟨by lia,by lia⟩,(o.trans j).trans I,rfl⟩
  ·rw[if_neg e];exact⟨c,⟨by lia,by lia⟩,o.trans j,rfl⟩
 rintro _ s2 ⟨c,⟨P,c1⟩,j,rfl⟩;show WP _ _;refine gI (R:=λq p=>∃m f z E H C A,Ws au n m f p/\q=.nx [some (.ref n),some (.int (s:Int)),some (.int (N:Int)),some (.int c),z,some (.ref m),E,H,C,A]) ?_ ?_
 ·by_cases s0:s=0
  ·subst s0;unfold bU;rw[show eB (aU dE (aA 1) (eC (.int 0))) [some (.ref n),some (.int ((0:Nat):Int)),some (.int (N:Int)),some (.int c),none,none,none,none,none,none] s2=.ok true s2 from rfl];exact KR hN T P c1 U j λm f z E H C A p h=>⟨m,f,z,E,H,C,A,h,rfl⟩
  ·simp only[W,V];rw[if_neg '!'];refine Jf j.bag '!' '!' '!' '!' λl s3 S l2 l3 I=>?_
   have d:=j.trans I
   try simp only[W,V]
   by_cases J:(s:Int)=2
   ·rw[if_pos J];refine⟨_,rfl,by rw[zu];exact ag _ '!',?_⟩;obtain rfl:s=2:=by lia
    refine Qm S '!' I.bag λG s4 k1 k2 D4=>?_
    refine qD (l:=G) rfl '!' λg=>?_
    have lo:=Ct G;have v:∀r∈aQ G,r.length<=2/\∀x∈r,1<=x/\x<=16:=λr i=>k2 r (Bo i)
    have w:=(d.trans D4).trans (.more (d.trans D4).bag g);generalize aQ G=l'' at lo v;generalize s4++g=s5 at w;refine⟨_,rfl,by rw[zu];exact ag _ '!',?_⟩;refine Oo (b:=false) (λr i=>⟨⟨by have:=(v r i).1;lia,λx X=>by have:=(v r i).2 x X;lia,λx X=>by have:=(v r i).2 x X;lia⟩,by have:=(v r i).1;lia⟩) λf wl Y=>?_
    exact⟨_,f,_,_,_,_,_,⟨by simp,Y,by lia,w.len,w.trans (.more w.bag _)⟩,rfl⟩
   ·rw[if_neg J];obtain rfl:s=1:=by lia
    refine⟨_,rfl,by rw[zu];exact ag _ '!',?_⟩;obtain⟨o1,o2⟩:=wc S l3;refine Oo (b:=true) (λr i=>⟨(o1 r i).1,(S r i).len⟩) λf wl Y=>?_
    exact⟨_,f,_,_,_,_,_,⟨by simp,Y,by lia,d.len,d.trans (.more d.bag _)⟩,rfl⟩
 rintro _ s3 ⟨m,f,z,E,H,C,A,h,rfl⟩;show WP _ _;have hf:=h.few;have el:bE [.ref m] s3=.ok (.int (f.length:Int)) s3:=by
  unfold bE bI dY;simp[h.at0]
 simp only[W,V];rw[el];simp only[W,V];by_cases e:f=[]
 ·subst e;rw[if_neg '&'];exact⟨trivial,k "0" _ (mn (by decide +kernel)) (by decide +kernel) h.drew⟩
 ·have lp:=qZ.mpr e;rw[if_pos '!'];obtain⟨e1,J,e3⟩:=Ir h.ok hf e;refine⟨trivial,qb ?_⟩;simp only[W,V,M];exact⟨_,rfl,_,_,rfl,h.at0,f,rfl,e1,k _ _ J e3 (h.drew.over U.lt h.lo)⟩
structure Ts (au:aa) (n m B:Nat) (ts:List Str) (s:aa):Prop where
 at0:s[m]?=some (.lst (ts.map .str))
 asc:∀t∈ts,cF t
 few:∀t∈ts,t.length<=B
 lo:n<m
 bag:bO s n
theorem u8{N:Nat}(h:Wr s N t l)(a:Wr s N t l'):l=l':=BS h.ok a.ok (h.pieces.symm.trans a.pieces)
theorem GN{s N:Nat}(i:s<3)(o:1<=N)(b:N<=10)(hx:(∃ t,x=.str t/\Tx t)\/∀ g,av [x,.ty "str"] g=.ok (.bl false) g)(k:∀ u j g,QQ (.nx [v0,v1,v2,some (.int (s:Int)),some (.int (N:Int)),v5,v6,some x,u,j]) g):
  WP (A3 [v0,v1,v2,some (.int (s:Int)),some (.int (N:Int)),v5,v6,some x,u,j] g) QQ:=by
 have y:cF ("refused" : Str):=mn (by decide +kernel)
 have v:∀ d,WP (bU (iQ (eB (aU lY (aA 8) (fO (eB (aU (eS true) (aA 9) (eC .non))) (aA 9) (eC (.str "refused"))))) (cn (aG av (aB (aA 8) (aB (eC (.ty "list")) aC))))) (ao (eC (.bl false))) ck [v0,v1,v2,some (.int (s:Int)),some (.int (N:Int)),v5,v6,some x,some (.str "refused"),some .non] d) QQ:=λd=>by
  simp only[W,V];refine WP.of (show eS true D.non D.non _=.ok (.bl false) _ from rfl) ?_;dsimp only[bK];rw[if_neg '"'];refine WP.of (kh (neg:=true) rfl rfl (jI y)) ?_;dsimp only[bK];rw[if_neg '"'];refine WP.of (show av [.str "refused",.ty "list"] d=.ok (.bl false) d from rfl) ⟨false,rfl,?_⟩
  rw[if_neg '"'];exact k _ _ _
 have p:∀ l d,WP (bU (iQ (eB (aU lY (aA 8) (fO (eB (aU (eS true) (aA 9) (eC .non))) (aA 9) (eC (.str "refused"))))) (cn (aG av (aB (aA 8) (aB (eC (.ty "list")) aC))))) (ao (eC (.bl false))) ck [v0,v1,v2,some (.int (s:Int)),some (.int (N:Int)),v5,v6,some x,some (aM l),some (aM l)] d) QQ:=λl d=>by
  simp only[W,V];refine WP.of (show eS true (aM l) D.non _=.ok (.bl true) _ from rfl) ?_;dsimp only[bK];rw[if_pos rfl];refine WP.of (GV (neg:=true) l l) ?_;dsimp only[bK];rw[bH rfl,if_neg '"'];refine WP.of (show av [aM l,.ty "list"] d=.ok (.bl false) d from rfl) ⟨false,rfl,?_⟩
  rw[if_neg '"'];exact k _ _ _
 unfold A3;rcases hx with⟨t,rfl,n⟩|hx
 ·by_cases c:∃l,Wr s N t l
  ·obtain⟨l,w⟩:=c;refine gI (R:=λa _=>a=.nx [v0,v1,v2,some (.int (s:Int)),some (.int (N:Int)),v5,v6,some (.str t),some (aM l),j]) ?_ ?_
   ·simp only[W,V];exact Nt i o b n (λm e g=>by rw[u8 e w]) λh=>absurd w (h l)
   rintro _ r rfl;show WP _ _;refine gI (R:=λa _=>a=.nx [v0,v1,v2,some (.int (s:Int)),some (.int (N:Int)),v5,v6,some (.str t),some (aM l),some (aM l)]) ?_ ?_
   ·simp only[W,V];exact Og i o b n (λm e g=>by rw[u8 e w]) λh=>absurd w (h l)
   rintro _ f rfl;exact p l f
  ·have q:∀l,¬ Wr s N t l:=λl h=>c ⟨l,h⟩
   refine gI (R:=λa _=>a=.nx [v0,v1,v2,some (.int (s:Int)),some (.int (N:Int)),v5,v6,some (.str t),some (.str "refused"),j]) ?_ ?_
   ·simp only[W,V];exact Nt i o b n (λm e g=>absurd e (q m)) λh g=>rfl
   rintro _ r rfl;show WP _ _;refine gI (R:=λa _=>a=.nx [v0,v1,v2,some (.int (s:Int)),some (.int (N:Int)),v5,v6,some (.str t),some (.str "refused"),some .non]) ?_ ?_
   ·simp only[W,V];exact Og i o b n (λm e g=>absurd e (q m)) λh g=>rfl
   rintro _ f rfl;exact v f
 ·refine gI (R:=λa _=>a=.nx [v0,v1,v2,some (.int (s:Int)),some (.int (N:Int)),v5,v6,some x,some (.str "refused"),j]) ?_ ?_
  ·simp only[W,V];exact Jl i (hx _) rfl
  rintro _ r rfl;show WP _ _;refine gI (R:=λa _=>a=.nx [v0,v1,v2,some (.int (s:Int)),some (.int (N:Int)),v5,v6,some x,some (.str "refused"),some .non]) ?_ ?_
  ·simp only[W,V];exact Qk (hx _) rfl
  rintro _ f rfl;exact v f
theorem P4{N:Nat}{b:List Str}(P:b.length=2)(h:Ts au n m 987 b g)(k:∀e b g,Ts au n m 992 b g->b.length<=7->QQ (.nx [v0,v1,some (.ref n),some (.int (s:Int)),some (.int (N:Int)),some (.ref m),e,v7,v8,v9]) g):
  WP (dj (jd (aB (eC (.int 5)) aC)) (gN 6) AZ [v0,v1,some (.ref n),some (.int (s:Int)),some (.int (N:Int)),some (.ref m),e,v7,v8,v9] g) QQ:=by
 simp only[W,V];refine⟨_,rfl,f9 '!' '!',?_⟩;refine kf (λi q g=>∃(b:List Str) (e:Option D),Ts au n m (987+i) b g/\b.length=2+i/\i<=5/\q=[v0,v1,some (.ref n),some (.int (s:Int)),some (.int (N:Int)),some (.ref m),e,v7,v8,v9]) ⟨b,e,h,P,by lia,rfl⟩ ?_ ?_
 ·rintro i x q g I ⟨b,e,h,y,H,rfl⟩;obtain⟨o,rfl⟩:=p6 I;have o:i<5:=o;refine⟨_,rfl,?_⟩;unfold AZ;have E:bE [.ref m] g=.ok (.int (b.length:Int)) g:=by
   unfold bE bI dY;simp[h.at0]
  simp only[W,V,M];refine⟨_,_,rfl,h.at0,?_⟩;rw[E];simp only[W];refine⟨trivial,ag _ '&',?_⟩;refine gQ h.bag '!' '!' λa U Y X z=>?_
  simp only[W,V];refine ES ?_;obtain⟨j,G,u⟩:∃j:Nat,(if a=0 then(b.length:Int)-1 else 0)=(j:Int)/\j<b.length:=by
   split
   ·exact⟨b.length-1,by lia,by lia⟩
   ·exact⟨0,rfl,by lia⟩
  rw[G];have f:U[m]?=some (.lst (b.map .str)):=(z.keep m (jU h.at0) (by have:=h.lo;lia)).trans h.at0;refine iR (xs:=b.map .str) (d:=.str b[j]) (qe f) (si (by rw[dm,bQ u];rfl)) ?_;have r:=h8 u;have hf:=h.few _ r;refine Qu z.bag (h.asc _ r) '!' λS Q J tl v=>?_
  have l:Q[m]?=some (.lst (b.map .str)):=(v.keep m (jU f) (by have:=h.lo;lia)).trans f;refine⟨_,_,rfl,l,by rw[ax,hY];lia,?_⟩;simp only[Dd.L];refine⟨b++[S],_,⟨by rw[lM (jU l),gW];rfl,λt p=>?_,λt p=>?_,h.lo,?_⟩,by simp;lia,by lia,rfl⟩
  ·rcases cM.mp p with w|w
   ·exact h.asc t w
   ·rw[bX.mp w];exact J
  ·rcases cM.mp p with w|w
   ·have:=h.few t w;lia
   ·rw[bX.mp w];lia
  ·obtain⟨c,x,R,C,A⟩:=v.bag;exact⟨c,x,by rw[jF (by have:=h.lo;lia)];exact R,C,A⟩
 ·rintro q g ⟨b,e,h,y,H,rfl⟩;have T:(rng 0 (5:Int).toNat).length=5:=by rw[jA];rfl
  rw[T] at h y;exact k e b g h '!'
theorem Kp{R:D->aa->Prop}(a:0<=i)(b:i<8)(k:∀ d,(∀ g,av [d,.ty "str"] g=.ok (.bl false) g)->R d g):WP (cx (.lst [.non,.int 0,.bl true,.lst [],.tup [.str "a"],.lst [.str "0"],.int ((10:Int)^(39:Int).toNat),.tup []]) (.int i) g) R:=by
 have:i=0\/i=1\/i=2\/i=3\/i=4\/i=5\/i=6\/i=7:=by lia
 rcases this with rfl|rfl|rfl|rfl|rfl|rfl|rfl|rfl
 ·exact iR rfl rfl (k .non λ_=>rfl)
 ·exact iR rfl rfl (k (.int 0) λ_=>rfl)
 ·exact iR rfl rfl (k (.bl true) λ_=>rfl)
 ·exact iR rfl rfl (k (.lst []) λ_=>rfl)
 ·exact iR rfl rfl (k (.tup [.str "a"]) λ_=>rfl)
 ·exact iR rfl rfl (k (.lst [.str "0"]) λ_=>rfl)
 ·exact iR rfl rfl (k (.int ((10:Int)^(39:Int).toNat)) λ_=>rfl)
 ·exact iR rfl rfl (k (.tup []) λ_=>rfl)
theorem Kb(f:List Int)(hl:f.length<=63):∃st',qi [.scr (f.map .int)] []=.ok (.bl true) st':=by
 have Q:WP (qi [.scr (f.map .int)] []) (λv _=>v=.bl true):=by
  refine df rfl ?_;simp only[W,V];have a5:((f.map D.int).length:Int)<=63:=by rw[ax];lia
  have U:(0:Int)<=((f.map D.int).length:Int):=by lia
  generalize ((f.map D.int).length:Int)=len at a5 U;refine⟨_,rfl,f9 (by split<;>split<;>lia) (by split<;>split<;>lia),?_⟩;refine kf (λi z s=>∃S v2 P C A p k c b:Option D,z=[some (.scr (f.map .int)),S,v2,P,C,A,p,k,c,b]) ⟨_,_,_,_,_,_,_,_,_,rfl⟩ ?_ ?_
  ·rintro i x z s hx ⟨S,v2,P,C,A,p,k,c,b,rfl⟩;obtain⟨hi,rfl⟩:=p6 hx;have a7:i<=63:=by split at hi<;>split at hi<;>lia
   refine⟨_,rfl,?_⟩;unfold wh;rw[sK];refine gI (R:=λo l=>∃n,bO l n/\o=.nx [some (.scr (f.map .int)),some (.int (i:Int)),some (.ref n),P,C,A,p,k,c,b]) ?_ ?_
   ·simp only[W,V];exact Eh hl '!' λg y=>⟨_,y,rfl⟩
   rintro _ s1 ⟨n,y,rfl⟩;show WP _ _;refine gI (R:=λo l=>∃s:Nat,s<3/\bO l n/\o=.nx [some (.scr (f.map .int)),some (.int (i:Int)),some (.ref n),some (.int (s:Int)),C,A,p,k,c,b]) ?_ ?_
   ·simp only[W,V];refine gQ y '!' '!' λa s2 G J I=>?_
    exact⟨a.toNat,by lia,I.bag,by rw[show((a.toNat:Nat):Int)=a by lia]⟩
   rintro _ s2 ⟨s,hs,y,rfl⟩;show WP _ _;refine gI (R:=λo l=>∃N:Nat,(1<=N/\N<=10)/\bO l n/\o=.nx [some (.scr (f.map .int)),some (.int (i:Int)),some (.ref n),some (.int (s:Int)),some (.int (N:Int)),A,p,k,c,b]) ?_ ?_
   ·simp only[W,V];refine gQ y '!' '!' λa s2 G J I=>?_
    simp only[W,V];exact⟨(1+a).toNat,by lia,I.bag,by rw[show(((1+a).toNat:Nat):Int)=1+a by lia]⟩
   rintro _ s3 ⟨N,⟨hN,w⟩,y,rfl⟩;show WP _ _;refine gI (R:=λo l=>∃m q,q.length=2/\Ts [] n m 987 q l/\o=.nx [some (.scr (f.map .int)),some (.int (i:Int)),some (.ref n),some (.int (s:Int)),some (.int (N:Int)),some (.ref m),p,k,c,b]) ?_ ?_
   ·simp only[W,V];refine O4 hs hN w y λt1 s4 a6 a2 D1=>?_
    refine gQ D1.bag '!' '!' λa s5 G J I=>?_
    obtain⟨l,rfl⟩:=wK G;refine O4 (s:=l) '!' hN w I.bag λt2 X a4 Y D3=>?_
    refine⟨ag _ '&',_,[t1,t2],rfl,⟨by simp,λt u=>?_,λt u=>?_,D3.bag.lt,(bw.more D3.bag _).bag⟩,rfl⟩
    ·simp only[ce,iB,iy] at u;rcases u with rfl|rfl
     ·exact a6
     ·exact a4
    ·simp only[ce,iB,iy] at u;rcases u with rfl|rfl
     ·exact a2
     ·exact Y
   rintro _ s4 ⟨m,q,tl,r,rfl⟩;show WP _ _;refine gI (R:=λo l=>∃p q,q.length<=7/\Ts [] n m 992 q l/\o=.nx [some (.scr (f.map .int)),some (.int (i:Int)),some (.ref n),some (.int (s:Int)),some (.int (N:Int)),some (.ref m),p,k,c,b]) ?_ ?_
   ·exact P4 tl r λp q g h h7=>⟨p,q,h7,h,rfl⟩
   rintro _ s5 ⟨H,q,t7,r,rfl⟩;show WP _ _;refine gI (R:=λo l=>∃ d,(∀ g,av [d,.ty "str"] g=.ok (.bl false) g)/\l[m]?=some (.lst (q.map .str++[d]))/\o=.nx [some (.scr (f.map .int)),some (.int (i:Int)),some (.ref n),some (.int (s:Int)),some (.int (N:Int)),some (.ref m),H,k,c,b]) ?_ ?_
   ·simp only[W,V,M];refine⟨_,_,rfl,r.at0,ag _ '&',ag _ '&',ag _ '&',⟨by decide,by decide,by decide⟩,ag _ '&',ag _ '&',?_⟩;refine gQ r.bag '!' '!' λa X G J D6=>?_
    refine Kp G J λd T=>?_
    have E:X[m]?=some (.lst (q.map .str)):=(D6.keep m (jU r.at0) (by have:=r.lo;lia)).trans r.at0;exact⟨_,_,rfl,E,by rw[ax,hY];lia,d,T,by rw[lM (jU E)],trivial⟩
   rintro _ X ⟨d,T,a3,rfl⟩;show WP _ _;simp only[W,V,M];refine⟨_,_,rfl,a3,_,rfl,?_⟩;refine kf (λj z g=>∃k c b,z=[some (.scr (f.map .int)),some (.int (i:Int)),some (.ref n),some (.int (s:Int)),some (.int (N:Int)),some (.ref m),H,k,c,b]) ⟨_,_,_,rfl⟩ ?_ ?_
   ·rintro j x z g hx ⟨k,c,b,rfl⟩;refine⟨_,rfl,?_⟩;refine GN hs hN w ?_ λc b g=>?_
    ·rcases cM.mp (fj hx) with h|h
     ·obtain⟨t,u,rfl⟩:=de.mp h;exact .inl ⟨t,rfl,r.asc t u,by have:=r.few t u;lia⟩
     ·rw[bX.mp h];exact .inr T
    ·simp only[Dd.L];exact⟨_,_,_,rfl⟩
   ·rintro z g ⟨k,c,b,rfl⟩;simp only[Dd.L];exact⟨_,_,_,_,_,_,_,_,_,rfl⟩
  ·rintro z s ⟨S,v2,P,C,A,p,k,c,b,rfl⟩;simp only[W,V]
 obtain⟨a,st',e,rfl⟩:=Q.get;exact⟨st',e⟩
end Dd
namespace K69
theorem holds:∀a:List Int,a.length<=63->∃st',Dd.qi [.scr (a.map .int)] []=.ok (.bl true) st':=λa b=>Dd.Kb a b
end K69
namespace K69
open L2 Dd
noncomputable def top(i:Nat):Stmt:=PySem.Challenge.pw_raisedsums_k69_texts_refused.main.body.getD i (.Pass ⟨0,0,0,0⟩)
abbrev BW:Stmt:=top 44
abbrev Cw:Stmt:=top 45
abbrev BX:Stmt:=top 47
abbrev C7:Stmt:=top 48
abbrev CO:Stmt:=top 50
abbrev Da:Stmt:=top 49
abbrev Di:Stmt:=top 46
abbrev Dc:Stmt:=top 55
abbrev C4:Stmt:=top 34
abbrev CQ:Stmt:=top 35
abbrev C5:Stmt:=top 36
abbrev CZ:Stmt:=top 37
abbrev CA:Stmt:=top 2
abbrev BZ:Stmt:=top 1
abbrev CJ:Stmt:=top 7
abbrev Bx:Stmt:=top 8
abbrev Ck:Stmt:=top 30
abbrev CT:Stmt:=top 27
abbrev C1:Stmt:=top 28
abbrev Cm:Stmt:=top 31
abbrev Co:Stmt:=top 39
abbrev Cj:Stmt:=top 40
abbrev CY:Stmt:=top 38
abbrev qI:Stmt:=top 12
abbrev Bw:Stmt:=top 13
abbrev BY:Stmt:=top 14
abbrev C0:Stmt:=top 29
abbrev CD:Stmt:=top 32
abbrev CC:Stmt:=top 41
abbrev Df:Stmt:=top 18
abbrev CB:Stmt:=top 17
abbrev Cz:Stmt:=top 19
abbrev CH:Stmt:=top 20
abbrev CS:Stmt:=top 33
abbrev CP:Stmt:=top 42
abbrev Cy:Stmt:=top 58
abbrev C8:Stmt:=top 51
abbrev De:Stmt:=top 52
abbrev C3:Stmt:=top 53
abbrev CW:Stmt:=top 54
abbrev Db:Stmt:=top 56
abbrev CV:Stmt:=top 57
abbrev kq:Stmt:=top 59
theorem OA:ak ["_law_script","_law_at","_law_cell","_law_mix","_law_k"] ["_law_script","_law_at"] (af BW):=⟨rfl,rfl,rfl,by decide +kernel,rfl,by decide +kernel,by decide +kernel⟩
theorem QB{K:Fg}(T:ap K "_law_bag" BW)(l:K.In h)(G:h.Ns mainGlobals mg)(e:mg "len"=none)(a:mg "abs"=none)(b:mg "min"=none)(m:mg "range"=none):aj P w K mg base "_law_bag" 1 ["_law_script","_law_at"] ua:=
 have c:=OA.nd
 zw (k:=0) T l G OA (λ_ _ _ _ _ _ j o=>fx j o λ_ _=>rfl) λf n A d s H E g=>(ze (zq (i:=2) c rfl '%' zh)
 (ze (dg (zo (nk g.units0) nj (zb (pv 1)) (zn zy iS rfl e gi (za '#' zc)) (ai _)) (zg (zq (i:=2) c rfl '%' (zn HQ Ed rfl a Ei (za (gH '#' (zb (pv 1)) (λ_ _=>rfl)) zc)))) cW)
 (ze (zq (i:=3) c rfl '%' (bB di dh (bB nl (cy λ_ _ _ _=>.int _) zh (zb (pv 1))) zh))
 (ze (kg iX rfl (lf rfl m (za (zn (BC rfl) nD rfl b qy (za (zn zy iS rfl e gi (za '#' zc)) (za zh zc))) zc)) (zt (i:=4) c rfl '%')
 (zg (zq (i:=3) c rfl '%' (bB mH (cy λ_ _ _ _=>.int _) (bB di dh (bB di dh (bB nl (cy λ_ _ _ _=>.int _) (zb (pv 3)) zh) (bB mH (cy λ_ _ _ _=>.int _) (gH '#' (zb (pv 4)) (λ_ _=>rfl)) zh)) (zb (pv 4))) zh))))
 (ze (dg (zo (nk g.units0) nj (zb (pv 2)) (bB vb (cy λ_ _ _ _=>.int _) zh zh) (ai _)) (zg (zq (i:=2) c rfl '%' zh)) cW)
 (zg (zk (r0 (za (zb (pv 2)) (za (zb (pv 3)) zc))))))))))
theorem OS:ak ["_law_bag_here","_law_many","_law_digit","_law_number","_law_room"] ["_law_bag_here","_law_many"] (af Cw):=⟨rfl,rfl,rfl,by decide +kernel,rfl,by decide +kernel,by decide +kernel⟩
theorem QZ{K:Fg}(T:ap K "_law_take" Cw)(d:K.In h)(G:h.Ns mainGlobals mg): aj P w K mg base "_law_take" 1 ["_law_bag_here","_law_many"] zp:=
 have a:=OS.nd
 zw (k:=0) T d G OS (λ_ _ _ _ _ _ c g=>fx c g λ_ _=>rfl) λf e A b s H E j=>(ze (dg (zo k6 (eH λ_ _ _ _=>.bl _) (gH '#' zh (λ_ _=>rfl)) zh (ai _)) (ze (zq (i:=2) a rfl '%' (bB mH (cy λ_ _ _ _=>.int _) (gH '#' zh (λ_ _=>rfl)) (zb (pv 1))))
 (ze (tW (bB Nd (cy λ_ _ _ _=>.int _) (gH '#' zh (λ_ _=>rfl)) (zb (pv 1))) '#' zh)
 (zg (zk (zb (pv 2)))))) cW)
 (ze (zq (i:=3) a rfl '%' zh)
 (ze (zq (i:=4) a rfl '%' zh)
 (ze (yC iX (zo (nk j.units0) nj (zb (pv 4)) (zb (pv 1)) (ai _)) (ze (tW (bB mH (cy λ_ _ _ _=>.int _) (bB di dh (bB nl (cy λ_ _ _ _=>.int _) (gH '#' zh (λ_ _=>rfl)) zh) zh) zh) '#' zh)
 (ze (zq (i:=3) a rfl '%' (bB di dh (bB nl (cy λ_ _ _ _=>.int _) (zb (pv 3)) zh) (bB mH (cy λ_ _ _ _=>.int _) (bB nl (cy λ_ _ _ _=>.int _) (bB Nd (cy λ_ _ _ _=>.int _) (gH '#' zh (λ_ _=>rfl)) zh) zh) zh)))
 (zg (zq (i:=4) a rfl '%' (bB nl (cy λ_ _ _ _=>.int _) (zb (pv 4)) zh))))))
 (zg (zk (bB mH (cy λ_ _ _ _=>.int _) (zb (pv 3)) (zb (pv 1)))))))))
theorem OB:ak ["_law_products","_law_often","_law_product"] ["_law_products"] (af BX):=⟨rfl,rfl,rfl,by decide +kernel,rfl,by decide +kernel,by decide +kernel⟩
theorem QC{K:Fg}(T:ap K "_law_odd" BX)(j:K.In h)(G:h.Ns mainGlobals mg)(a:mg "sorted"=none)(g:mg "tuple"=none):aj P w K mg base "_law_odd" 1 ["_law_products"] nw:=
 have d:=OB.nd
 zw (k:=0) T j G OB (λ_ _ _ _ _ _ e m=>cA e m λ_=>rfl) λf l A c s H E b=>(ze (zq (i:=1) d rfl (Or.inr rfl) Gd)
 (ze (kg iX rfl (gp '#') (zt (i:=2) d rfl '%')
 (zg (Ij (qo b) (zb (pv 1)) (zb (pv 2)) (bB di dh (Ia (qo b) (zb (pv 1)) (zb (pv 2)) zh ⟨rfl,rfl,rfl,rfl⟩) zh) rfl)))
 (zg (zk (iT nC nr rfl g jz (za (zn (QT rfl b.units) Jw rfl a Jx (za (gP rfl (Ie (zb (pv 1))) (λ_ _ _ _ _=>(zt (i:=0) (show(["_law_product","_law_often"]:List Str).Nodup from by decide +kernel) rfl '%')) (λ_ _ _ _ _=>(tS (zo (eN b.units) dq (bB mH (cy λ_ _ _ _=>.int _) (Gc (qo b) (zb (pv 1)) '#' (λ_ _=>rfl)) zh) zh (ai _)))) (λ_ _ _ _ _=>'#') (N:=["_law_product","_law_often"]) (k:=1) (is:=[1]) (eO (by rfl))) zc)) zc))))))
theorem Pv:ak ["_law_bag_here","_law_most","_law_row","_law_left","_law_k","_law_part"] ["_law_bag_here","_law_most"] (af C7):=⟨rfl,rfl,rfl,by decide +kernel,rfl,by decide +kernel,by decide +kernel⟩
theorem RP{K:Fg}(T:ap K "_law_drawn_row" C7)(l:K.In h)(G:h.Ns mainGlobals mg)(j:mg "range"=none)(a:mg "min"=none)(c:aj P w K mg base "_law_take" 1 ["_law_bag_here","_law_many"] zp):aj P w K mg base "_law_drawn_row" 2 ["_law_bag_here","_law_most"] yZ:=
 have b:=Pv.nd
 zw (k:=1) T l G Pv (λ_ _ _ _ _ _ g n=>fx g n λ_ _=>rfl) λf m A d s H E e=>(ze (zq (i:=2) b rfl '%' (kL zc))
 (ze (zq (i:=3) b rfl '%' (zb (pv 1)))
 (ze (kg iX rfl (lf rfl j (za (zm c '$' (e.mono '"') rfl (za '#' (za zh zc))) zc)) (zt (i:=4) b rfl '%')
 (zg (dg (zo k6 (eH λ_ _ _ _=>.bl _) (zb (pv 3)) zh (ai _)) (ze (zq (i:=5) b rfl '%' (bB di dh zh (zm c '$' (e.mono '"') rfl (za '#' (za (gH (mE (za (zb (pv 3)) (za (zn (BC rfl) nD rfl a qy (za (zb (pv 3)) (za zh zc))) zc))) (zm c '$' (e.mono '"') rfl (za '#' (za zh zc))) (λ_ _=>rfl)) zc)))))
 (ze (zq (i:=2) b rfl '%' (bB di dh (zb (pv 2)) (kL (za (zb (pv 5)) zc))))
 (zg (zq (i:=3) b rfl '%' (bB k8 (eH λ_ _ _ _=>.int _) (zb (pv 3)) (zb (pv 5))))))) cW)))
 (zg (zk (zb (pv 2)))))))
theorem Pa:ak ["_law_row","_law_more"] ["_law_row","_law_more"] (af CO):=⟨rfl,rfl,rfl,by decide +kernel,rfl,by decide +kernel,by decide +kernel⟩
theorem Rn{K:Fg}(T:ap K "_law_filled" CO)(d:K.In h)(G:h.Ns mainGlobals mg)(g:mg "len"=none):aj P w K mg base "_law_filled" 1 ["_law_row","_law_more"] yS:=
 have j:=Pa.nd
 zw (k:=0) T d G Pa (λ_ _ _ _ _ _ c i=>fx c i λ_ _=>rfl) λf e A a s H E b=>(ze (dg (zo (eN b.units) dq (zb (pv 1)) zh (ai _)) (zg (zk '#')) cW)
 (ze (dg (zo (nk b.units0) nj (zn zy iS rfl g gi (za '#' zc)) zh (ai _)) (zg (zk (bB di dh '#' (kL (za (zb (pv 1)) zc))))) cW)
 (zg (zk (bB di dh (iU '#' js (gJ (rX zh))) (kL (za (bB di dh (gH '#' (rX zh) (λ_ _=>rfl)) (zb (pv 1))) zc)))))))
theorem Px:ak ["_law_bag_here","_law_many","_law_most","_law_rows","_law_top"] ["_law_bag_here","_law_many","_law_most"] (af Da):=⟨rfl,rfl,rfl,by decide +kernel,rfl,by decide +kernel,by decide +kernel⟩
theorem RT{K:Fg}(T:ap K "_law_drawn_rows" Da)(m:K.In h)(G:h.Ns mainGlobals mg)(l:mg "range"=none)(e:mg "sum"=none)(a:mg "max"=none)(g:aj P w K mg base "_law_drawn_row" 2 ["_law_bag_here","_law_most"] yZ)(o:aj P w K mg base "_law_take" 1 ["_law_bag_here","_law_many"] zp)(n:aj P w K mg base "_law_filled" 1 ["_law_row","_law_more"] yS)(p:aj P w K mg base "_law_odd" 1 ["_law_products"] nw):aj P w K mg base "_law_drawn_rows" 3 ["_law_bag_here","_law_many","_law_most"] y9:=
  have c:=Px.nd
  zw (k:=2) T m G Px (λ_ _ _ _ _ _ j r=>kE j r λ_ _ _=>rfl) λf q A d s H E b=>(ze (yi (i:=3) rfl c rfl '%' (lf rfl l (za (zb (pv 1)) zc)) (λ_ _ _ _ _=>(zt (i:=0) (show(["_law_k","_law_bag_here","_law_most"]:List Str).Nodup from by decide +kernel) rfl '%')) (λ_ _ _ _ _=>fU) (λ_ _ _ _ _=>(zm g '$' (b.mono '"') rfl (za (zb (pv 1)) (za (zb (pv 2)) zc)))) (N:=["_law_k","_law_bag_here","_law_most"]) (k:=1) (is:=[0,2]) (eO (by rfl)))
  (ze (dg (JW.pt (tJ (zo (eN b.units) dq (zm o '$' (b.mono '"') rfl (za '#' (za zh zc))) zh (ai _)) (jq (zo k6 (eH λ_ _ _ _=>.bl _) (zb (pv 1)) zh (ai _)) (by first|exact Or.inl rfl|exact Or.inr rfl)))) (ze (zq (i:=4) c rfl (Or.inr rfl) (zn (JC rfl) FZ rfl a uC (za (gP rfl (gp (zb (pv 3))) (λ_ _ _ _ _=>(zt (i:=0) (show(["_law_row"]:List Str).Nodup from by decide +kernel) rfl '%')) (λ_ _ _ _ _=>fU) (λ_ _ _ _ _=>(zn (tV rfl) tz rfl e tE (za '#' zc))) (N:=["_law_row"]) (k:=1) (is:=[]) (eO (by rfl))) zc)))
  (zg (yi (i:=3) rfl c rfl '%' (gp (zb (pv 3))) (λ_ _ _ _ _=>(zt (i:=0) (show(["_law_row","_law_top"]:List Str).Nodup from by decide +kernel) rfl '%')) (λ_ _ _ _ _=>fU) (λ_ _ _ _ _=>(zm n '$' (b.mono '"') rfl (za '#' (za (bB k8 (eH λ_ _ _ _=>.int _) (zb (pv 1)) (zn (tV rfl) tz rfl e tE (za '#' zc))) zc)))) (N:=["_law_row","_law_top"]) (k:=1) (is:=[4]) (eO (by rfl))))) cW)
  (zg (zk (zm p '$' (b.mono '"') rfl (za (zb (pv 3)) zc))))))
theorem PH:ak ["_law_bag_here","_law_n","_law_most","_law_left","_law_start","_law_exponents","_law_k","_law_e"] ["_law_bag_here","_law_n","_law_most"] (af Di):=⟨rfl,rfl,rfl,by decide +kernel,rfl,by decide +kernel,by decide +kernel⟩
theorem RY{K:Fg}(T:ap K "_law_drawn_product" Di)(l:K.In h)(G:h.Ns mainGlobals mg)(e:mg "range"=none)(j:mg "tuple"=none)(b:aj P w K mg base "_law_take" 1 ["_law_bag_here","_law_many"] zp):aj P w K mg base "_law_drawn_product" 2 ["_law_bag_here","_law_n","_law_most"] sJ:=
  have a:=PH.nd
  zw (k:=1) T l G PH (λ_ _ _ _ _ _ g n=>kE g n λ_ _ _=>rfl) λf m A c s H E d=>(ze (zq (i:=3) a rfl '%' (zm b '$' (d.mono '"') rfl (za '#' (za (bB di dh (zb (pv 2)) zh) zc))))
  (ze (zq (i:=4) a rfl '%' (zm b '$' (d.mono '"') rfl (za '#' (za (zb (pv 1)) zc))))
  (ze (BF (i:=5) rfl a rfl '%' (lf rfl e (za (zb (pv 1)) zc)) (λ_ _ _ _ _=>(zt (i:=0) (show(["_law_letter"]:List Str).Nodup from by decide +kernel) rfl '%')) (λ_ _ _ _ _=>fU) (λ_ _ _ _ _=>zh) (N:=["_law_letter"]) (k:=1) (is:=[]) (eO (by rfl)))
  (ze (kg iX rfl (lf rfl e (za (bB k8 (eH λ_ _ _ _=>.int _) (zb (pv 1)) zh) zc)) (zt (i:=6) a rfl '%')
  (ze (zq (i:=7) a rfl '%' (zm b '$' (d.mono '"') rfl (za '#' (za (bB di dh (zb (pv 3)) zh) zc))))
  (ze (tW (zb (pv 7)) (zb (pv 5)) (bB mH (cy λ_ _ _ _=>.int _) (bB di dh (zb (pv 4)) (zb (pv 6))) (zb (pv 1))))
  (zg (zq (i:=3) a rfl '%' (bB k8 (eH λ_ _ _ _=>.int _) (zb (pv 3)) (zb (pv 7))))))))
  (ze (tW (zb (pv 3)) (zb (pv 5)) (bB mH (cy λ_ _ _ _=>.int _) (bB k8 (eH λ_ _ _ _=>.int _) (bB di dh (zb (pv 4)) (zb (pv 1))) zh) (zb (pv 1))))
  (zg (zk (iT nC nr rfl j jz (za (zb (pv 5)) zc)))))))))
theorem Pz:ak ["_law_bag_here","_law_sort","_law_n","_law_many","_law_some","_law_words","_law_product","_law_letters","_law_word","_law_rows"] ["_law_bag_here","_law_sort","_law_n"] (af Dc):=⟨rfl,rfl,rfl,by decide +kernel,rfl,by decide +kernel,by decide +kernel⟩
theorem RV{K:Fg}(T:ap K "_law_drawn_text" Dc)(o:K.In h)(G:h.Ns mainGlobals mg)(g:mg "range"=none)(e:mg "str"=none)(m:mg "sum"=none)(l:mg "len"=none)(c:aj P w K mg base "_law_take" 1 ["_law_bag_here","_law_many"] zp)(j:aj P w K mg base "_law_odd" 1 ["_law_products"] nw)(p:aj P w K mg base "_law_drawn_product" 2 ["_law_bag_here","_law_n","_law_most"] sJ)(q:aj P w K mg base "_law_drawn_rows" 3 ["_law_bag_here","_law_many","_law_most"] y9):aj P w K mg base "_law_drawn_text" 4 ["_law_bag_here","_law_sort","_law_n"] ug:=
  have b:=Pz.nd
  zw (k:=3) T o G Pz (λ_ _ _ _ _ _ n t=>kE n t λ_ _ _=>rfl) λf r A d s H E a=>(ze (zq (i:=3) b rfl '%' (zm c '$' (a.mono '"') rfl (za '#' (za zh zc))))
  (ze (dg (zo (eN a.units) dq (zm c '$' (a.mono '"') rfl (za '#' (za zh zc))) zh (ai _)) (zg (zq (i:=3) b rfl '%' (bB di dh zh (zm c '$' (a.mono '"') rfl (za '#' (za zh zc)))))) cW)
  (ze (dg (zo (eN a.units) dq (zb (pv 1)) zh (ai _)) (ze (zq (i:=4) b rfl '%' (zm j '$' (a.mono '"') rfl (za (gP rfl (lf rfl g (za (zb (pv 3)) zc)) (λ_ _ _ _ _=>(zt (i:=0) (show(["_law_k","_law_bag_here","_law_n"]:List Str).Nodup from by decide +kernel) rfl '%')) (λ_ _ _ _ _=>fU) (λ_ _ _ _ _=>(zm p '$' (a.mono '"') rfl (za (zb (pv 1)) (za (zb (pv 2)) (za zh zc))))) (N:=["_law_k","_law_bag_here","_law_n"]) (k:=1) (is:=[0,2]) (eO (by rfl))) zc)))
  (ze (zq (i:=5) b rfl '%' (r0 zc))
  (zg (kg iX rfl (gp (zb (pv 4))) (zt (i:=6) b rfl (Or.inr rfl))
  (ze (yi (i:=7) rfl b rfl '%' (lf rfl g (za (zb (pv 2)) zc)) (λ_ _ _ _ _=>(zt (i:=0) (show(["_law_k","_law_product"]:List Str).Nodup from by decide +kernel) rfl '%')) (λ_ _ _ _ _=>(tS (zo k6 (eH λ_ _ _ _=>.bl _) (gH (zb (pv 1)) '#' (λ_ _=>rfl)) zh (ai _)))) (λ_ _ _ _ _=>'#') (N:=["_law_k","_law_product"]) (k:=1) (is:=[6]) (eO (by rfl)))
  (ze (zq (i:=8) b rfl '%' (p0 cG (za (gP rfl (gp (zb (pv 7))) (λ_ _ _ _ _=>(zt (i:=0) (show(["_law_k","_law_product"]:List Str).Nodup from by decide +kernel) rfl '%')) (λ_ _ _ _ _=>fU) (λ_ _ _ _ _=>(bB di dh (ng cG '#' (λ_ _=>rfl)) (iM (zo k6 (eH λ_ _ _ _=>.bl _) (gH (zb (pv 1)) '#' (λ_ _=>rfl)) zh (ai _)) (iT yA xR rfl e rW (za (gH (zb (pv 1)) '#' (λ_ _=>rfl)) zc)) cG))) (N:=["_law_k","_law_product"]) (k:=1) (is:=[6]) (eO (by rfl))) zc)))
  (zg (o5 (qd (zb (pv 5)) (za (iM (zo (oZ a.units) dq (zb (pv 8)) cG (ai _)) (zb (pv 8)) cG) zc)))))))))) (ze (zq (i:=9) b rfl '%' (zm q '$' (a.mono '"') rfl (za '#' (za (zb (pv 3)) (za zh zc)))))
  (ze (dg (zo (eN a.units) dq (zb (pv 1)) zh (ai _)) (zg (zq (i:=9) b rfl '%' (zm j '$' (a.mono '"') rfl (za (gP rfl (gp (zb (pv 9))) (λ_ _ _ _ _=>(zt (i:=0) (show(["_law_row","_law_bag_here"]:List Str).Nodup from by decide +kernel) rfl '%')) (λ_ _ _ _ _=>(tS (zo (nk a.units0) nj (zn (tV rfl) tz rfl m tE (za (iU '#' js (gJ zh)) zc)) zh (ai _)))) (λ_ _ _ _ _=>(bB di dh (iU '#' js (gJ zh)) (bB AO AN (kL (za zh zc)) (zm c '$' (a.mono '"') rfl (za (zb (pv 1)) (za zh zc)))))) (N:=["_law_row","_law_bag_here"]) (k:=1) (is:=[0]) (eO (by rfl))) zc)))) cW)
  (zg (BF (i:=5) rfl b rfl '%' (gp (zb (pv 9))) (λ_ _ _ _ _=>(zt (i:=0) (show(["_law_row","_law_sort"]:List Str).Nodup from by decide +kernel) rfl '%')) (λ_ _ _ _ _=>fU) (λ_ _ _ _ _=>(iM (zo k6 (eH λ_ _ _ _=>.bl _) (zn zy iS rfl l gi (za '#' zc)) zh (ai _)) (p0 (ng cG (bB k8 (eH λ_ _ _ _=>.int _) (zb (pv 1)) zh) (λ_ _=>rfl)) (za (gP rfl (gp '#') (λ_ _ _ _ _=>(zt (i:=0) (show(["_law_part"]:List Str).Nodup from by decide +kernel) rfl '%')) (λ_ _ _ _ _=>fU) (λ_ _ _ _ _=>(iT yA xR rfl e rW (za '#' zc))) (N:=["_law_part"]) (k:=1) (is:=[]) (eO (by rfl))) zc)) cG)) (N:=["_law_row","_law_sort"]) (k:=1) (is:=[1]) (eO (by rfl)))))))
  (zg (zk (iM (zo k6 (eH λ_ _ _ _=>.bl _) (zn zy iS rfl l gi (za (zb (pv 5)) zc)) zh (ai _)) (p0 cG (za (ui (zb (pv 5))) zc)) cG))))))
theorem Pr:ak ["text","told","sign"] ["text"] (af C4):=⟨rfl,rfl,rfl,by decide +kernel,rfl,by decide +kernel,by decide +kernel⟩
theorem RJ{K:Fg}(T:ap K "figures_ahead" C4)(e:K.In h)(G:h.Ns mainGlobals mg) (a:mg "FIGURES"=some (.str "0123456789" k_FIGURES)):aj P w K mg base "figures_ahead" 1 ["text"] pb:=
 have b:=Pr.nd
 zw (k:=0) T e G Pr (λ_ _ _ _ _ _ d j=>cA d j λ_=>rfl) λf g A c s H E l=>(ze (zq (i:=1) b rfl '%' cG)
 (ze (kg iX rfl (AG '#') (zt (i:=2) b rfl '%')
 (ze (dg (zo OR vT (zb (pv 2)) (gn (jy (v:=.str "0123456789") rfl a ⟨_,rfl⟩) (λ_ _=>.str _)) rfl) (zg JY) cW)
 (zg (vF (i:=1) b rfl '%' (zb (pv 2)) GK DM))))
 (zg (zk (zb (pv 1))))))
theorem Pd:ak ["text"] ["text"] (af CQ):=⟨rfl,rfl,rfl,by decide +kernel,rfl,by decide +kernel,by decide +kernel⟩
theorem Rr{K:Fg}(T:ap K "read_number" CQ)(j:K.In h)(G:h.Ns mainGlobals mg)(m:mg "len"=none)(d:mg "int"=none)(e:mg "str"=none) (a:mg "MOST_FIGURES"=some (.int 2 k_MOST_FIGURES))(i:aj P w K mg base "figures_ahead" 1 ["text"] pb):aj P w K mg base "read_number" 2 ["text"] qh:=
 have o:=Pd.nd
 zw (k:=1) T j G Pd (λ_ _ _ _ _ _ g n=>cA g n λ_=>rfl) λf l A b s H E c=>(ze (dg (JW.pt (kM (jS (J0 ko ko (eH λ_ _ _ _=>.bl _) (eH λ_ _ _ _=>.bl _) zh (zn qg pZ rfl m gi (za '#' zc)) (gn (jy (v:=.int 2) rfl a ⟨_,rfl⟩) (λ_ _=>.int _)))) (jq (zo (oZ c.units) dq (zm i '$' (c.mono '"') rfl (za '#' zc)) '#' (ai _)) (by first|exact Or.inl rfl|exact Or.inr rfl)))) (zg (zk iN)) cW)
 (zg (zk (iM (zo (eN c.units) dq (iT yA xR rfl e rW (za (iT BB AE rfl d tB (za '#' zc)) zc)) '#' (ai _)) (iT BB AE rfl d tB (za '#' zc)) iN))))
theorem Ps:ak ["figures"] ["figures"] (af C5):=⟨rfl,rfl,rfl,by decide +kernel,rfl,by decide +kernel,by decide +kernel⟩
theorem RK{K:Fg}(T:ap K "read_exponent" C5)(d:K.In h)(G:h.Ns mainGlobals mg)(c:aj P w K mg base "read_number" 2 ["text"] qh):aj P w K mg base "read_exponent" 3 ["figures"] ue:=
 have j:=Ps.nd
 zw (k:=2) T d G Ps (λ_ _ _ _ _ _ b g=>cA b g λ_=>rfl) λf e A a s H E i=>(zg (zk (iM (M4 '#') (zm c '$' (i.mono '"') rfl (za '#' zc)) zh)))
theorem Pk:ak ["n","text","told","letter","e","figures"] ["n","text"] (af CZ):=⟨rfl,rfl,rfl,by decide +kernel,rfl,by decide +kernel,by decide +kernel⟩
theorem RA{K:Fg}(T:ap K "read_product" CZ)(m:K.In h)(G:h.Ns mainGlobals mg)(o:mg "len"=none)(l:mg "tuple"=none) (a:mg "LETTERS"=some (.str "abcdefghij" k_LETTERS))(j:aj P w K mg base "figures_ahead" 1 ["text"] pb)(g:aj P w K mg base "read_exponent" 3 ["figures"] ue):aj P w K mg base "read_product" 4 ["n","text"] qj:=
 have b:=Pk.nd
 zw (k:=3) T m G Pk (λ_ _ _ _ _ _ e p=>fx e p λ_ _=>rfl) λf n A d s H E c=>(ze (dg (zo (eN c.units) dq (zb (pv 1)) cG (ai _)) (zg (zk (bB AO AN (kL (za zh zc)) '#'))) cW)
 (ze (zq (i:=2) b rfl '%' (r0 zc))
 (ze (kg iX rfl (AG (k7 (gn (jy (v:=.str "abcdefghij") rfl a ⟨_,rfl⟩) (λ_ _=>.str _)) js (gJ '#'))) (zt (i:=3) b rfl '%')
 (ze (zq (i:=4) b rfl '%' zh)
 (ze (dg (iu (JQ (zb (pv 1)) (za (zb (pv 3)) zc))) (ze (zq (i:=5) b rfl '%' (zm j '$' (c.mono '"') rfl (za (k7 (zb (pv 1)) (gJ zh) js) zc)))
 (ze (zq (i:=1) b rfl '%' (k7 (zb (pv 1)) (gJ (bB di dh zh (zn qg pZ rfl o gi (za (zb (pv 5)) zc)))) js))
 (zg (zq (i:=4) b rfl '%' (zm g '$' (c.mono '"') rfl (za (zb (pv 5)) zc)))))) cW)
 (zg (o5 (qd (zb (pv 2)) (za (zb (pv 4)) zc)))))))
 (zg (zk (iM (zo (eN c.units) dq (zb (pv 1)) cG (ai _)) (iT nC nr rfl l jz (za (zb (pv 2)) zc)) iN))))))
theorem OV:ak ["things"] ["things"] (af CA):=⟨rfl,rfl,rfl,by decide +kernel,rfl,by decide +kernel,by decide +kernel⟩
theorem Q2{K:Fg}(T:ap K "is_rising" CA)(d:K.In h)(G:h.Ns mainGlobals mg)(a:mg "zip"=none)(e:mg "all"=none):aj P w K mg base "is_rising" 1 ["things"] o9:=
 have m:=OV.nd
 zw (k:=0) T d G OV (λ_ _ _ _ _ _ c j=>cA c j λ_=>rfl) λf g A b s H E l=>(zg (zk (zn (p8 rfl) pU rfl e pV (za (gP rfl (Gm rfl a (za '#' (za (iU '#' (gJ zh) js) zc))) (λ_ _ _ _ _=>(vC rfl (yB (zt (i:=0) (show(["one","other"]:List Str).Nodup from by decide +kernel) rfl '%') (yB (zt (i:=1) (show(["one","other"]:List Str).Nodup from by decide +kernel) rfl '%') M3)))) (λ_ _ _ _ _=>fU) (λ_ _ _ _ _=>(nc (nk l.units0) nj '#' (zb (pv 1)) (ai _))) (N:=["one","other"]) (k:=2) (is:=[]) (eO (by rfl))) zc))))
theorem OD:ak ["thing"] ["thing"] (af BZ):=⟨rfl,rfl,rfl,by decide +kernel,rfl,by decide +kernel,by decide +kernel⟩
theorem QE{K:Fg}(T:ap K "is_whole" BZ)(e:K.In h)(G:h.Ns mainGlobals mg)(a:mg "bool"=none)(c:mg "isinstance"=none)(g:mg "int"=none):aj P w K mg base "is_whole" 1 ["thing"] o6:=
 have l:=OD.nd
 zw (k:=0) T e G OD (λ_ _ _ _ _ _ d j=>cA d j λ_=>rfl) λf i A b s H E m=>(zg (zk (mD (zn lg lc rfl c kP (za '#' (za (gn (kO (v:=.ty "int") rfl g tB rfl) (λ_ _=>.ty _)) zc))) (mF (Er (zn lg lc rfl c kP (za '#' (za (gn (kO (v:=.ty "bool") rfl a F0 rfl) (λ_ _=>.ty _)) zc))))))))
theorem O6:ak ["n","thing"] ["n","thing"] (af CJ):=⟨rfl,rfl,rfl,by decide +kernel,rfl,by decide +kernel,by decide +kernel⟩
theorem Rj{K:Fg}(T:ap K "is_product" CJ)(g:K.In h)(G:h.Ns mainGlobals mg)(n:mg "len"=none)(e:mg "tuple"=none)(m:mg "isinstance"=none)(j:mg "all"=none)(d:aj P w K mg base "is_whole" 1 ["thing"] o6):aj P w K mg base "is_product" 2 ["n","thing"] yR:=
 have p:=O6.nd
 zw (k:=1) T g G O6 (λ_ _ _ _ _ _ c o=>fx c o λ_ _=>rfl) λf l A a s H E b=>(ze (dg (JW.pt (kM (jS (iu (zn lg lc rfl m kP (za (zb (pv 1)) (za (gn (kO (v:=.ty "tuple") rfl e jz rfl) (λ_ _=>.ty _)) zc))))) (jq (zo (oZ b.units) dq (zn zy iS rfl n gi (za (zb (pv 1)) zc)) '#' (ai _)) (by first|exact Or.inl rfl|exact Or.inr rfl)))) (zg (zk gR)) cW)
 (zg (zk (zn (p8 rfl) pU rfl j pV (za (gP rfl (gp (zb (pv 1))) (λ_ _ _ _ _=>(zt (i:=0) (show(["e"]:List Str).Nodup from by decide +kernel) rfl '%')) (λ_ _ _ _ _=>fU) (λ_ _ _ _ _=>(mD (zm d '$' (b.mono '"') rfl (za '#' zc)) (mF (nc nI (eH λ_ _ _ _=>.bl _) '#' zh (ai _))))) (N:=["e"]) (k:=1) (is:=[]) (eO (by rfl))) zc)))))
theorem NQ:ak ["n","thing"] ["n","thing"] (af Bx):=⟨rfl,rfl,rfl,by decide +kernel,rfl,by decide +kernel,by decide +kernel⟩
theorem Ks{K:Fg}(T:ap K "is_sum" Bx)(g:K.In h)(G:h.Ns mainGlobals mg)(e:mg "tuple"=none)(n:mg "isinstance"=none)(j:mg "all"=none)(c:aj P w K mg base "is_rising" 1 ["things"] o9)(l:aj P w K mg base "is_product" 2 ["n","thing"] yR):aj P w K mg base "is_sum" 3 ["n","thing"] yz:=
 have p:=NQ.nd
 zw (k:=2) T g G NQ (λ_ _ _ _ _ _ d o=>fx d o λ_ _=>rfl) λf m A a s H E b=>(ze (dg (jS (iu (zn lg lc rfl n kP (za (zb (pv 1)) (za (gn (kO (v:=.ty "tuple") rfl e jz rfl) (λ_ _=>.ty _)) zc))))) (zg (zk gR)) cW)
 (zg (zk (mD (zn (p8 rfl) pU rfl j pV (za (gP rfl (gp (zb (pv 1))) (λ_ _ _ _ _=>(zt (i:=0) (show(["product","n"]:List Str).Nodup from by decide +kernel) rfl '%')) (λ_ _ _ _ _=>fU) (λ_ _ _ _ _=>(zm l '$' (b.mono '"') rfl (za (zb (pv 1)) (za '#' zc)))) (N:=["product","n"]) (k:=1) (is:=[0]) (eO (by rfl))) zc)) (mF (zm c '$' (b.mono '"') rfl (za (zb (pv 1)) zc)))))))
theorem OF:ak ["texts"] ["texts"] (af Ck):=⟨rfl,rfl,rfl,by decide +kernel,rfl,by decide +kernel,by decide +kernel⟩
theorem QG{K:Fg}(T:ap K "show_all" Ck)(e:K.In h)(G:h.Ns mainGlobals mg) (a:mg "BETWEEN"=some (.str " + " k_BETWEEN)) (b:mg "NOTHING"=some (.str "0" k_NOTHING)):aj P w K mg base "show_all" 1 ["texts"] o7:=
 have j:=OF.nd
 zw (k:=0) T e G OF (λ_ _ _ _ _ _ d i=>cA d i λ_=>rfl) λf g A c s H E l=>(zg (zk (iM (iu '#') (p0 (gn (jy (v:=.str " + ") rfl a ⟨_,rfl⟩) (λ_ _=>.str _)) (za '#' zc)) (gn (jy (v:=.str "0") rfl b ⟨_,rfl⟩) (λ_ _=>.str _)))))
theorem Pf:ak ["letter","e"] ["letter","e"] (af CT):=⟨rfl,rfl,rfl,by decide +kernel,rfl,by decide +kernel,by decide +kernel⟩
theorem Rt{K:Fg}(T:ap K "show_letter" CT)(d:K.In h)(G:h.Ns mainGlobals mg): aj P w K mg base "show_letter" 1 ["letter","e"] yV:=
 have i:=Pf.nd
 zw (k:=0) T d G Pf (λ_ _ _ _ _ _ c g=>fx c g λ_ _=>rfl) λf e A a s H E b=>(ze (dg (zo (eN b.units) dq (zb (pv 1)) zh (ai _)) (zg (zk cG)) cW)
 (zg (zk (iM (zo (eN b.units) dq (zb (pv 1)) zh (ai _)) '#' (Ge '#' (zb (pv 1)))))))
theorem Pn:ak ["product","told"] ["product"] (af C1):=⟨rfl,rfl,rfl,by decide +kernel,rfl,by decide +kernel,by decide +kernel⟩
theorem RC{K:Fg}(T:ap K "show_product" C1)(j:K.In h)(G:h.Ns mainGlobals mg)(b:mg "zip"=none) (a:mg "LETTERS"=some (.str "abcdefghij" k_LETTERS))(m:aj P w K mg base "show_letter" 1 ["letter","e"] yV):aj P w K mg base "show_product" 2 ["product"] yY:=
  have g:=Pn.nd
  zw (k:=1) T j G Pn (λ_ _ _ _ _ _ e n=>cA e n λ_=>rfl) λf l A c s H E d=>(ze (zq (i:=1) g rfl '%' (p0 cG (za (gP rfl (Ig rfl b (za (gn (jy (v:=.str "abcdefghij") rfl a ⟨_,rfl⟩) (λ_ _=>.str _)) (za '#' zc))) (λ_ _ _ _ _=>(vC rfl (yB (zt (i:=0) (show(["letter","e"]:List Str).Nodup from by decide +kernel) rfl '%') (yB (zt (i:=1) (show(["letter","e"]:List Str).Nodup from by decide +kernel) rfl '%') M3)))) (λ_ _ _ _ _=>fU) (λ_ _ _ _ _=>(zm m '$' (d.mono '"') rfl (za '#' (za (zb (pv 1)) zc)))) (N:=["letter","e"]) (k:=2) (is:=[]) (eO (by rfl))) zc)))
  (zg (zk (iM (M4 (zb (pv 1))) (zb (pv 1)) cG))))
theorem OG:ak ["some"] ["some"] (af Cm):=⟨rfl,rfl,rfl,by decide +kernel,rfl,by decide +kernel,by decide +kernel⟩
theorem QH{K:Fg}(T:ap K "show_sum" Cm)(d:K.In h)(G:h.Ns mainGlobals mg)(g:aj P w K mg base "show_all" 1 ["texts"] o7)(e:aj P w K mg base "show_product" 2 ["product"] yY):aj P w K mg base "show_sum" 3 ["some"] yL:=
 have m:=OG.nd
 zw (k:=2) T d G OG (λ_ _ _ _ _ _ c l=>cA c l λ_=>rfl) λf j A a s H E b=>(zg (zk (zm g '$' (b.mono '"') rfl (za (gP rfl (gp '#') (λ_ _ _ _ _=>(zt (i:=0) (show(["product"]:List Str).Nodup from by decide +kernel) rfl '%')) (λ_ _ _ _ _=>fU) (λ_ _ _ _ _=>(zm e '$' (b.mono '"') rfl (za '#' zc))) (N:=["product"]) (k:=1) (is:=[]) (eO (by rfl))) zc))))
theorem OH:ak ["text"] ["text"] (af Co):=⟨rfl,rfl,rfl,by decide +kernel,rfl,by decide +kernel,by decide +kernel⟩
theorem QI{K:Fg}(T:ap K "texts_of" Co)(g:K.In h)(G:h.Ns mainGlobals mg)(d:mg "str"=none)(m:mg "isinstance"=none) (b:mg "NOTHING"=some (.str "0" k_NOTHING)) (a:mg "BETWEEN"=some (.str " + " k_BETWEEN)) (l:W.nsIn K mainGlobals "NoText"=some (some (.ref Ah)))(j:W.excIn K Ah rF "ValueError.__new__"=true):dH P w K mg base "texts_of" 1 ["text"] mM:=
 have p:=OH.nd
 xS (k:=0) T g G OH (λ_ _ _ _ _ _ e n=>cA e n λ_=>rfl) λf i A c s H E o=>(p9 (λ_ _=>rfl) (nK (jS (iu (zn lg lc rfl m kP (za '#' (za (gn (kO (v:=.ty "str") rfl d rW rfl) (λ_ _=>.ty _)) zc))))) (tH (yD yx ⟨l,j⟩ rfl rfl (za cG zc))) (o3 cW))
 (o3 (zg (zk (iM (zo (oZ o.units) dq '#' (gn (jy (v:=.str "0") rfl b ⟨_,rfl⟩) (λ_ _=>.str _)) (ai _)) (tR '#' (za (gn (jy (v:=.str " + ") rfl a ⟨_,rfl⟩) (λ_ _=>.str _)) zc)) (mE zc))))))
theorem OE:ak ["n","text","told"] ["n","text"] (af Cj):=⟨rfl,rfl,rfl,by decide +kernel,rfl,by decide +kernel,by decide +kernel⟩
theorem QF{K:Fg}(T:ap K "read_sum" Cj)(m:K.In h)(G:h.Ns mainGlobals mg)(l:mg "tuple"=none) (p:W.nsIn K mainGlobals "NoText"=some (some (.ref Ah)))(o:W.excIn K Ah rF "ValueError.__new__"=true)(q:dH P w K mg base "texts_of" 1 ["text"] mM)(g:aj P w K mg base "read_product" 4 ["n","text"] qj)(a:aj P w K mg base "show_sum" 3 ["some"] yL)(b:aj P w K mg base "is_sum" 3 ["n","thing"] yz):dH P w K mg base "read_sum" 5 ["n","text"] ub:=
  have j:=OE.nd
  xS (k:=4) T m G OE (λ_ _ _ _ _ _ e r=>fx e r λ_ _=>rfl) λf n A d s H E c=>(p9 (λ_ _=>rfl) (AH (i:=2) j rfl '%' (Bj (xT q AY (λ_ _ h=>sB _ _ h) (c.mono '"') rfl (za (zb (pv 1)) zc)) rfl l rfl (λ_ _ _ _ _=>(zt (i:=0) (show(["one","n"]:List Str).Nodup from by decide +kernel) rfl '%')) (λ_ _ _ _ _=>fU) (λ_ _ _ _ _=>(zm g '$' (c.mono '"') rfl (za (zb (pv 1)) (za '#' zc)))) (N:=["one","n"]) (k:=1) (is:=[0]) (eO (by rfl))))
  (p9 (λ_ _=>rfl) (nK (JW.pt (kM (jS (iu (zm b '$' (c.mono '"') rfl (za '#' (za (zb (pv 2)) zc))))) (jq (zo (oZ c.units) dq (zm a '$' (c.mono '"') rfl (za (zb (pv 2)) zc)) (zb (pv 1)) (ai _)) (by first|exact Or.inl rfl|exact Or.inr rfl)))) (tH (yD yx ⟨p,o⟩ rfl rfl (za cG zc))) (o3 cW))
  (o3 (zg (zk (zb (pv 2)))))))
theorem Pj:ak ["text","between"] ["text","between"] (af CY):=⟨rfl,rfl,rfl,by decide +kernel,rfl,by decide +kernel,by decide +kernel⟩
theorem Rz{K:Fg}(T:ap K "read_numbers" CY)(g:K.In h)(G:h.Ns mainGlobals mg)(e:mg "tuple"=none)(d:aj P w K mg base "read_number" 2 ["text"] qh):aj P w K mg base "read_numbers" 3 ["text","between"] lA:=
 have m:=Pj.nd
 zw (k:=2) T g G Pj (λ_ _ _ _ _ _ c l=>fx c l λ_ _=>rfl) λf j A a s H E b=>(ze (dg (zo (eN b.units) dq '#' cG (ai _)) (zg (zk (kL zc))) cW)
 (zg (zk (iT nC nr rfl e jz (za (gP rfl (gp (tR '#' (za (zb (pv 1)) zc))) (λ_ _ _ _ _=>(zt (i:=0) (show(["figures"]:List Str).Nodup from by decide +kernel) rfl '%')) (λ_ _ _ _ _=>fU) (λ_ _ _ _ _=>(zm d '$' (b.mono '"') rfl (za '#' zc))) (N:=["figures"]) (k:=1) (is:=[]) (eO (by rfl))) zc)))))
theorem wd:ak ["row"] ["row"] (af qI):=⟨rfl,rfl,rfl,by decide +kernel,rfl,by decide +kernel,by decide +kernel⟩
theorem G3{K:Fg}(T:ap K "fits" qI)(g:K.In h)(G:h.Ns mainGlobals mg)(d:mg "sum"=none)(j:mg "len"=none) (a:mg "MOST_RAISED"=some (.int 16 Bq)) (b:mg "MOST_PARTS"=some (.int 6 k_MOST_PARTS)):aj P w K mg base "fits" 1 ["row"] nT:=
 have m:=wd.nd
 zw (k:=0) T g G wd (λ_ _ _ _ _ _ e l=>cA e l λ_=>rfl) λf i A c s H E n=>(zg (zk (mD (nc ko (eH λ_ _ _ _=>.bl _) (zn zy iS rfl j gi (za '#' zc)) (gn (jy (v:=.int 6) rfl b ⟨_,rfl⟩) (λ_ _=>.int _)) (ai _)) (mF (nc ko (eH λ_ _ _ _=>.bl _) (zn (tV rfl) tz rfl d tE (za '#' zc)) (gn (jy (v:=.int 16) rfl a ⟨_,rfl⟩) (λ_ _=>.int _)) (ai _))))))
theorem NP:ak ["thing"] ["thing"] (af Bw):=⟨rfl,rfl,rfl,by decide +kernel,rfl,by decide +kernel,by decide +kernel⟩
theorem Kr{K:Fg}(T:ap K "is_row" Bw)(j:K.In h)(G:h.Ns mainGlobals mg)(g:mg "tuple"=none)(n:mg "isinstance"=none)(l:mg "all"=none)(a:aj P w K mg base "fits" 1 ["row"] nT)(e:aj P w K mg base "is_whole" 1 ["thing"] o6):aj P w K mg base "is_row" 2 ["thing"] yy:=
 have p:=NP.nd
 zw (k:=1) T j G NP (λ_ _ _ _ _ _ d o=>cA d o λ_=>rfl) λf m A b s H E c=>(ze (dg (jS (iu (zn lg lc rfl n kP (za '#' (za (gn (kO (v:=.ty "tuple") rfl g jz rfl) (λ_ _=>.ty _)) zc))))) (zg (zk gR)) cW)
 (zg (zk (mD (zn (p8 rfl) pU rfl l pV (za (gP rfl (gp '#') (λ_ _ _ _ _=>(zt (i:=0) (show(["part"]:List Str).Nodup from by decide +kernel) rfl '%')) (λ_ _ _ _ _=>fU) (λ_ _ _ _ _=>(mD (zm e '$' (c.mono '"') rfl (za '#' zc)) (mF (nc nI (eH λ_ _ _ _=>.bl _) '#' zh (ai _))))) (N:=["part"]) (k:=1) (is:=[]) (eO (by rfl))) zc)) (mF (zm a '$' (c.mono '"') rfl (za '#' zc)))))))
theorem OC:ak ["thing"] ["thing"] (af BY):=⟨rfl,rfl,rfl,by decide +kernel,rfl,by decide +kernel,by decide +kernel⟩
theorem QD{K:Fg}(T:ap K "are_rows" BY)(j:K.In h)(G:h.Ns mainGlobals mg)(g:mg "tuple"=none)(n:mg "isinstance"=none)(l:mg "all"=none)(d:aj P w K mg base "is_rising" 1 ["things"] o9)(a:aj P w K mg base "is_row" 2 ["thing"] yy):aj P w K mg base "are_rows" 3 ["thing"] yK:=
 have p:=OC.nd
 zw (k:=2) T j G OC (λ_ _ _ _ _ _ e o=>cA e o λ_=>rfl) λf m A b s H E c=>(ze (dg (jS (iu (zn lg lc rfl n kP (za '#' (za (gn (kO (v:=.ty "tuple") rfl g jz rfl) (λ_ _=>.ty _)) zc))))) (zg (zk gR)) cW)
 (zg (zk (mD (zn (p8 rfl) pU rfl l pV (za (gP rfl (gp '#') (λ_ _ _ _ _=>(zt (i:=0) (show(["row"]:List Str).Nodup from by decide +kernel) rfl '%')) (λ_ _ _ _ _=>fU) (λ_ _ _ _ _=>(zm a '$' (c.mono '"') rfl (za '#' zc))) (N:=["row"]) (k:=1) (is:=[]) (eO (by rfl))) zc)) (mF (zm d '$' (c.mono '"') rfl (za '#' zc)))))))
theorem Pm:ak ["numbers","between"] ["numbers","between"] (af C0):=⟨rfl,rfl,rfl,by decide +kernel,rfl,by decide +kernel,by decide +kernel⟩
theorem RB{K:Fg}(T:ap K "show_numbers" C0)(d:K.In h)(G:h.Ns mainGlobals mg)(b:mg "str"=none):aj P w K mg base "show_numbers" 1 ["numbers","between"] ql:=
 have j:=Pm.nd
 zw (k:=0) T d G Pm (λ_ _ _ _ _ _ c g=>fx c g λ_ _=>rfl) λf e A a s H E l=>(zg (zk (iM (iu '#') (p0 (zb (pv 1)) (za (gP rfl (gp '#') (λ_ _ _ _ _=>(zt (i:=0) (show(["number"]:List Str).Nodup from by decide +kernel) rfl '%')) (λ_ _ _ _ _=>fU) (λ_ _ _ _ _=>(iT yA xR rfl b rW (za '#' zc))) (N:=["number"]) (k:=1) (is:=[]) (eO (by rfl))) zc)) cG)))
theorem OY:ak ["rows"] ["rows"] (af CD):=⟨rfl,rfl,rfl,by decide +kernel,rfl,by decide +kernel,by decide +kernel⟩
theorem Q5{K:Fg}(T:ap K "show_rows" CD)(d:K.In h)(G:h.Ns mainGlobals mg)(e:aj P w K mg base "show_all" 1 ["texts"] o7)(g:aj P w K mg base "show_numbers" 1 ["numbers","between"] ql):aj P w K mg base "show_rows" 2 ["rows"] yO:=
 have m:=OY.nd
 zw (k:=1) T d G OY (λ_ _ _ _ _ _ c l=>cA c l λ_=>rfl) λf j A a s H E b=>(zg (zk (zm e '$' (b.mono '"') rfl (za (gP rfl (gp '#') (λ_ _ _ _ _=>(zt (i:=0) (show(["row"]:List Str).Nodup from by decide +kernel) rfl '%')) (λ_ _ _ _ _=>fU) (λ_ _ _ _ _=>(zm g '$' (b.mono '"') rfl (za '#' (za cG zc)))) (N:=["row"]) (k:=1) (is:=[]) (eO (by rfl))) zc))))
theorem OX:ak ["text","told"] ["text"] (af CC):=⟨rfl,rfl,rfl,by decide +kernel,rfl,by decide +kernel,by decide +kernel⟩
theorem Q4{K:Fg}(T:ap K "read_rows" CC)(l:K.In h)(G:h.Ns mainGlobals mg)(j:mg "tuple"=none) (p:W.nsIn K mainGlobals "NoText"=some (some (.ref Ah)))(o:W.excIn K Ah rF "ValueError.__new__"=true)(q:dH P w K mg base "texts_of" 1 ["text"] mM)(m:aj P w K mg base "read_numbers" 3 ["text","between"] lA)(a:aj P w K mg base "show_rows" 2 ["rows"] yO)(b:aj P w K mg base "are_rows" 3 ["thing"] yK):dH P w K mg base "read_rows" 4 ["text"] sG:=
  have g:=OX.nd
  xS (k:=3) T l G OX (λ_ _ _ _ _ _ e r=>cA e r λ_=>rfl) λf n A d s H E c=>(p9 (λ_ _=>rfl) (AH (i:=1) g rfl '%' (Bj (xT q AY (λ_ _ h=>sB _ _ h) (c.mono '"') rfl (za '#' zc)) rfl j rfl (λ_ _ _ _ _=>(zt (i:=0) (show(["one"]:List Str).Nodup from by decide +kernel) rfl '%')) (λ_ _ _ _ _=>fU) (λ_ _ _ _ _=>(zm m '$' (c.mono '"') rfl (za '#' (za cG zc)))) (N:=["one"]) (k:=1) (is:=[]) (eO (by rfl))))
  (p9 (λ_ _=>rfl) (nK (JW.pt (kM (jS (iu (zm b '$' (c.mono '"') rfl (za (zb (pv 1)) zc)))) (jq (zo (oZ c.units) dq (zm a '$' (c.mono '"') rfl (za (zb (pv 1)) zc)) '#' (ai _)) (by first|exact Or.inl rfl|exact Or.inr rfl)))) (tH (yD yx ⟨p,o⟩ rfl rfl (za cG zc))) (o3 cW))
  (o3 (zg (zk (zb (pv 1)))))))
theorem PC:ak ["numbers","told"] ["numbers"] (af Df):=⟨rfl,rfl,rfl,by decide +kernel,rfl,by decide +kernel,by decide +kernel⟩
theorem RX{K:Fg}(T:ap K "without_noughts" Df)(g:K.In h)(G:h.Ns mainGlobals mg)(a:mg "list"=none)(e:mg "tuple"=none):aj P w K mg base "without_noughts" 1 ["numbers"] zA:=
 have d:=PC.nd
 zw (k:=0) T g G PC (λ_ _ _ _ _ _ c l=>cA c l λ_=>rfl) λf j A b s H E m=>(ze (zq (i:=1) d rfl '%' (iT QS HN rfl a vx (za '#' zc)))
 (ze (yC iX (JW.pt (tJ (iu (zb (pv 1))) (jq (zo (eN m.units) dq (gH (zb (pv 1)) (rX zh) (λ_ _=>rfl)) zh (ai _)) (by first|exact Or.inl rfl|exact Or.inr rfl)))) (zg (o5 (Es (zb (pv 1))))))
 (zg (zk (iT nC nr rfl e jz (za (zb (pv 1)) zc))))))
theorem OW:ak ["numbers","told","weight","number"] ["numbers"] (af CB):=⟨rfl,rfl,rfl,by decide +kernel,rfl,by decide +kernel,by decide +kernel⟩
theorem Q3{K:Fg}(T:ap K "raises_by" CB)(d:K.In h)(G:h.Ns mainGlobals mg): aj P w K mg base "raises_by" 1 ["numbers"] yN:=
 have a:=OW.nd
 zw (k:=0) T d G OW (λ_ _ _ _ _ _ c g=>cA c g λ_=>rfl) λf e A b s H E j=>(ze (zq (i:=1) a rfl '%' zh)
 (ze (zq (i:=2) a rfl '%' zh)
 (ze (kg iX rfl (gp '#') (zt (i:=3) a rfl '%')
 (ze (vF (i:=1) a rfl '%' (bB nl (cy λ_ _ _ _=>.int _) (zb (pv 2)) (zb (pv 3))) EW Mn)
 (zg (zq (i:=2) a rfl '%' (bB di dh (bB nl (cy λ_ _ _ _=>.int _) zh (zb (pv 2))) zh)))))
 (zg (zk (zb (pv 1)))))))
theorem OU:ak ["thing"] ["thing"] (af Cz):=⟨rfl,rfl,rfl,by decide +kernel,rfl,by decide +kernel,by decide +kernel⟩
theorem Q1{K:Fg}(T:ap K "is_counts" Cz)(m:K.In h)(G:h.Ns mainGlobals mg)(r:mg "len"=none)(l:mg "tuple"=none)(q:mg "isinstance"=none)(n:mg "all"=none) (a:mg "MOST_NUMBERS"=some (.int 4 k_MOST_NUMBERS)) (b:mg "MOST_RAISED"=some (.int 16 Bq))(j:aj P w K mg base "is_whole" 1 ["thing"] o6)(c:aj P w K mg base "raises_by" 1 ["numbers"] yN)(p:aj P w K mg base "without_noughts" 1 ["numbers"] zA):aj P w K mg base "is_counts" 2 ["thing"] yM:=
  have u:=OU.nd
  zw (k:=1) T m G OU (λ_ _ _ _ _ _ g t=>cA g t λ_=>rfl) λf o A e s H E d=>(ze (dg (JW.pt (kM (jS (iu (zn lg lc rfl q kP (za '#' (za (gn (kO (v:=.ty "tuple") rfl l jz rfl) (λ_ _=>.ty _)) zc))))) (jq (zo k6 (eH λ_ _ _ _=>.bl _) (zn zy iS rfl r gi (za '#' zc)) (gn (jy (v:=.int 4) rfl a ⟨_,rfl⟩) (λ_ _=>.int _)) (ai _)) (by first|exact Or.inl rfl|exact Or.inr rfl)))) (zg (zk gR)) cW)
  (ze (dg (jS (iu (zn (p8 rfl) pU rfl n pV (za (gP rfl (gp '#') (λ_ _ _ _ _=>(zt (i:=0) (show(["number"]:List Str).Nodup from by decide +kernel) rfl '%')) (λ_ _ _ _ _=>fU) (λ_ _ _ _ _=>(mD (zm j '$' (d.mono '"') rfl (za '#' zc)) (mF (nc nI (eH λ_ _ _ _=>.bl _) '#' zh (ai _))))) (N:=["number"]) (k:=1) (is:=[]) (eO (by rfl))) zc)))) (zg (zk gR)) cW)
  (zg (zk (mD (nc (eN d.units) dq (zm p '$' (d.mono '"') rfl (za '#' zc)) '#' (ai _)) (mF (nc ko (eH λ_ _ _ _=>.bl _) (zm c '$' (d.mono '"') rfl (za '#' zc)) (gn (jy (v:=.int 16) rfl b ⟨_,rfl⟩) (λ_ _=>.int _)) (ai _))))))))
theorem O5:ak ["thing"] ["thing"] (af CH):=⟨rfl,rfl,rfl,by decide +kernel,rfl,by decide +kernel,by decide +kernel⟩
theorem Ri{K:Fg}(T:ap K "are_counts" CH)(j:K.In h)(G:h.Ns mainGlobals mg)(g:mg "tuple"=none)(n:mg "isinstance"=none)(l:mg "all"=none)(d:aj P w K mg base "is_rising" 1 ["things"] o9)(a:aj P w K mg base "is_counts" 2 ["thing"] yM):aj P w K mg base "are_counts" 3 ["thing"] yQ:=
 have p:=O5.nd
 zw (k:=2) T j G O5 (λ_ _ _ _ _ _ e o=>cA e o λ_=>rfl) λf m A b s H E c=>(ze (dg (jS (iu (zn lg lc rfl n kP (za '#' (za (gn (kO (v:=.ty "tuple") rfl g jz rfl) (λ_ _=>.ty _)) zc))))) (zg (zk gR)) cW)
 (zg (zk (mD (zn (p8 rfl) pU rfl l pV (za (gP rfl (gp '#') (λ_ _ _ _ _=>(zt (i:=0) (show(["numbers"]:List Str).Nodup from by decide +kernel) rfl '%')) (λ_ _ _ _ _=>fU) (λ_ _ _ _ _=>(zm a '$' (c.mono '"') rfl (za '#' zc))) (N:=["numbers"]) (k:=1) (is:=[]) (eO (by rfl))) zc)) (mF (zm d '$' (c.mono '"') rfl (za '#' zc)))))))
theorem Pe:ak ["counts"] ["counts"] (af CS):=⟨rfl,rfl,rfl,by decide +kernel,rfl,by decide +kernel,by decide +kernel⟩
theorem Rs{K:Fg}(T:ap K "show_counts" CS)(d:K.In h)(G:h.Ns mainGlobals mg)(e:aj P w K mg base "show_all" 1 ["texts"] o7)(g:aj P w K mg base "show_numbers" 1 ["numbers","between"] ql):aj P w K mg base "show_counts" 2 ["counts"] yU:=
 have m:=Pe.nd
 zw (k:=1) T d G Pe (λ_ _ _ _ _ _ c l=>cA c l λ_=>rfl) λf j A a s H E b=>(zg (zk (zm e '$' (b.mono '"') rfl (za (gP rfl (gp '#') (λ_ _ _ _ _=>(zt (i:=0) (show(["numbers"]:List Str).Nodup from by decide +kernel) rfl '%')) (λ_ _ _ _ _=>fU) (λ_ _ _ _ _=>(zm g '$' (b.mono '"') rfl (za '#' (za cG zc)))) (N:=["numbers"]) (k:=1) (is:=[]) (eO (by rfl))) zc))))
theorem Pb:ak ["text","told"] ["text"] (af CP):=⟨rfl,rfl,rfl,by decide +kernel,rfl,by decide +kernel,by decide +kernel⟩
theorem Ro{K:Fg}(T:ap K "read_counts" CP)(g:K.In h)(G:h.Ns mainGlobals mg)(d:mg "tuple"=none) (p:W.nsIn K mainGlobals "NoText"=some (some (.ref Ah)))(o:W.excIn K Ah rF "ValueError.__new__"=true)(q:dH P w K mg base "texts_of" 1 ["text"] mM)(l:aj P w K mg base "read_numbers" 3 ["text","between"] lA)(m:aj P w K mg base "show_counts" 2 ["counts"] yU)(j:aj P w K mg base "are_counts" 3 ["thing"] yQ):dH P w K mg base "read_counts" 4 ["text"] sH:=
  have e:=Pb.nd
  xS (k:=3) T g G Pb (λ_ _ _ _ _ _ c r=>cA c r λ_=>rfl) λf n A b s H E a=>(p9 (λ_ _=>rfl) (AH (i:=1) e rfl '%' (Bj (xT q AY (λ_ _ h=>sB _ _ h) (a.mono '"') rfl (za '#' zc)) rfl d rfl (λ_ _ _ _ _=>(zt (i:=0) (show(["one"]:List Str).Nodup from by decide +kernel) rfl '%')) (λ_ _ _ _ _=>fU) (λ_ _ _ _ _=>(zm l '$' (a.mono '"') rfl (za '#' (za cG zc)))) (N:=["one"]) (k:=1) (is:=[]) (eO (by rfl))))
  (p9 (λ_ _=>rfl) (nK (JW.pt (kM (jS (iu (zm j '$' (a.mono '"') rfl (za (zb (pv 1)) zc)))) (jq (zo (oZ a.units) dq (zm m '$' (a.mono '"') rfl (za (zb (pv 1)) zc)) '#' (ai _)) (by first|exact Or.inl rfl|exact Or.inr rfl)))) (tH (yD yx ⟨p,o⟩ rfl rfl (za cG zc))) (o3 cW))
  (o3 (zg (zk (zb (pv 1)))))))
theorem OT:ak ["_law_sort","_law_n","_law_text","_law_e"] ["_law_sort","_law_n","_law_text"] (af Cy):=⟨rfl,rfl,rfl,by decide +kernel,rfl,by decide +kernel,by decide +kernel⟩
theorem Q0{K:Fg}(T:ap K "_law_told" Cy)(j:K.In h)(G:h.Ns mainGlobals mg)(y:mg "ValueError"=none)(m:mg "isinstance"=none) (c:W.nsIn K mainGlobals "NoText"=some (some (.ref Ah)))(t:W.kitOne K (.ref Ah) (.type "ValueError")=some true)(n:W.kitOne K (.ref Ah) (.ref Ah)=some true)(r:W.nsIn K mainGlobals "RaisedError"=some (some (.ref A1)))(p:W.exmOne K (.ref Ah) (.ref A1)=some true)(b:dH P w K mg base "read_sum" 5 ["n","text"] ub)(a:dH P w K mg base "read_rows" 4 ["text"] sG)(q:dH P w K mg base "read_counts" 4 ["text"] sH):aj P w K mg base "_law_told" 6 ["_law_sort","_law_n","_law_text"] uc:=
 have o:=OT.nd
 zw (k:=5) T j G OT (λ_ _ _ _ _ _ x u=>kE x u λ_ _ _=>rfl) λf z A g s H E d=>(zg (Gx (i:=3) (cs:=["NoText"]) rfl rfl rfl o rfl rfl rfl r (AF c p qA) (λR E C l=>(JZ (zo (eN d.units) dq '#' zh (ai _)) (xT b l (λ_ _ h=>sB _ _ h) (d.mono '"') rfl (za (zb (pv 1)) (za (zb (pv 2)) zc)))
 (tH (Gy (J1 a q l (λ_ _ h=>sB _ _ h) (λ_ _ h=>sB _ _ h) (d.mono '"') (d.mono '"') rfl rfl (bB k8 (eH λ_ _ _ _=>.int _) '#' zh) (λ_ _=>rfl) (za (zb (pv 2)) zc)))))) (λe=>(zg (zk (iM (JW.pt (tJ (iu (uJ (cs:=["NoText"]) rfl m (pv 3) (jy (v:=.ref _) rfl (jY j G c) rfl) rfl (λ_ h=>h) (AF c n qA))) (jq (iu (uJ (cs:=["NoText"]) rfl m (pv 3) (kO (v:=.ty "ValueError") rfl y PyProof.Rows.Boot.«ValueError» rfl) rfl (λ_ h=>h) (AF c t qA))) (by first|exact Or.inl rfl|exact Or.inr rfl)))) cG cG))))))
theorem Pw:ak ["_law_word"] ["_law_word"] (af C8):=⟨rfl,rfl,rfl,by decide +kernel,rfl,by decide +kernel,by decide +kernel⟩
theorem RQ{K:Fg}(T:ap K "_law_number_of" C8)(e:K.In h)(G:h.Ns mainGlobals mg)(b:mg "len"=none)(g:mg "int"=none):aj P w K mg base "_law_number_of" 1 ["_law_word"] qx:=
  have m:=Pw.nd
  zw (k:=0) T e G Pw (λ_ _ _ _ _ _ d l=>cA d l λ_=>rfl) λf j A a s H E c=>(ze (dg (JW.pt (kM (zo (Kt c.units) qr (zn qg pZ rfl b gi (za '#' zc)) (mE (za zh (za zh zc))) rfl) (kM (zo k6 (eH λ_ _ _ _=>.bl _) (zn zy iS rfl b gi (za (gP rfl (AG '#') (λ_ _ _ _ _=>(zt (i:=0) (show(["_law_sign"]:List Str).Nodup from by decide +kernel) rfl '%')) (λ_ _ _ _ _=>(tS (zo OR vT '#' cG rfl))) (λ_ _ _ _ _=>'#') (N:=["_law_sign"]) (k:=1) (is:=[]) (eO (by rfl))) zc)) zh (ai _)) (jq (zo (eN c.units) dq (ng '#' zh (λ_ _=>rfl)) cG (ai _)) (by first|exact Or.inl rfl|exact Or.inr rfl))))) (zg (zk iN)) cW)
  (zg (zk (iT BB AE rfl g tB (za '#' zc)))))
theorem PB:ak ["_law_n","_law_word","_law_exponents","_law_last","_law_at","_law_letter","_law_end","_law_e"] ["_law_n","_law_word"] (af De):=⟨rfl,rfl,rfl,by decide +kernel,rfl,by decide +kernel,by decide +kernel⟩
theorem RW{K:Fg}(T:ap K "_law_product_of" De)(l:K.In h)(G:h.Ns mainGlobals mg)(j:mg "range"=none)(d:mg "len"=none)(g:mg "tuple"=none)(m:aj P w K mg base "_law_number_of" 1 ["_law_word"] qx):aj P w K mg base "_law_product_of" 2 ["_law_n","_law_word"] zi:=
  have a:=PB.nd
  zw (k:=1) T l G PB (λ_ _ _ _ _ _ e o=>fx e o λ_ _=>rfl) λf n A c s H E b=>(ze (dg (zo (eN b.units) dq (zb (pv 1)) cG (ai _)) (zg (zk (bB AO AN (kL (za zh zc)) '#'))) cW)
  (ze (BF (i:=2) rfl a rfl '%' (lf rfl j (za '#' zc)) (λ_ _ _ _ _=>(zt (i:=0) (show(["_law_letter"]:List Str).Nodup from by decide +kernel) rfl '%')) (λ_ _ _ _ _=>fU) (λ_ _ _ _ _=>zh) (N:=["_law_letter"]) (k:=1) (is:=[]) (eO (by rfl)))
  (ze (zq (i:=3) a rfl '%' (rX zh))
  (ze (zq (i:=4) a rfl '%' zh)
  (ze (yC iX (zo (nk b.units0) nj (zb (pv 4)) (zn qg pZ rfl d gi (za (zb (pv 1)) zc)) (ai _)) (ze (zq (i:=5) a rfl '%' (iM (zo NM uY (ng (zb (pv 1)) (zb (pv 4)) (λ_ _=>rfl)) (k7 cG js (gJ '#')) rfl) (Gf cG (za (ng (zb (pv 1)) (zb (pv 4)) (λ_ _=>rfl)) zc)) (rX zh)))
  (ze (dg (zo ko (eH λ_ _ _ _=>.bl _) (zb (pv 5)) (zb (pv 3)) (ai _)) (zg (zk iN)) cW)
  (ze (zq (i:=6) a rfl '%' (bB di dh (zb (pv 4)) zh))
  (ze (yC iX (JW.pt (tJ (zo (nk b.units0) nj (zb (pv 6)) (zn qg pZ rfl d gi (za (zb (pv 1)) zc)) (ai _)) (jq (zo NM uY (ng (zb (pv 1)) (zb (pv 6)) (λ_ _=>rfl)) cG rfl) (by first|exact Or.inl rfl|exact Or.inr rfl)))) (zg (zq (i:=6) a rfl '%' (bB di dh (zb (pv 6)) zh))))
  (ze (zq (i:=7) a rfl '%' zh)
  (ze (dg (zo k6 (eH λ_ _ _ _=>.bl _) (zb (pv 6)) (bB di dh (zb (pv 4)) zh) (ai _)) (ze (zq (i:=7) a rfl '%' (zm m '$' (b.mono '"') rfl (za (k7 (zb (pv 1)) (gJ (bB di dh (zb (pv 4)) zh)) (gJ (zb (pv 6)))) zc)))
  (zg (dg (JW.pt (kM (zo va uZ (zb (pv 7)) iN (ai _)) (jq (zo (eN b.units) dq (zb (pv 7)) zh (ai _)) (by first|exact Or.inl rfl|exact Or.inr rfl)))) (zg (zk iN)) cW))) cW)
  (ze (tW (zb (pv 7)) (zb (pv 2)) (zb (pv 5)))
  (ze (zq (i:=3) a rfl '%' (zb (pv 5)))
  (zg (zq (i:=4) a rfl '%' (zb (pv 6)))))))))))))
  (zg (zk (iM (zo nI (eH λ_ _ _ _=>.bl _) (zb (pv 3)) zh (ai _)) (iT nC nr rfl g jz (za (zb (pv 2)) zc)) iN))))))))
theorem Pq:ak ["_law_word","_law_sign","_law_weights","_law_found","_law_part","_law_number"] ["_law_word","_law_sign","_law_weights"] (af C3):=⟨rfl,rfl,rfl,by decide +kernel,rfl,by decide +kernel,by decide +kernel⟩
theorem RI{K:Fg}(T:ap K "_law_parts_of" C3)(l:K.In h)(G:h.Ns mainGlobals mg)(c:mg "len"=none)(m:mg "range"=none)(e:mg "sum"=none)(j:mg "tuple"=none)(n:aj P w K mg base "_law_number_of" 1 ["_law_word"] qx):aj P w K mg base "_law_parts_of" 2 ["_law_word","_law_sign","_law_weights"] yX:=
  have b:=Pq.nd
  zw (k:=1) T l G Pq (λ_ _ _ _ _ _ g p=>kE g p λ_ _ _=>rfl) λf o A d s H E a=>(ze (dg (zo (eN a.units) dq '#' cG (ai _)) (zg (zk (kL zc))) cW)
  (ze (zq (i:=3) b rfl (Or.inr rfl) (r0 zc))
  (ze (kg iX rfl (gp (tR '#' (za (zb (pv 1)) zc))) (zt (i:=4) b rfl '%')
  (ze (zq (i:=5) b rfl '%' (iM (zo (eN a.units) dq (zb (pv 4)) cG (ai _)) zh (zm n '$' (a.mono '"') rfl (za (zb (pv 4)) zc))))
  (ze (dg (JW.pt (kM (zo va uZ (zb (pv 5)) iN (ai _)) (jq (zo (eN a.units) dq (zn zy iS rfl c gi (za (zb (pv 3)) zc)) (zn zy iS rfl c gi (za (zb (pv 2)) zc)) (ai _)) (by first|exact Or.inl rfl|exact Or.inr rfl)))) (zg (zk iN)) cW)
  (zg (o5 (qd (zb (pv 3)) (za (zb (pv 5)) zc)))))))
  (ze (dg (zo k6 (eH λ_ _ _ _=>.bl _) (zn (tV rfl) tz rfl e tE (za (gP rfl (lf rfl m (za (zn zy iS rfl c gi (za (zb (pv 3)) zc)) zc)) (λ_ _ _ _ _=>(zt (i:=0) (show(["_law_k","_law_found","_law_weights"]:List Str).Nodup from by decide +kernel) rfl '%')) (λ_ _ _ _ _=>fU) (λ_ _ _ _ _=>(bB nl (cy λ_ _ _ _=>.int _) (gH (zb (pv 1)) '#' (λ_ _=>rfl)) (gH (zb (pv 2)) '#' (λ_ _=>rfl)))) (N:=["_law_k","_law_found","_law_weights"]) (k:=1) (is:=[3,2]) (eO (by rfl))) zc)) zh (ai _)) (zg (zk iN)) cW)
  (ze (dg (JW.pt (kM (JW.pt (tJ (zo (eN a.units) dq (zb (pv 1)) cG (ai _)) (jq (zo (u9 a.units) qr zh (zb (pv 3)) rfl) (by first|exact Or.inl rfl|exact Or.inr rfl)))) (jq (zo (eN a.units) dq (gH (zb (pv 3)) (rX zh) (λ_ _=>rfl)) zh (ai _)) (by first|exact Or.inl rfl|exact Or.inr rfl)))) (zg (zk iN)) cW)
  (zg (zk (iT nC nr rfl j jz (za (zb (pv 3)) zc)))))))))
theorem Pi:ak ["_law_sort","_law_n","_law_text","_law_things","_law_word","_law_fallen"] ["_law_sort","_law_n","_law_text"] (af CW):=⟨rfl,rfl,rfl,by decide +kernel,rfl,by decide +kernel,by decide +kernel⟩
theorem Ry{K:Fg}(T:ap K "_law_reading" CW)(n:K.In h)(G:h.Ns mainGlobals mg)(j:mg "str"=none)(q:mg "isinstance"=none)(d:mg "len"=none)(o:mg "range"=none)(m:mg "tuple"=none)(g:aj P w K mg base "_law_product_of" 2 ["_law_n","_law_word"] zi)(e:aj P w K mg base "_law_parts_of" 2 ["_law_word","_law_sign","_law_weights"] yX):aj P w K mg base "_law_reading" 3 ["_law_sort","_law_n","_law_text"] ud:=
  have b:=Pi.nd
  zw (k:=2) T n G Pi (λ_ _ _ _ _ _ l r=>kE l r λ_ _ _=>rfl) λf p A c s H E a=>(ze (dg (jS (iu (zn lg lc rfl q kP (za (zb (pv 2)) (za (gn (kO (v:=.ty "str") rfl j rW rfl) (λ_ _=>.ty _)) zc))))) (zg (zk iN)) cW)
  (ze (dg (zo (eN a.units) dq (zb (pv 2)) cG (ai _)) (zg (zk (kL zc))) cW)
  (ze (zq (i:=3) b rfl (Or.inr rfl) (r0 zc))
  (ze (kg iX rfl (gp (tR (zb (pv 2)) (za cG zc))) (zt (i:=4) b rfl '%')
  (zg (dg (zo (eN a.units) dq '#' zh (ai _)) (zg (o5 (qd (zb (pv 3)) (za (zm g '$' (a.mono '"') rfl (za (zb (pv 1)) (za (zb (pv 4)) zc))) zc)))) (zg (o5 (qd (zb (pv 3)) (za (zm e '$' (a.mono '"') rfl (za (zb (pv 4)) (za (ng cG (bB k8 (eH λ_ _ _ _=>.int _) '#' zh) (λ_ _=>rfl)) (za (gH (mE (za (mE (za zh (za zh (za zh (za zh (za zh (za zh zc))))))) (za (mE (za zh (za zh (za zh (za zh zc))))) zc))) (bB k8 (eH λ_ _ _ _=>.int _) '#' zh) (λ_ _=>rfl)) zc)))) zc)))))))
  (ze (dg (zo (u9 a.units) qr iN (zb (pv 3)) rfl) (zg (zk iN)) cW)
  (ze (yi (i:=5) rfl b rfl '%' (P6 rfl o (za zh (za (zn zy iS rfl d gi (za (zb (pv 3)) zc)) zc))) (λ_ _ _ _ _=>(zt (i:=0) (show(["_law_k","_law_things"]:List Str).Nodup from by decide +kernel) rfl '%')) (λ_ _ _ _ _=>(tS (jS (zo (nk a.units0) nj (gH (zb (pv 1)) (bB k8 (eH λ_ _ _ _=>.int _) '#' zh) (λ_ _=>rfl)) (gH (zb (pv 1)) '#' (λ_ _=>rfl)) (ai _))))) (λ_ _ _ _ _=>'#') (N:=["_law_k","_law_things"]) (k:=1) (is:=[3]) (eO (by rfl)))
  (zg (zk (iM (zo (eN a.units) dq (zn zy iS rfl d gi (za (zb (pv 5)) zc)) zh (ai _)) (iT nC nr rfl m jz (za (zb (pv 3)) zc)) iN)))))))))
theorem Py:ak ["_law_bag_here","_law_signs"] ["_law_bag_here"] (af Db):=⟨rfl,rfl,rfl,by decide +kernel,rfl,by decide +kernel,by decide +kernel⟩
theorem RU{K:Fg}(T:ap K "_law_drawn_sign" Db)(g:K.In h)(G:h.Ns mainGlobals mg)(l:mg "len"=none)(b:aj P w K mg base "_law_take" 1 ["_law_bag_here","_law_many"] zp):aj P w K mg base "_law_drawn_sign" 2 ["_law_bag_here"] uf:=
 have d:=Py.nd
 zw (k:=1) T g G Py (λ_ _ _ _ _ _ e m=>cA e m λ_=>rfl) λf j A c s H E a=>(ze (dg (zo (eN a.units) dq (zm b '$' (a.mono '"') rfl (za '#' (za zh zc))) zh (ai _)) (ze (zq (i:=1) d rfl '%' cG)
 (ze (zq (i:=1) d rfl '%' (bB di dh (zb (pv 1)) cG))
 (zg (zk (ng (zb (pv 1)) (zm b '$' (a.mono '"') rfl (za '#' (za (zn qg pZ rfl l gi (za (zb (pv 1)) zc)) zc))) (λ_ _=>rfl)))))) cW)
 (zg (zk (ng cG (zm b '$' (a.mono '"') rfl (za '#' (za zh zc))) (λ_ _=>rfl)))))
theorem Ph:ak ["_law_bag_here","_law_text","_law_at","_law_how","_law_words","_law_two"] ["_law_bag_here","_law_text"] (af CV):=⟨rfl,rfl,rfl,by decide +kernel,rfl,by decide +kernel,by decide +kernel⟩
theorem Rx{K:Fg}(T:ap K "_law_changed" CV)(l:K.In h)(G:h.Ns mainGlobals mg)(g:mg "len"=none)(e:aj P w K mg base "_law_take" 1 ["_law_bag_here","_law_many"] zp)(d:aj P w K mg base "_law_drawn_sign" 2 ["_law_bag_here"] uf):aj P w K mg base "_law_changed" 3 ["_law_bag_here","_law_text"] yW:=
 have b:=Ph.nd
 zw (k:=2) T l G Ph (λ_ _ _ _ _ _ j n=>fx j n λ_ _=>rfl) λf m A c s H E a=>(ze (zq (i:=2) b rfl '%' (zm e '$' (a.mono '"') rfl (za '#' (za (bB di dh (zn qg pZ rfl g gi (za (zb (pv 1)) zc)) zh) zc))))
 (ze (zq (i:=3) b rfl '%' (zm e '$' (a.mono '"') rfl (za '#' (za zh zc))))
 (ze (dg (zo (eN a.units) dq (zb (pv 3)) zh (ai _)) (zg (zk (bB di dh (k7 (zb (pv 1)) js (gJ (zb (pv 2)))) (k7 (zb (pv 1)) (gJ (bB di dh (zb (pv 2)) zh)) js)))) cW)
 (ze (dg (zo (eN a.units) dq (zb (pv 3)) zh (ai _)) (zg (zk (bB di dh (bB di dh (k7 (zb (pv 1)) js (gJ (zb (pv 2)))) (zm d '$' (a.mono '"') rfl (za '#' zc))) (k7 (zb (pv 1)) (gJ (zb (pv 2))) js)))) cW)
 (ze (dg (zo (eN a.units) dq (zb (pv 3)) zh (ai _)) (zg (zk (bB di dh (bB di dh (k7 (zb (pv 1)) js (gJ (zb (pv 2)))) (zm d '$' (a.mono '"') rfl (za '#' zc))) (k7 (zb (pv 1)) (gJ (bB di dh (zb (pv 2)) zh)) js)))) cW)
 (ze (zq (i:=4) b rfl '%' (tR (zb (pv 1)) (za cG zc)))
 (ze (zq (i:=2) b rfl '%' (bB mH (cy λ_ _ _ _=>.int _) (zb (pv 2)) (zn zy iS rfl g gi (za (zb (pv 4)) zc))))
 (ze (zq (i:=5) b rfl '%' (bB di dh (iU (zb (pv 4)) (gJ (bB di dh (zb (pv 2)) zh)) (gJ (bB di dh (zb (pv 2)) zh))) (iU (zb (pv 4)) (gJ (zb (pv 2))) (gJ (bB di dh (zb (pv 2)) zh)))))
 (zg (zk (p0 cG (za (bB di dh (bB di dh (iU (zb (pv 4)) js (gJ (zb (pv 2)))) (zb (pv 5))) (iU (zb (pv 4)) (gJ (bB di dh (zb (pv 2)) zh)) js)) zc))))))))))))
theorem vf:ak ["_law_script","_law_at","_law_bag_here","_law_sort","_law_n","_law_texts","_law_k","_law_text","_law_found","_law_due"] ["_law_script"] (af kq):=⟨rfl,rfl,rfl,by decide +kernel,rfl,by decide +kernel,by decide +kernel⟩
theorem Fj{K:Fg}(F:oW K "law" "law" kq f fd)(p:mg "len"=none)(j:mg "min"=none)(g:mg "max"=none)(n:mg "range"=none)(t:mg "int"=none)(e:mg "list"=none)(x:mg "isinstance"=none)(b:aj P w K mg base "_law_bag" 1 ["_law_script","_law_at"] ua)(l:aj P w K mg base "_law_take" 1 ["_law_bag_here","_law_many"] zp)(o:aj P w K mg base "_law_drawn_text" 4 ["_law_bag_here","_law_sort","_law_n"] ug)(r:aj P w K mg base "_law_changed" 3 ["_law_bag_here","_law_text"] yW)(a:aj P w K mg base "_law_told" 6 ["_law_sort","_law_n","_law_text"] uc)(q:aj P w K mg base "_law_reading" 3 ["_law_sort","_law_n","_law_text"] ud):fS P w K mg base ke 7 f fd ["_law_script"] (iZ K):=
 have d:=vf.nd
 GM (k:=6) F vf rfl (λu A m s H E c=>(ze (kg iX rfl (lf rfl n (za (zn (Jz rfl) nD rfl g uC (za zh (za (zn (BC rfl) nD rfl j qy (za zh (za (zn zy iS rfl p gi (za '#' zc)) zc))) zc))) zc)) (zt (i:=1) d rfl '%')
 (ze (zq (i:=2) d rfl '%' (zm b '$' (c.mono '"') rfl (za '#' (za (zb (pv 1)) zc))))
 (ze (zq (i:=3) d rfl '%' (zm l '$' (c.mono '"') rfl (za (zb (pv 2)) (za zh zc))))
 (ze (zq (i:=4) d rfl '%' (bB di dh zh (zm l '$' (c.mono '"') rfl (za (zb (pv 2)) (za zh zc)))))
 (ze (zq (i:=5) d rfl '%' (r0 (za (zm o '$' (c.mono '"') rfl (za (zb (pv 2)) (za (zb (pv 3)) (za (zb (pv 4)) zc)))) (za (zm o '$' (c.mono '"') rfl (za (zb (pv 2)) (za (zm l '$' (c.mono '"') rfl (za (zb (pv 2)) (za zh zc))) (za (zb (pv 4)) zc)))) zc))))
 (ze (kg iX rfl (lf rfl n (za zh zc)) (zt (i:=6) d rfl '%')
 (zg (o5 (qd (zb (pv 5)) (za (zm r '$' (c.mono '"') rfl (za (zb (pv 2)) (za (gH (zb (pv 5)) (gH (mE (za zh (za (bB k8 (eH λ_ _ _ _=>.int _) (zn zy iS rfl p gi (za (zb (pv 5)) zc)) zh) zc))) (iT Jy Ef rfl t tB (za (nc (eN c.units) dq (zm l '$' (c.mono '"') rfl (za (zb (pv 2)) (za zh zc))) zh (ai _)) zc)) (λ_ _=>rfl)) (λ_ _=>rfl)) zc))) zc)))))
 (ze (o5 (qd (zb (pv 5)) (za (gH (mE (za iN (za zh (za gR (za (mE zc) (za (kL (za cG zc)) (za (mE (za cG zc)) (za (bB vb (cy λ_ _ _ _=>.int _) zh zh) (za (kL zc) zc))))))))) (zm l '$' (c.mono '"') rfl (za (zb (pv 2)) (za zh zc))) (λ_ _=>rfl)) zc)))
 (zg (kg iX rfl (gp (ui (zb (pv 5)))) (zt (i:=7) d rfl '%')
 (ze (zq (i:=8) d rfl '%' (zm a '$' (c.mono '"') rfl (za (zb (pv 3)) (za (zb (pv 4)) (za (zb (pv 7)) zc)))))
 (ze (zq (i:=9) d rfl '%' (zm q '$' (c.mono '"') rfl (za (zb (pv 3)) (za (zb (pv 4)) (za (zb (pv 7)) zc)))))
 (zg (dg (JW.pt (kM (zo (oZ c.units) dq (zb (pv 8)) (iM (zo G6 GX (zb (pv 9)) iN (ai _)) (zb (pv 9)) cG) (ai _)) (jq (iu (zn lg lc rfl x kP (za (zb (pv 8)) (za (gn (kO (v:=.ty "list") rfl e vx rfl) (λ_ _=>.ty _)) zc)))) (by first|exact Or.inl rfl|exact Or.inr rfl)))) (zg (zk gR)) cW)))))))))))))
 (zg (zk gR)))) K69.holds
theorem all_mk{l:W.OpenLaw}{K:Fg}(X:K.In h)(G:h.Ns mainGlobals mg)(hfa:mg "law"=some (.ref fa))
  (t1:ap K "_law_bag" BW)(t2:ap K "_law_take" Cw)(t3:ap K "_law_odd" BX)(t4:ap K "_law_drawn_row" C7)(t5:ap K "_law_filled" CO)(t6:ap K "_law_drawn_rows" Da)(t7:ap K "_law_drawn_product" Di)(t8:ap K "_law_drawn_text" Dc)(t9:ap K "figures_ahead" C4)(t10:ap K "read_number" CQ)(t11:ap K "read_exponent" C5)(t12:ap K "read_product" CZ)(t13:ap K "is_rising" CA)(t14:ap K "is_whole" BZ)(t15:ap K "is_product" CJ)(t16:ap K "is_sum" Bx)(t17:ap K "show_all" Ck)(t18:ap K "show_letter" CT)(t19:ap K "show_product" C1)(t20:ap K "show_sum" Cm)(t21:ap K "texts_of" Co)(t22:ap K "read_sum" Cj)(t23:ap K "read_numbers" CY)(t24:ap K "fits" qI)(t25:ap K "is_row" Bw)(t26:ap K "are_rows" BY)(t27:ap K "show_numbers" C0)(t28:ap K "show_rows" CD)(t29:ap K "read_rows" CC)(t30:ap K "without_noughts" Df)(t31:ap K "raises_by" CB)(t32:ap K "is_counts" Cz)(t33:ap K "are_counts" CH)(t34:ap K "show_counts" CS)(t35:ap K "read_counts" CP)(t36:ap K "_law_told" Cy)(t37:ap K "_law_number_of" C8)(t38:ap K "_law_product_of" De)(t39:ap K "_law_parts_of" C3)(t40:ap K "_law_reading" CW)(t41:ap K "_law_drawn_sign" Db)(t42:ap K "_law_changed" CV)(t43:ap K "law" kq) (z0:W.nsIn K mainGlobals "len"=some none)(z1:W.nsIn K mainGlobals "abs"=some none)(z2:W.nsIn K mainGlobals "min"=some none)(z3:W.nsIn K mainGlobals "range"=some none)(z4:W.nsIn K mainGlobals "sorted"=some none)(z5:W.nsIn K mainGlobals "tuple"=some none)(z6:W.nsIn K mainGlobals "sum"=some none)(z7:W.nsIn K mainGlobals "max"=some none)(z8:W.nsIn K mainGlobals "str"=some none)(z9:W.nsIn K mainGlobals "int"=some none)(z10:W.nsIn K mainGlobals "zip"=some none)(z11:W.nsIn K mainGlobals "all"=some none)(z12:W.nsIn K mainGlobals "bool"=some none)(z13:W.nsIn K mainGlobals "isinstance"=some none)(z14:W.nsIn K mainGlobals "list"=some none)(z15:W.nsIn K mainGlobals "ValueError"=some none)(y0:W.nsIn K mainGlobals "FIGURES"=some (some (.str "0123456789" u0)))(y1:W.nsIn K mainGlobals "MOST_FIGURES"=some (some (.int 2 u1)))(y2:W.nsIn K mainGlobals "LETTERS"=some (some (.str "abcdefghij" u2)))(y3:W.nsIn K mainGlobals "BETWEEN"=some (some (.str " + " u3)))(y4:W.nsIn K mainGlobals "NOTHING"=some (some (.str "0" u4)))(y5:W.nsIn K mainGlobals "MOST_RAISED"=some (some (.int 16 u5)))(y6:W.nsIn K mainGlobals "MOST_PARTS"=some (some (.int 6 u6)))(y7:W.nsIn K mainGlobals "MOST_NUMBERS"=some (some (.int 4 u7)))(Ag:W.nsIn K mainGlobals "NoText"=some (some (.ref Ah)))(A0:W.nsIn K mainGlobals "RaisedError"=some (some (.ref A1)))(Aj:W.excIn K Ah rF "ValueError.__new__"=true)(A2:W.exmOne K (.ref Ah) (.ref A1)=some true)(Az:W.kitOne K (.ref Ah) (.ref Ah)=some true)(Ay:W.kitOne K (.ref Ah) (.type "ValueError")=some true):
  ∃ fd:FuncData,(∀(s:Shared) (v:Value),BindsTo s fd ⟨[v],[]⟩ [("_law_script",v)])/\∀ base:Heap,K.In base->base.Ns mainGlobals mg->fS l.prog w K mg base ke 7 fa fd ["_law_script"] (iZ K):=by
 have x0:=jv X G z0;have x1:=jv X G z1;have x2:=jv X G z2;have x3:=jv X G z3;have x4:=jv X G z4;have x5:=jv X G z5;have x6:=jv X G z6;have x7:=jv X G z7;have x8:=jv X G z8;have x9:=jv X G z9;have x10:=jv X G z10;have x11:=jv X G z11;have x12:=jv X G z12;have x13:=jv X G z13;have x14:=jv X G z14;have x15:=jv X G z15;have v0:=jY X G y0;have v1:=jY X G y1;have v2:=jY X G y2;have v3:=jY X G y3;have v4:=jY X G y4;have v5:=jY X G y5;have v6:=jY X G y6;have v7:=jY X G y7;obtain⟨f,fd,a,F⟩:=t43;have e:=hfa.symm.trans (jY X G a);cases e;obtain⟨oc,od,kV,doc,pm,an,cdv,ct,osl,rfl,lk,hcd⟩:=id F.ex;refine⟨W.fnOf "law" "law" (cf kq) (bt kq) (af kq) .none kV doc pm an cdv ct,λs v=>.of_eq rfl,λbase _ _=>?_⟩
 have k__law_bag:aj l.prog w K mg base _ _ _ _:=QB t1 X G x0 x1 x2 x3
 have An:aj l.prog w K mg base _ _ _ _:=QZ t2 X G
 have Ba:aj l.prog w K mg base _ _ _ _:=QC t3 X G x4 x5
 have B0:aj l.prog w K mg base _ _ _ _:=RP t4 X G x3 x2 An
 have B1:aj l.prog w K mg base _ _ _ _:=Rn t5 X G x0
 have B2:aj l.prog w K mg base _ _ _ _:=RT t6 X G x3 x6 x7 B0 An B1 Ba
 have B3:aj l.prog w K mg base _ _ _ _:=RY t7 X G x3 x5 An
 have B4:aj l.prog w K mg base _ _ _ _:=RV t8 X G x3 x8 x6 x0 An Ba B3 B2
 have Bb:aj l.prog w K mg base _ _ _ _:=RJ t9 X G v0
 have Bc:aj l.prog w K mg base _ _ _ _:=Rr t10 X G x0 x9 x8 v1 Bb
 have B5:aj l.prog w K mg base _ _ _ _:=RK t11 X G Bc
 have B6:aj l.prog w K mg base _ _ _ _:=RA t12 X G x0 x5 v2 Bb B5
 have A4:aj l.prog w K mg base _ _ _ _:=Q2 t13 X G x10 x11
 have A5:aj l.prog w K mg base _ _ _ _:=QE t14 X G x12 x13 x9
 have B7:aj l.prog w K mg base _ _ _ _:=Rj t15 X G x0 x5 x13 x11 A5
 have k_is_sum:aj l.prog w K mg base _ _ _ _:=Ks t16 X G x5 x13 x11 A4 B7
 have A6:aj l.prog w K mg base _ _ _ _:=QG t17 X G v3 v4
 have B8:aj l.prog w K mg base _ _ _ _:=Rt t18 X G
 have B9:aj l.prog w K mg base _ _ _ _:=RC t19 X G x10 v2 B8
 have k_show_sum:aj l.prog w K mg base _ _ _ _:=QH t20 X G A6 B9
 have A7:dH l.prog w K mg base "texts_of" 1 ["text"] mM:=QI t21 X G x8 x13 v4 v3 Ag Aj
 have k_read_sum:dH l.prog w K mg base "read_sum" 5 ["n","text"] ub:=QF t22 X G x5 Ag Aj A7 B6 k_show_sum k_is_sum
 have Bd:aj l.prog w K mg base _ _ _ _:=Rz t23 X G x5 Bc
 have k_fits:aj l.prog w K mg base _ _ _ _:=G3 t24 X G x6 x0 v5 v6
 have k_is_row:aj l.prog w K mg base _ _ _ _:=Kr t25 X G x5 x13 x11 k_fits A5
 have k_are_rows:aj l.prog w K mg base _ _ _ _:=QD t26 X G x5 x13 x11 A4 k_is_row
 have Be:aj l.prog w K mg base _ _ _ _:=RB t27 X G x8
 have k_show_rows:aj l.prog w K mg base _ _ _ _:=Q5 t28 X G A6 Be
 have k_read_rows:dH l.prog w K mg base "read_rows" 4 ["text"] sG:=Q4 t29 X G x5 Ag Aj A7 Bd k_show_rows k_are_rows
 have Ca:aj l.prog w K mg base _ _ _ _:=RX t30 X G x14 x5
 have k_raises_by:aj l.prog w K mg base _ _ _ _:=Q3 t31 X G
 have k_is_counts:aj l.prog w K mg base _ _ _ _:=Q1 t32 X G x0 x5 x13 x11 v7 v5 A5 k_raises_by Ca
 have Cb:aj l.prog w K mg base _ _ _ _:=Ri t33 X G x5 x13 x11 A4 k_is_counts
 have Cc:aj l.prog w K mg base _ _ _ _:=Rs t34 X G A6 Be
 have Cd:dH l.prog w K mg base "read_counts" 4 ["text"] sH:=Ro t35 X G x5 Ag Aj A7 Bd Cc Cb
 have k__law_told:aj l.prog w K mg base _ _ _ _:=Q0 t36 X G x15 x13 Ag Ay Az A0 A2 k_read_sum k_read_rows Cd
 have Bf:aj l.prog w K mg base _ _ _ _:=RQ t37 X G x0 x9
 have Ce:aj l.prog w K mg base _ _ _ _:=RW t38 X G x3 x0 x5 Bf
 have Cf:aj l.prog w K mg base _ _ _ _:=RI t39 X G x0 x3 x6 x5 Bf
 have Cg:aj l.prog w K mg base _ _ _ _:=Ry t40 X G x8 x13 x0 x3 x5 Ce Cf
 have Ch:aj l.prog w K mg base _ _ _ _:=RU t41 X G x0 An
 have Ci:aj l.prog w K mg base _ _ _ _:=Rx t42 X G x0 An Ch
 exact Fj F x0 x2 x7 x3 x9 x14 x13 k__law_bag An B4 Ci k__law_told Cg
end K69
end
open PySem PySem.W PyProof.Rows
set_option maxRecDepth 100000 in
set_option maxHeartbeats 0 in
theorem PySem.Challenge.cw_raisedsums_k69_texts_refused_holds : PySem.Challenge.rw_raisedsums_k69_texts_refused.Holds := by
  w_on; o_law; k_head; (case hw => w_witness2)
  k_fill
  refine L2.HE (l := PySem.Challenge.rw_raisedsums_k69_texts_refused) (n := 63) (k := 7) (x := "_law_script") (CX := fun _ => L2.ke) (sp := fun w => Dd.iZ _) rfl '"' rfl ⟨rfl, by decide, by decide⟩ (fun w h Y => PySem.W.kIn_of Y) ?F (fun _ _ a ns hl _ hS => ⟨a, ns, rfl, hS, hl, fun _ => rfl⟩) (fun _ _ _ _ _ z => z)
  case F =>
    intro w mg fa h KX G hmg
    refine' K69.all_mk KX G hmg ?t1 ?t2 ?t3 ?t4 ?t5 ?t6 ?t7 ?t8 ?t9 ?t10 ?t11 ?t12 ?t13 ?t14 ?t15 ?t16 ?t17 ?t18 ?t19 ?t20 ?t21 ?t22 ?t23 ?t24 ?t25 ?t26 ?t27 ?t28 ?t29 ?t30 ?t31 ?t32 ?t33 ?t34 ?t35 ?t36 ?t37 ?t38 ?t39 ?t40 ?t41 ?t42 ?t43 ?z0 ?z1 ?z2 ?z3 ?z4 ?z5 ?z6 ?z7 ?z8 ?z9 ?z10 ?z11 ?z12 ?z13 ?z14 ?z15 ?y0 ?y1 ?y2 ?y3 ?y4 ?y5 ?y6 ?y7 ?n_NoText ?n_RaisedError ?q_NoText ?e_NoText_RaisedError ?i_NoText_NoText ?i_NoText_ValueError
    all_goals first|k_is|kernel_rfl|(refine' L2.R8 ?a ?l ?c ?k;(case a=>k_is);(case l=>k_is);(case c=>k_is);(case k=>k_is))|skip
#print axioms PySem.Challenge.cw_raisedsums_k69_texts_refused_holds
