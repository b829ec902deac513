import PyProof.Rows.All
import Wide.All
import OpenK.AllK
import Wide.FinOn
import PyProof.EqAt
import PyProof.EqKinds
import PyProof.TupleCall
import PySem.Challenge.RW_raisedsums_k67_sums_written
set_option Elab.async false
set_option linter.all false
set_option maxRecDepth 100000
namespace PySem.W.Fast
theorem tw18211766734535370203:True:=⟨⟩
theorem tw18202446052076636056:True:=⟨⟩
theorem tw7025841798380787080:True:=⟨⟩
theorem tw13300478729304435673:True:=⟨⟩
theorem tw12476531165800379685:True:=⟨⟩
theorem tw15775170841990036711:True:=⟨⟩
theorem tw4245541108723797655:True:=⟨⟩
theorem tw5380242628143480786:True:=⟨⟩
theorem tw3829717351739086324:True:=⟨⟩
theorem tw14598350118733379946:True:=⟨⟩
theorem tw11152024819740564020:True:=⟨⟩
theorem tw13102655393357792073:True:=⟨⟩
theorem tw9629798274867415114:True:=⟨⟩
theorem tw1893012918743367019:True:=⟨⟩
theorem tw18263800000684993533:True:=⟨⟩
theorem tw14970308582085319067:True:=⟨⟩
theorem tw2619280598829733720:True:=⟨⟩
theorem tw11943718058544867448:True:=⟨⟩
theorem tw15600490090191632318:True:=⟨⟩
theorem tw8726262243814125474:True:=⟨⟩
theorem tw13934704550183314562:True:=⟨⟩
theorem tw7339456998358277261:True:=⟨⟩
theorem tw6360649663383849133:True:=⟨⟩
theorem tw7120022389957277171:True:=⟨⟩
theorem tw18245961412073753439:True:=⟨⟩
theorem tw16765311231607167076:True:=⟨⟩
theorem tw11317101099798868588:True:=⟨⟩
theorem tw10779746848780688207:True:=⟨⟩
theorem tw265635820894611402:True:=⟨⟩
theorem tw11650227667654591929:True:=⟨⟩
theorem tw6022372371485025677:True:=⟨⟩
theorem tw14408104555256580932:True:=⟨⟩
theorem tw15591190444888085089:True:=⟨⟩
theorem tw15035713956855756186:True:=⟨⟩
theorem tw11308283396266613946:True:=⟨⟩
theorem tw3349999188342562353:True:=⟨⟩
theorem tw9684323542822192118:True:=⟨⟩
theorem tw16521428875423760870:True:=⟨⟩
theorem tw18076474173251138434:True:=⟨⟩
theorem tw7850417541958264885:True:=⟨⟩
theorem tw1981639733209817233:True:=⟨⟩
theorem tw1615212997904288445:True:=⟨⟩
theorem tw497634170760565968:True:=⟨⟩
theorem tw2239761276439188178:True:=⟨⟩
theorem tw17398305381815970883:True:=⟨⟩
theorem tw4345484871512978608:True:=⟨⟩
theorem tw10115637313159545751:True:=⟨⟩
theorem tw2266004107977561765:True:=⟨⟩
theorem tw12461247875197975556:True:=⟨⟩
theorem tw1106286672917174327:True:=⟨⟩
theorem tw15817375098810225287:True:=⟨⟩
theorem tw1658052106829230967:True:=⟨⟩
theorem tw7157592879929465090:True:=⟨⟩
theorem tw14121348822337296461:True:=⟨⟩
theorem tw4247252801818782698:True:=⟨⟩
theorem tw13022559104274991637:True:=⟨⟩
theorem tw18064922890762796700:True:=⟨⟩
theorem tw2515755255342647119:True:=⟨⟩
end PySem.W.Fast
set_option genSizeOfSpec false
set_option genInjectivity false
abbrev Fg:=PySem.W.Frag
abbrev xba:=@PySem.wpAny_bind
abbrev xbb:=@PySem.Heap.get?_push_of_some
abbrev xbc:=@Nat.le_trans
abbrev xbd:=@List.length_map
abbrev xbe:=@PySem.wpAny_pure
abbrev xbf:=@Nat.le_refl
abbrev xbg:=@Nat.lt_of_lt_of_le
abbrev xbh:=@PyProof.Rows.wpS_bind
abbrev xbi:=@List.getElem?_eq_getElem
abbrev xbj:=@PyProof.Rows.wpS_pure
abbrev xbk:=@List.getElem?_eq_some_iff
abbrev xbl:=@PySem.Heap.lt_size
abbrev xbm:=@PySem.Heap.get?_push_size
abbrev xbn:=@List.mem_cons
abbrev xbo:=@List.size_toArray
abbrev xbp:=@List.length_append
abbrev xbq:=@Nat.le_of_lt
abbrev xbr:=@Nat.le_add_right
abbrev xbs:=@List.mem_append
abbrev xbt:=@decide_eq_false
abbrev xbu:=@List.length_cons
abbrev xbv:=@List.getElem?_append_left
abbrev xbw:=@Nat.le_of_not_lt
abbrev xbx:=@List.map_cons
abbrev xby:=@Array.getElem?_toList
abbrev xbz:=@List.mem_cons_self
abbrev xca:=@List.mem_cons_of_mem
abbrev xcb:=@Array.length_toList
abbrev xcc:=@List.mem_of_getElem?
abbrev xcd:=@Nat.add_le_add_left
abbrev xce:=@decide_eq_true
abbrev xcf:=@Nat.add_sub_cancel'
abbrev xcg:=@List.mem_singleton
abbrev xch:=@Option.map_eq_some_iff
abbrev xci:=@Ne.symm
abbrev xcj:=@Nat.ne_of_lt
abbrev xck:=@Option.some.inj
abbrev xcl:=@Array.toList_append
abbrev xcm:=@List.getElem?_map
abbrev xcn:=@List.append_assoc
abbrev xco:=@List.getElem?_append_right
abbrev xcp:=@Nat.lt_of_le_of_lt
abbrev xcq:=@List.getD_eq_getElem?_getD
abbrev xcr:=@List.getElem?_set_ne
abbrev xcs:=@Nat.add_sub_cancel_left
abbrev xct:=@Nat.le_of_lt_succ
abbrev xcu:=@Nat.lt_of_le_of_ne
abbrev xcv:=@Nat.le_sub_one_of_lt
abbrev xcw:=@Nat.le_of_succ_le
abbrev xcx:=@List.mem_append_right
abbrev xcy:=@Nat.le_of_eq
abbrev xcz:=@Nat.le_of_add_left_le
abbrev xda:=@PySem.W.mg_none_of
abbrev xdb:=@List.mem_map
abbrev xdc:=@PyProof.Rows.wpS_forRange
abbrev xdd:=@Nat.sub_lt_left_of_lt_add
abbrev xde:=@List.length_drop
abbrev xdf:=@List.all_eq_true
abbrev xdg:=@Nat.zero_le
abbrev xdh:=@Nat.le_antisymm
abbrev xdi:=@Nat.add_lt_of_lt_sub'
abbrev xdj:=@Bool.and_eq_true
abbrev xdk:=@Bool.false_eq_true
abbrev xdl:=@List.length_take
abbrev xdm:=@List.getElem_mem
abbrev xdn:=@List.map_map
abbrev xdo:=@Nat.zero_add
abbrev xdp:=@Nat.add_lt_add_left
abbrev xdq:=@List.replicate_succ
abbrev xdr:=@Nat.sub_lt_sub_right
abbrev xds:=@List.getElem?_drop
abbrev xdt:=@List.mem_of_mem_drop
abbrev xdu:=@PySem.wpAny_setField_rec
abbrev xdv:=@List.getElem?_set_self
abbrev xdw:=@Nat.not_lt_of_le
abbrev xdx:=@List.not_mem_nil
abbrev xdy:=@PySem.wpAny_call_entry
abbrev xdz:=@List.getElem_of_mem
abbrev xea:=@PySem.wpAny_mono
abbrev xeb:=@PySem.wpAny_newObj_type
abbrev xec:=@Nat.le_sub_of_add_le'
abbrev xed:=@List.getElem?_toArray
abbrev xee:=@PySem.W.kia_one
abbrev xef:=@List.append_nil
abbrev xeg:=@Nat.min_eq_left
abbrev xeh:=@PySem.wpAny_field
abbrev xei:=@Option.bind_eq_some_iff
abbrev xej:=@Nat.succ_le_succ
abbrev xek:=@List.take_length
abbrev xel:=@List.take_of_length_le
abbrev xem:=@PySem.Heap.size_push
abbrev xen:=@Int.toNat_natCast
abbrev xeo:=@Nat.lt_of_succ_lt
abbrev xep:=@List.length_set
abbrev xeq:=@List.lookup_cons
abbrev xer:=@List.pairwise_cons
abbrev xes:=@PyProof.Rows.wpS_mono
abbrev xet:=@PySem.sizeLine_eq
abbrev xeu:=@PySem.F.slot_dict_keyiterator_next
abbrev xev:=@Nat.sub_le_sub_right
abbrev xew:=@if_true
abbrev xex:=@Nat.sub_pos_of_lt
abbrev xey:=@Array.toList_push
abbrev xez:=@PySem.wpAny_truthy_bool
abbrev xfa:=@of_decide_eq_true
abbrev xfb:=@decide_eq_true_eq
abbrev xfc:=@List.find?_cons
abbrev xfd:=@PySem.wpAny_ite_false
abbrev xfe:=@Nat.lt_or_ge
abbrev xff:=@Array.perm_iff_toList_perm
abbrev xfg:=@Nat.lt_of_not_le
abbrev xfh:=@List.mem_range
abbrev xfi:=@Bool.false_ne_true
abbrev xfj:=@Nat.lt_of_lt_of_eq
abbrev xfk:=@PySem.wpAny_seqItems
abbrev xfl:=@List.drop_eq_getElem_cons
abbrev xfm:=@Nat.ne_of_gt
abbrev xfn:=@List.pairwise_append
abbrev xfo:=@Bool.or_eq_false_iff
abbrev xfp:=@List.map_append
abbrev xfq:=@if_false
abbrev xfr:=@Nat.le_succ_of_le
abbrev xfs:=@List.flatten_cons
abbrev xft:=@PySem.wpAny_holding
abbrev xfu:=@PySem.wpAny_typeNameOfWhole_keyiter
abbrev xfv:=@PySem.mem_of_lookup
abbrev xfw:=@beq_eq_false_iff_ne
abbrev xfx:=@beq_self_eq_true
abbrev xfy:=@Nat.sub_le
abbrev xfz:=@beq_iff_eq
abbrev xga:=@PyProof.Rows.wpS_modify
abbrev xgb:=@PySem.wpAny_rule
abbrev xgc:=@PyProof.Rows.callWith_type1
abbrev xgd:=@PySem.Obj.data_mapFields
abbrev xge:=@Nat.sub_add_cancel
abbrev xgf:=@PySem.wpAny_pyIter_tuple
abbrev xgg:=@List.length_replicate
abbrev xgh:=@List.Perm.append_left
abbrev xgi:=@List.take_append_drop
abbrev xgj:=@List.perm_append_comm
abbrev xgk:=@PySem.wpAny_passesOwn
abbrev xgl:=@Nat.lt_irrefl
abbrev xgm:=@List.take_succ_eq_append_getElem
abbrev xgn:=@PySem.Heap.SameBut.update
abbrev xgo:=@Nat.sub_le_sub_left
abbrev xgp:=@PyProof.Rows.slot_tuple_getitem
abbrev xgq:=@List.countP_cons_of_pos
abbrev xgr:=@Nat.lt_add_of_pos_right
abbrev xgs:=@PySem.W.mg_of
abbrev xgt:=@PyProof.Rows.wpS_get
abbrev xgu:=@Bool.eq_iff_iff
abbrev xgv:=@Nat.sub_lt
abbrev xgw:=@Nat.min_le_left
abbrev xgx:=@Int.emod_nonneg
abbrev xgy:=@List.count_eq_zero
abbrev xgz:=@PySem.call_meets
abbrev xha:=@List.Perm.append_right
abbrev xhb:=@List.drop_eq_nil_of_le
abbrev xhc:=@decide_true
abbrev xhd:=@or_false
abbrev xhe:=@PySem.Heap.get?_update_self
abbrev xhf:=@Nat.lt_trans
abbrev xhg:=@List.drop_drop
abbrev xhh:=@Array.extract_eq_empty_of_le
abbrev xhi:=@List.getElem?_eq_none
abbrev xhj:=@PySem.F.slot_zip_next
abbrev xhk:=@PySem.Str.cps_append
abbrev xhl:=@PySem.wpAny_setField
abbrev xhm:=@decide_false
abbrev xhn:=@List.mem_append_left
abbrev xho:=@Array.toList_reverse
abbrev xhp:=@List.reverse_reverse
abbrev xhq:=@PySem.F.slot_tuple_mul
abbrev xhr:=@PySem.wpAny_updateSeq_pair
abbrev xhs:=@List.sum_cons
abbrev xht:=@Array.getElem?_eq_getElem
abbrev xhu:=@List.pairwise_iff_getElem
abbrev xhv:=@PySem.F.args_tuple_add_2
abbrev xhw:=@Nat.sub_self
abbrev xhx:=@List.filter_append
abbrev xhy:=@PyProof.Rows.slot_tuple_getitem
abbrev xhz:=@List.nodup_nil
abbrev xia:=@PySem.typeIs_str
abbrev xib:=@List.getElem?_replicate
abbrev xic:=@PySem.F.entry_tuple_add
abbrev xid:=@List.countP_cons_of_neg
abbrev xie:=@List.pairwise_singleton
abbrev xif:=@List.getElem?_cons_succ
abbrev xig:=@Int.eq_ofNat_of_zero_le
abbrev xih:=@Nat.zero_lt_of_lt
abbrev xii:=@Nat.lt_succ_of_lt
abbrev xij:=@List.count_append
abbrev xik:=@PySem.wpAny_pyIter_list
abbrev xil:=@PySem.F.slot_tuple_add
abbrev xim:=@PySem.F.plainAttrs_str
abbrev xin:=@PySem.Paired.length
abbrev xio:=@List.any_cons
abbrev xip:=@PySem.wpAny_attempt
abbrev xiq:=@Nat.min_le_right
abbrev xir:=@Nat.min_eq_right
abbrev xis:=@List.mem_reverse
abbrev xit:=@Nat.lt_succ_self
abbrev xiu:=@Array.all_toList
abbrev xiv:=@PyProof.Rows.wpS_lift
abbrev xiw:=@PySem.wpAny_pyIter_zip
abbrev xix:=@and_self
abbrev xiy:=@PySem.F.slot_tuple_lt
abbrev xiz:=@PySem.F.slot_dict_get
abbrev xja:=@PySem.Obj.isFreed_of_fields
abbrev xjb:=@List.Pairwise.sublist
abbrev xjc:=@PySem.StrLaws.glued_eq_join
abbrev xjd:=@PySem.builtinLookup_eq_fast
abbrev xje:=@List.mem_filter
abbrev xjf:=@List.nodup_cons
abbrev xjg:=@List.length_nil
abbrev xjh:=@List.forIn_cons
abbrev xji:=@Nat.add_zero
abbrev xjj:=@List.mem_of_mem_take
abbrev xjk:=@List.foldl_cons
abbrev xjl:=@Int.zero_add
abbrev xjm:=@PySem.wpAny_execs_nil
abbrev xjn:=@List.filterMap_cons
abbrev xjo:=@List.length_pos_iff
abbrev xjp:=@ne_true_of_eq_false
abbrev xjq:=@PySem.wpAny_letGo
abbrev xjr:=@PySem.Calls.spliced_cons
abbrev xjs:=@List.zip_cons_cons
abbrev xjt:=@Array.append_empty
abbrev xju:=@Nat.pos_of_ne_zero
abbrev xjv:=@List.getElem?_take
abbrev xjw:=@List.set_cons_zero
abbrev xjx:=@PySem.F.args_tuple_mul_2
abbrev xjy:=@PySem.F.args_str_split_2
abbrev xjz:=@Int.emod_lt_of_pos
abbrev xka:=@Nat.eq_zero_or_pos
abbrev xkb:=@List.length_range'
abbrev xkc:=@PySem.wpAny_Call_Name_kw
abbrev xkd:=@PySem.tupleKind_room_in1
abbrev xke:=@PySem.F.args_object_init_3
abbrev xkf:=@PySem.wpAny_onRaise
abbrev xkg:=@PySem.Obj.cls_mapFields
abbrev xkh:=@List.mapM_toArray
abbrev xki:=@List.ext_getElem?
abbrev xkj:=@List.length_range
abbrev xkk:=@PySem.F.entry_tuple_mul
abbrev xkl:=@PySem.F.entry_str_split
abbrev xkm:=@PySem.wpAny_dictEntries
abbrev xkn:=@List.map_nil
abbrev xko:=@Nat.max_eq_right
abbrev xkp:=@List.zipIdx_cons
abbrev xkq:=@map_eq_pure_bind
abbrev xkr:=@List.of_mem_zip
abbrev xks:=@Nat.le_add_left
abbrev xkt:=@List.nil_append
abbrev xku:=@Bool.or_eq_true
abbrev xkv:=@Nat.two_pos
abbrev xkw:=@List.drop_left
set_option maxHeartbeats 0
namespace L2
open PySem PySem.Spec PyProof.Rows
noncomputable abbrev Key:=Sum Int Str
noncomputable def keyIs:Key->Value->Bool
 | .inl k,v=>Value.isInt k v
 | .inr x,v=>Value.isStrOf x v
noncomputable def keyH (w:World):Key->Int
 | .inl k=>hashInt k
 | .inr x=>hashStr w x
theorem zbh:∀{k:Key} {v:Value},keyIs k v=true->(∃i t,k=Sum.inl i/\v=Value.int i t)\/(∃x t,k=Sum.inr x/\v=Value.str x t)
 | .inl i,v,h=>by
  obtain⟨t,e⟩:=Value.isInt_shape (k:=i) (v:=v) h;exact .inl ⟨i,t,rfl,e⟩
 | .inr x,v,h=>by
  obtain⟨t,e⟩:=Value.isStrOf_shape (x:=x) (v:=v) h;exact .inr ⟨x,t,rfl,e⟩
theorem zrf (i:Int)(t:Tok):keyIs (.inl i) (.int i t)=true:=by simp[keyIs,Value.isInt]
theorem zre (x:Str)(t:Tok):keyIs (.inr x) (.str x t)=true:=by simp[keyIs,Value.isStrOf]
theorem zbek (a b:Int):decide ((Sum.inl a:Key)=Sum.inl b)=(a==b):=by
 by_cases e:a=b
 ·subst e;simp
 ·have h:¬ (Sum.inl a:Key)=Sum.inl b:=fun q=>e (Sum.inl.inj q)
  rw[xbt h];exact(xfw.mpr e).symm
theorem zbeh (a b:Str):decide ((Sum.inr a:Key)=Sum.inr b)=decide (a=b):=by
 by_cases e:a=b
 ·subst e;simp
 ·have h:¬ (Sum.inr a:Key)=Sum.inr b:=fun q=>e (Sum.inr.inj q)
  rw[xbt h,xbt e]
theorem zbej (a:Int)(b:Str):decide ((Sum.inl a:Key)=Sum.inr b)=false:=xbt (fun q=>nomatch q)
theorem zbei (a:Str)(b:Int):decide ((Sum.inr a:Key)=Sum.inl b)=false:=xbt (fun q=>nomatch q)
noncomputable def mixKind (prog:Program) (w:World):PySem.KeyKind prog w Key where
 is:=keyIs
 hash:=keyH w
 inj:=fun v a b ha hb=>by
  rcases zbh ha with⟨i,t,rfl,rfl⟩ | ⟨x,t,rfl,rfl⟩
  ·rcases zbh hb with⟨j,u,rfl,e⟩ | ⟨y,u,rfl,e⟩
   ·injection e with e1 _;rw[e1]
   ·exact nomatch e
  ·rcases zbh hb with⟨j,u,rfl,e⟩ | ⟨y,u,rfl,e⟩
   ·exact nomatch e
   ·injection e with e1 _;rw[e1]
 byValue:=fun k v h=>by
  rcases zbh h with⟨i,t,rfl,rfl⟩ | ⟨x,t,rfl,rfl⟩<;>rfl
 pyHash:=fun hv h=>by
  rcases zbh hv with⟨i,t,rfl,rfl⟩ | ⟨x,t,rfl,rfl⟩
  ·exact wpAny_pyHash_int h
  ·exact wpAny_pyHash_str h
 eqBool:=fun hu hv h=>by
  rcases zbh hu with⟨i,t,rfl,rfl⟩ | ⟨x,t,rfl,rfl⟩
  ·rcases zbh hv with⟨j,u,rfl,rfl⟩ | ⟨y,u,rfl,rfl⟩
   ·rw[zbek] at h;exact wpAny_eqBool_int h
   ·rw[zbej] at h;exact SeqAt.EqAt.int_str i t y u _ _ _ _ h
  ·rcases zbh hv with⟨j,u,rfl,rfl⟩ | ⟨y,u,rfl,rfl⟩
   ·rw[zbei] at h;exact SeqAt.EqAt.str_int x t j u _ _ _ _ h
   ·rw[zbeh] at h;exact wpAny_eqBool_str h
 «strs»:=fun k x t v h=>by
  rcases zbh h with⟨i,u,rfl,e⟩ | ⟨y,u,rfl,e⟩
  ·exact nomatch e
  ·injection e with e1 _
   subst e1;cases v<;>rfl
theorem zml (prog:Program)(w:World)(i:Int)(t:Tok):(mixKind prog w).is (.inl i) (.int i t)=true:=zrf i t
theorem zmk (prog:Program)(w:World)(x:Str)(t:Tok):(mixKind prog w).is (.inr x) (.str x t)=true:=zre x t
set_option genInjectivity true in
inductive V where
 | non | bl (b:Bool) | int (i:Int) | str (x:Str) | byt (b:Array UInt8) | flt (b:UInt64) | ref (a:Addr) | ty (n:String)
 deriving DecidableEq
noncomputable def RelV:V->Value->Prop
 | .non,u=>u=Value.none
 | .bl b,u=>u=Value.bool b
 | .int i,u=>∃t,u=Value.int i t
 | .str x,u=>∃t,u=Value.str x t
 | .byt b,u=>∃t,u=Value.bytes b t
 | .flt b,u=>∃t,u=Value.float b t
 | .ref a,u=>u=Value.ref a
 | .ty n,u=>u=Value.type n
noncomputable abbrev Vals:List V->List Value->Prop:=Paired RelV
theorem Vals.length {xs:List V}{us:List Value}(r:Vals xs us):xs.length=us.length:=xin r
theorem Vals.get:∀{xs:List V} {us:List Value} {i:Nat} {x:V},Vals xs us->xs[i]?=some x->∃u,us[i]?=some u/\RelV x u
 | _,_,_,_,.nil,e=>by simp at e
 | _,_,0,_,.cons r _,e=>by simp at e;subst e;exact⟨_,rfl,r⟩
 | _,_,i+1,x,.cons _ t,e=>by
  obtain⟨u,h1,h2⟩:=Vals.get (i:=i) (x:=x) t (by simpa using e);exact⟨u,by simpa using h1,h2⟩
theorem Vals.set {x:V}{u:Value}(r:RelV x u):∀{xs:List V} {us:List Value} (i:Nat),Vals xs us->Vals (xs.set i x) (us.set i u)
 | _,_,_,.nil=>.nil
 | _,_,0,.cons _ t=>.cons r t
 | _,_,i+1,.cons q t=>.cons q (Vals.set r i t)
theorem Vals.append:∀{xs ys:List V} {us ws:List Value},Vals xs us->Vals ys ws->Vals (xs++ys) (us++ws)
 | _,_,_,_,.nil,s=>s
 | _,_,_,_,.cons r t,s=>.cons r (Vals.append t s)
theorem Vals.take:∀{xs:List V} {us:List Value} (n:Nat),Vals xs us->Vals (xs.take n) (us.take n)
 | _,_,0,_=>.nil
 | _,_,_+1,.nil=>.nil
 | _,_,n+1,.cons r t=>.cons r (Vals.take n t)
theorem Vals.drop:∀{xs:List V} {us:List Value} (n:Nat),Vals xs us->Vals (xs.drop n) (us.drop n)
 | _,_,0,r=>r
 | _,_,_+1,.nil=>.nil
 | _,_,n+1,.cons _ t=>Vals.drop n t
noncomputable def RelO:Option V->Option Value->Prop
 | some v,some u=>RelV v u
 | none,none=>True
 | _,_=>False
noncomputable def KV {κ:Type}:List (κ×V)->List (κ×Value)->Prop:=Paired fun(p:κ×V) (q:κ×Value)=>p.1=q.1/\RelV p.2 q.2
noncomputable def kV:Key->V
 | .inl i=>.int i
 | .inr x=>.str x
set_option genInjectivity true in
inductive HO where
 /-- a list -/
 | lst (xs:List V)
 /-- a tuple (never changes) -/
 | tup (xs:List V)
 /-- a dict whose keys are ints and texts;one whose keys are tuples of ints and texts (the empty one is both) -/
 | dK (kvs:List (Key×V)) | dT (kvs:List (List Key×V))
 /-- a set of ints: its members,its size -/
 | set (S:Int->Bool) (n:Nat)
 /-- an instance of the class at C,its dict at dx,its attributes -/
 | ins (C dx:Addr) (fs:List (Str×V))
 /-- the dict of the instance at x -/
 | own (x:Addr)
 /-- the dict of an exception -/
 | xd (fs:List (Str×V))
 /-- a bound method,f of x -/
 | met (f x:Addr)
 /-- a range object lo,lo+1,.. below hi -/
 | rng (lo hi:Int)
 /-- a thing that is known to the object (the script;a dict while a loop walks it): read,never written while it is so -/
 | frz (o:Obj) (u:HO)
 /-- a code object's table -/
 | tbl (ps:Array Value)
 /-- any other thing,by what is true of its one object (a def of one's own: SetO a S n:=HO.ext fun h=>..) -/
 | ext (φ:Heap->Prop)
noncomputable abbrev Hp:=Addr->Option HO
noncomputable def upd (H:Hp) (a:Addr) (o:HO):Hp:=fun b=>if b=a then some o else H b
theorem zba {H:Hp}{a:Addr}{o:HO}:upd H a o a=some o:=by unfold upd;rw[if_pos rfl]
theorem zr {H:Hp}{a b:Addr}{o:HO}(h:b≠a):upd H a o b=H b:=by unfold upd;rw[if_neg h]
theorem zbih {H:Hp}{a b:Addr}{o u:HO}(h:H a=some o)(h':H b=some u)(d:o≠u):a≠b:=by
 intro e;subst e;rw[h] at h';exact d (xck h')
theorem zj {H:Hp}{a b:Addr}{o:HO}(h:H a=some o)(h':H b=none):a≠b:=by
 intro e;subst e;rw[h] at h';cases h'
section
variable (P:Program)(w:World)
noncomputable def ObjOk (H:Hp) (h:Heap) (a:Addr):HO->Prop
 | .lst xs=>xs.length<=sizeLine/\∃(its:List Value) (n:Nat), Vals xs its/\h.get? a=some { cls:=.type "list", data:=.seq its.toArray n }
 | .tup xs=>xs.length<=sizeLine/\∃its:List Value,Vals xs its/\IsTup h a its.toArray
 | .dK kvs=>kvs.length<=sizeLine/\(a==sysModules)=false/\∃vs,KV kvs vs/\h.DictOf (mixKind P w) a vs
 | .dT kvs=>kvs.length<=sizeLine/\(a==sysModules)=false/\∃xs:List (List Key×Addr×Value),
  Paired (fun(p:List Key×V) (q:List Key×Addr×Value)=>p.1=q.1/\H q.2.1=some (.tup (p.1.map kV))/\RelV p.2 q.2.2) kvs xs /\
  ∃o es ep,h.get? a=some o/\o.ExactDict/\o.data=.dict es ep/\es.toList=xs.map (entryOfKey (tupleKind (mixKind P w)))/\(xs.map (·.1)).Nodup
 | .set S n=>h.SetOf (intKind P w) a S n
 | .ins C dx fs=>H dx=some (.own a)/\fs.length<=1000/\dx≠a/\h.get? a=some (W.instObj C dx) /\
  ∃mA,h.Ns1 dx mA/\(∀f,RelO (fs.lookup f) (mA f))/\PySem.Within mA (fs.map (·.1))
 | .own _=>∃o,h.get? a=some o
 | .xd fs=>∃mA,h.Ns1 a mA/\∀f,RelO (fs.lookup f) (mA f)
 | .rng lo hi=>∃ t u v, h.get? a=some { cls:=.type "range", data:=.fields #[.int lo t, .int hi u, .int 1 v] }
 | .frz o u=>h.get? a=some o/\ObjOk H h a u
 | .tbl ps=>h.get? a=some {cls:=.none,data:=.fields ps}
 | .met f x=>h.get? a=some (W.methodObj (.ref f) (.ref x))
 | .ext φ=>φ h/\(∃o,h.get? a=some o)/\∀h1 h2:Heap,φ h1->(∀o,h1.get? a=some o->h2.get? a=some o)->φ h2
noncomputable def HOk (H:Hp) (h:Heap):Prop:=∀a o,H a=some o->ObjOk P w H h a o
end
section
variable {P:Program}{w:World}{H H':Hp}{h h':Heap}{a:Addr}{o:HO}
theorem ObjOk.lt (x:ObjOk P w H h a o):a < h.objs.size:=by
 cases o with
 | lst xs=>obtain⟨_,_,_,_,e⟩:=x;exact xbl e
 | tup xs=>obtain⟨_,_,_,p⟩:=x;exact p.lt
 | dK kvs=>obtain⟨_,_,_,_,o,_,_,e,_⟩:=x;exact xbl e
 | dT kvs=>obtain⟨_,_,_,_,o,_,_,e,_⟩:=x;exact xbl e
 | set S n=>obtain⟨o,_,_,_,e,_⟩:=x;exact xbl e
 | ins C dx fs=>obtain⟨_,_,_,e,_⟩:=x;exact xbl e
 | own y=>obtain⟨_,e⟩:=x;exact xbl e
 | xd fs=>obtain⟨_,⟨_,_,_,e,_⟩,_⟩:=x;exact xbl e
 | rng lo hi=>obtain⟨_,_,_,e⟩:=x;exact xbl e
 | frz ob u=>obtain⟨e,_⟩:=x;exact xbl e
 | tbl ps=>exact xbl (show h.get? a=some _ from x)
 | met f y=>exact xbl (show h.get? a=some _ from x)
 | ext φ=>obtain⟨_,⟨_,e⟩,_⟩:=x;exact xbl e
theorem Paired.mapP {α β:Type}{F G:α->β->Prop}:∀{l₁:List α} {l₂:List β},Paired F l₁ l₂->(∀a b,F a b->G a b)->Paired G l₁ l₂
 | _,_,.nil,_=>.nil
 | _,_,.cons r t,f=>.cons (f _ _ r) (Paired.mapP t f)
theorem ObjOk.stay (x:ObjOk P w H h a o)(k:∀b u,(b=a\/H b=some (.own a))->h.get? b=some u->h'.get? b=some u)
  (ho:∀b,H b=some (.own a)->H' b=some (.own a))(ht:∀b xs,H b=some (.tup xs)->H' b=some (.tup xs)):ObjOk P w H' h' a o:=by
 induction o with
 | lst xs=>obtain⟨z,its,n,r,e⟩:=x;exact⟨z,its,n,r,k _ _ (.inl rfl) e⟩
 | tup xs=>obtain⟨z,its,r,ob,e,c⟩:=x;exact⟨z,its,r,ob,k _ _ (.inl rfl) e,c⟩
 | dK kvs=>obtain⟨z,y,vs,r,ob,es,ep,e,c⟩:=x;exact⟨z,y,vs,r,ob,es,ep,k _ _ (.inl rfl) e,c⟩
 | dT kvs =>
  obtain⟨z,y,xs,r,ob,es,ep,e,c⟩:=x;exact⟨z,y,xs,Paired.mapP r fun p q z=>⟨z.1,ht _ _ z.2.1,z.2.2⟩,ob,es,ep,k _ _ (.inl rfl) e,c⟩
 | set S n=>obtain⟨ob,es,ep,t,e,c⟩:=x;exact⟨ob,es,ep,t,k _ _ (.inl rfl) e,c⟩
 | ins C dx fs =>
  obtain⟨d,z,ne,e,mA,⟨od,es,ep,e2,c⟩,r⟩:=x;exact⟨ho _ d,z,ne,k _ _ (.inl rfl) e,mA,⟨od,es,ep,k _ _ (.inr d) e2,c⟩,r⟩
 | own y=>obtain⟨ob,e⟩:=x;exact⟨ob,k _ _ (.inl rfl) e⟩
 | xd fs=>obtain⟨mA,⟨od,es,ep,e,c⟩,r⟩:=x;exact⟨mA,⟨od,es,ep,k _ _ (.inl rfl) e,c⟩,r⟩
 | rng lo hi=>obtain⟨t,u,v,e⟩:=x;exact⟨t,u,v,k _ _ (.inl rfl) e⟩
 | frz ob u ih=>obtain⟨e,q⟩:=x;exact⟨k _ _ (.inl rfl) e,ih q⟩
 | tbl ps =>
  have e:h.get? a=some {cls:=.none,data:=.fields ps}:=x;show h'.get? a=some {cls:=.none,data:=.fields ps};exact k a _ (.inl rfl) e
 | met f y =>
  have e:h.get? a=some (W.methodObj (.ref f) (.ref y)):=x;show h'.get? a=some (W.methodObj (.ref f) (.ref y));exact k a _ (.inl rfl) e
 | ext φ=>obtain⟨p,⟨o,e⟩,st⟩:=x;exact⟨st _ _ p fun o q=>k _ _ (.inl rfl) q,⟨o,k _ _ (.inl rfl) e⟩,st⟩
theorem HOk.lt (x:HOk P w H h)(e:H a=some o):a < h.objs.size:=(x a o e).lt
theorem HOk.fresh (x:HOk P w H h)(e:h.objs.size<=a):H a=none:=by
 cases q:H a with
 | none=>rfl
 | some u=>exact absurd (xbg (x.lt q) e) (xgl _)
theorem HOk.kept (x:HOk P w H h)(k:∀b u,h.get? b=some u->h'.get? b=some u):HOk P w H h':=fun a o e =>
 (x a o e).stay (fun b u _ q=>k b u q) (fun _ q=>q) fun _ _ q=>q
theorem HOk.laid (x:HOk P w H h)(k:∀b u,h.get? b=some u->h'.get? b=some u)(hp:h.objs.size<=a)(new:ObjOk P w (upd H a o) h' a o):HOk P w (upd H a o) h':=fun b u e=>by
 have hn:=x.fresh hp;by_cases hb:b=a
 ·subst hb;rw[zba] at e;cases e;exact new
 ·rw[zr hb] at e;exact(x b u e).stay (fun c v _ q=>k c v q) (fun c q=>by rw[zr (zj q hn)];exact q) fun c xs q=>by rw[zr (zj q hn)];exact q
end
noncomputable def Rd (H:Hp) (a:Addr) (u:HO):Prop:=H a=some u\/∃o,H a=some (.frz o u)
theorem Rd.ok {P:Program}{w:World}{H:Hp}{h:Heap}{a:Addr}{u:HO}(r:Rd H a u)(x:HOk P w H h):ObjOk P w H h a u:=by
 rcases r with r | ⟨o,r⟩
 ·exact x a u r
 ·obtain⟨_,q⟩:=x a _ r;exact q
noncomputable def Mut:Option HO->Prop
 | some (.lst _)=>True
 | some (.dK _)=>True
 | some (.dT _)=>True
 | some (.set _ _)=>True
 | some (.ins _ _ _)=>True
 | some (.ext _)=>True
 | _=>False
section
variable {P:Program}{w:World}{H:Hp}{h h':Heap}{x e:Addr}{o':HO}
theorem HOk.write (ok:HOk P w H h)(mu:Mut (H x))(he:e=x\/H e=some (.own x))(k:∀b u,b≠e->h.get? b=some u->h'.get? b=some u)(heo:∃u,h'.get? e=some u)
  (new:ObjOk P w (upd H x o') h' x o'):HOk P w (upd H x o') h':=fun b u q=>by
 have nown:∀c y,H c=some (.own y)->c≠x:=fun c y r z=>by subst z;rw[r] at mu;exact mu
 have ntup:∀c xs,H c=some (.tup xs)->c≠x:=fun c xs r z=>by subst z;rw[r] at mu;exact mu
 by_cases hb:b=x
 ·subst hb;rw[zba] at q;cases q;exact new
 ·rw[zr hb] at q;by_cases hbe:b=e
  ·have q':H b=some (.own x):=by
    rcases he with z | z
    ·exact absurd (hbe.trans z) hb
    ·rw[hbe];exact z
   rw[q] at q';cases q'
   obtain⟨v,hv⟩:=heo;exact⟨v,by rw[hbe];exact hv⟩
  ·refine(ok b u q).stay (fun c v hc r=>k c v ?_ r) (fun c r=>by rw[zr (nown c b r)];exact r) fun c xs r=>by rw[zr (ntup c xs r)];exact r
   rcases hc with rfl | hc
   ·exact hbe
   ·rintro rfl;rcases he with z | z
    ·exact nown c b hc z
    ·rw[hc] at z;cases z;exact hb rfl
end
structure Un (fs ex:List Addr) (H H':Hp) (h h':Heap):Prop where
 keep:∀b o,h.get? b=some o->H b=none->b∉fs->b∉ex->h'.get? b=some o
 slot:∀b o,h.get? b=some o->H b=none->b∈fs->b∉ex->∃sl,h'.get? b=some {o with slots:=sl}
 free:∀b o,h.get? b=some o->H b=none->b∉ex->H' b=none
 there:∀b o,h.get? b=some o->b∉ex->∃o',h'.get? b=some o'
 tups:∀b xs,H b=some (.tup xs)->H' b=some (.tup xs)
 frzs:∀b o u,H b=some (.frz o u)->H' b=some (.frz o u)
 tbls:∀b ps,H b=some (.tbl ps)->∃more,H' b=some (.tbl (ps++more))
section
variable {fs fs' ex ex':List Addr}{H H1 H2:Hp}{h h1 h2 h':Heap}{a x e:Addr}{o:HO}
theorem Un.any (u:Un fs ex H H1 h h1){b:Addr}{ob:Obj}(q:h.get? b=some ob)(n:H b=none)(hx:b∉ex):∃sl,h1.get? b=some {ob with slots:=sl}:=by
 by_cases hb:b∈fs
 ·exact u.slot b ob q n hb hx
 ·exact⟨ob.slots,u.keep b ob q n hb hx⟩
theorem Un.kept (k:∀b u,h.get? b=some u->h'.get? b=some u):Un fs ex H H h h' :=
 ⟨fun b ob q _ _ _=>k b ob q,fun b ob q _ _ _=>⟨ob.slots,k b ob q⟩,fun _ _ _ n _=>n,fun b ob q _=>⟨ob,k b ob q⟩,fun _ _ q=>q,fun _ _ _ q=>q,fun _ ps q=>⟨#[],by rw[q];simp⟩⟩
theorem Un.refl:Un fs ex H H h h:=Un.kept fun _ _ q=>q
theorem Un.laid (k:∀b u,h.get? b=some u->h'.get? b=some u)(hp:h.objs.size<=a)(hn:H a=none):Un fs ex H (upd H a o) h h' where
 keep:=fun b u q _ _ _=>k b u q
 slot:=fun b u q _ _ _=>⟨u.slots,k b u q⟩
 free:=fun b u q n _=>by rw[zr (xcj (xbg (xbl q) hp))];exact n
 there:=fun b u q _=>⟨u,k b u q⟩
 tups:=fun b xs q=>by rw[zr (zj q hn)];exact q
 frzs:=fun b u xs q=>by rw[zr (zj q hn)];exact q
 tbls:=fun b ps q=>⟨#[],by rw[zr (zj q hn),q];simp⟩
theorem Un.write (mu:Mut (H x))(he:e=x\/H e=some (.own x))(k:∀b u,b≠e->h.get? b=some u->h'.get? b=some u)(heo:∃u,h'.get? e=some u):Un fs ex H (upd H x o) h h':=by
 have hx:∀b,H b=none->b≠x:=fun b n z=>by subst z;rw[n] at mu;exact mu
 have hb:∀b,H b=none->b≠e:=fun b n z=>by
  subst z;rcases he with r | r
  ·exact hx b n r
  ·rw[n] at r;cases r
 have hm:∀b u,H b=some u->¬ Mut (some u)->b≠x:=fun b u q nm z=>by subst z;rw[q] at mu;exact nm mu
 refine⟨fun b u q n _ _=>k b u (hb b n) q,fun b u q n _ _=>⟨u.slots,k b u (hb b n) q⟩,fun b u q n _=>by rw[zr (hx b n)];exact n,fun b u q _=>?_,
  fun b xs q=>by rw[zr (hm b _ q fun z=>z)];exact q,fun b u xs q=>by rw[zr (hm b _ q fun z=>z)];exact q,fun b ps q=>⟨#[],by rw[zr (hm b _ q fun z=>z),q];simp⟩⟩
 by_cases hbe:b=e
 ·subst hbe;exact heo
 ·exact⟨u,k b u hbe q⟩
end
noncomputable def trk (h:Heap) (H:Hp):List Addr:=(List.range h.objs.size).filter fun a=>(H a).isSome
noncomputable def hidT (h:Heap) (H:Hp):Heap:=W.hideAll h (trk h H)
theorem zrj (h:Heap)(H:Hp):(hidT h H).objs.size=h.objs.size:=W.hideAll_size _ _
theorem zvj {h:Heap}{H:Hp}{b:Addr}{o:Obj}(e:h.get? b=some o)(n:H b=none):(hidT h H).get? b=some o :=
 W.hideAll_get _ e fun hm=>by
  have q:(H b).isSome=true:=(xje.mp hm).2;rw[n] at q;simp at q
theorem zys {h:Heap}{H:Hp}{b:Addr}{o:Obj}(e:(hidT h H).get? b=some o):h.get? b=some o/\H b=none:=by
 have e':h.get? b=some o:=W.of_hideAll (trk h H) e;refine⟨e',?_⟩;cases q:H b with
 | none=>rfl
 | some x =>
  have hm:b∈trk h H:=xje.mpr ⟨xfh.mpr (xbl e'),by simp[q]⟩;have z:(hidT h H).get? b=none:=W.hideAll_none (trk h H) hm;rw[z] at e;cases e
structure Mod (K:Fg) (mg:Str->Option Value) (base:Heap):Prop where
 kin:K.In base
 glob:base.Ns mainGlobals mg
 blt:∃ mb, base.Ns builtinsNs mb/\∀ x:Str, x≠"__name__"->mb x=bootBuiltins x
 nolimit:base.NoLimit
structure Cx where
 prog:Program
 w:World
 K:Fg
 mg:Str->Option Value
 base:Heap
 A:Around
 N:List Str
 s₀:Shared
 H₀:Hp
 env:Env
 outer:List Env
 stack:List Env
 ex:List Addr
 fn:Str->Bool
 calm:Bool
 pn:List (Addr×Obj)
 xe:Value->Shared->Prop
noncomputable def frs (l:List Env):List Addr:=l.filterMap (·.frame)
noncomputable abbrev Cx.fs (X:Cx):List Addr:=frs X.outer
noncomputable def Vis (sc:Scope) (x:Str):Prop:=sc.names.lookup x=some .local\/sc.names.lookup x=some .cell\/sc.names.lookup x=some .free
noncomputable def Loc (sc:Scope) (x:Str):Prop:=sc.names.lookup x=some .local\/sc.names.lookup x=some .cell
noncomputable def Look (env:Env) (h:Heap) (m:Str->Option Value) (x:Str) (u:Value):Prop :=
 (env.kindOf x=some .local/\m x=some u)\/((env.kindOf x=some .cell\/env.kindOf x=some .free)/\∃c,env.cells.lookup x=some c/\h.IsCell c (some u))
structure Cx.Ok (X:Cx):Prop where
 mod:Mod X.K X.mg X.base
 kind:X.env.scope.kind=.function
 glob:X.env.globals=mainGlobals
 blt:X.env.builtins=builtinsNs
 above:X.s₀.heap.objs.size<=X.env.locals
 inj:∀x y c,X.env.cells.lookup x=some c->X.env.cells.lookup y=some c->x=y
 has:∀x,(X.env.kindOf x=some .cell\/X.env.kindOf x=some .free)->∃c,X.env.cells.lookup x=some c
 cab:∀x c,X.fn x=true->X.env.cells.lookup x=some c->X.s₀.heap.objs.size<=c
 hd:X.calm=true->X.A.handled=none
 frames:X.A.frames=some X.stack
 stk:X.stack=X.outer\/(X.stack=X.env::X.outer/\X.env.frame=some X.env.locals)
 exf:∀b∈X.ex,b≠X.env.locals/\∀x c,X.env.cells.lookup x=some c->c≠b
 bs:∀b o,X.base.get? b=some o->X.s₀.heap.get? b=some o/\X.H₀ b=none
 bsz:X.base.objs.size<=X.s₀.heap.objs.size
 noex:∀b o,X.base.get? b=some o->b∉X.ex
 exfs:∀b∈X.ex,b∉X.fs
 funs:X.s₀.heap.FunFrames X.base X.outer
 frf:∀b∈X.fs,X.H₀ b=none
noncomputable def Hnd (A:Around) (H:Hp):Prop:=∀v,A.handled=some v->∃a o,v=.ref a/\H a=some (.frz o (.ext fun _=>True))/\∃vs,o.data=.fields vs/\vs[2]?=some .none
theorem Hnd.map {A:Around}{H H':Hp}(h:Hnd A H)(f:∀b o u,H b=some (.frz o u)->H' b=some (.frz o u)):Hnd A H':=fun v e=>let ⟨a,o,h1,h2,h3⟩:=h v e;⟨a,o,h1,f _ _ _ h2,h3⟩
theorem Hnd.none {A:Around}{H:Hp}(h:A.handled=.none):Hnd A H:=fun v e=>by rw[h] at e;cases e
structure Inv (X:Cx) (aU:List (Addr×Obj)) (σ:List (Option V)) (H:Hp) (s:Shared):Prop where
 ok:X.Ok
 os:s.os=X.s₀.os
 bare:AllBare s.gens
 base:Un X.fs X.ex X.H₀ H X.s₀.heap s.heap
 loc:∃m,s.heap.Ns X.env.locals m/\∀(i:Nat) (x:Str) (v:V),X.N[i]?=some x->σ[i]?=some (some v)->Vis X.env.scope x->∃u,RelV v u/\Look X.env s.heap m x u
 cell:∀x c,X.env.cells.lookup x=some c->∃v,s.heap.IsCell c v
 free:H X.env.locals=none
 freeC:∀x c,X.env.cells.lookup x=some c->H c=none
 pin:∀p∈X.pn++aU,s.heap.get? p.1=some p.2/\H p.1=none/\p.1≠X.env.locals/\p.1∉X.fs/\∀v,p.2.data≠.cell v
 hok:HOk X.prog X.w H s.heap
 len:σ.length=X.N.length
 hnd:Hnd X.A H
section
variable {X:Cx}{aU:List (Addr×Obj)}{σ:List (Option V)}{H H':Hp}{s:Shared}{h':Heap}
theorem Cx.Ok.nofr (ok:X.Ok){b:Addr}{o:Obj}(e:X.base.get? b=some o):b∉X.fs:=fun hb=>by
 have:=(ok.funs.mem hb).1;rw[e] at this;cases this
theorem Inv.bs (I:Inv X aU σ H s):∀b o,X.base.get? b=some o->s.heap.get? b=some o/\H b=none:=fun b o e =>
 ⟨I.base.keep b o (I.ok.bs b o e).1 (I.ok.bs b o e).2 (I.ok.nofr e) (I.ok.noex b o e),I.base.free b o (I.ok.bs b o e).1 (I.ok.bs b o e).2 (I.ok.noex b o e)⟩
theorem Inv.bk (I:Inv X aU σ H s):∀b o,X.base.get? b=some o->s.heap.get? b=some o:=fun b o e=>(I.bs b o e).1
theorem Inv.mod (I:Inv X aU σ H s):Mod X.K X.mg X.base:=I.ok.mod
theorem Inv.kIn (I:Inv X aU σ H s):X.K.In s.heap:=I.ok.mod.kin.keeps I.bk
theorem Inv.lt (I:Inv X aU σ H s):X.env.locals < s.heap.objs.size:=let ⟨_,hn,_⟩:=I.loc;hn.lt
theorem Inv.sz (I:Inv X aU σ H s):X.s₀.heap.objs.size<=s.heap.objs.size:=xbc I.ok.above (xbq I.lt)
theorem Inv.nofs (I:Inv X aU σ H s){a:Addr}(h:s.heap.objs.size<=a):a∉X.fs:=fun hb=>by
 obtain⟨_,o,ho,_⟩:=I.ok.funs.mem hb;exact absurd (xbg (xbl ho) (xbc I.sz h)) (xgl _)
theorem Inv.cne (I:Inv X aU σ H s):∀x c,X.env.cells.lookup x=some c->c≠X.env.locals:=fun x c e z=>by
 obtain⟨v,o,ho,hd⟩:=I.cell x c e;obtain⟨m,⟨o',es,ep,ho',hd',_⟩,_⟩:=I.loc;rw[z,ho'] at ho;cases ho;rw[hd'] at hd;cases hd
theorem Inv.funs (I:Inv X aU σ H s):s.heap.FunFrames X.base X.outer:=by
 have all:∀(l:List Env),(∀b∈frs l,b∈X.fs)->X.s₀.heap.FunFrames X.base l->s.heap.FunFrames X.base l:=by
  intro l
  induction l with
  | nil=>intro _ _;trivial
  | cons env r ih =>
   intro hs hl;obtain⟨hk,⟨L,o,hf,hn,ho,hd⟩,hr⟩:=hl;have hL:L∈X.fs:=hs L (by unfold frs;rw[xjn,hf];exact xbz);obtain⟨sl,e⟩:=I.base.slot L o ho (I.ok.frf L hL) hL fun z=>I.ok.exfs L z hL
   exact⟨hk,⟨L,_,hf,hn,e,hd⟩,ih (fun b hb=>hs b (by unfold frs;rw[xjn,hf];exact xca _ hb)) hr⟩
 exact all X.outer (fun _ hb=>hb) I.ok.funs
theorem Inv.stack (I:Inv X aU σ H s):s.heap.FunFrames X.base X.stack:=by
 rcases I.ok.stk with e | ⟨e,hf⟩
 ·rw[e];exact I.funs
 ·rw[e];obtain⟨m,hn,_⟩:=I.loc;refine .cons (by rw[I.ok.kind];decide) hf hn ?_ I.funs;exact Heap.get?_none_of_le (xbc I.ok.bsz I.ok.above)
theorem Inv.stkSub (I:Inv X aU σ H s):∀b∈frs X.stack,b∈X.env.locals::X.fs:=fun b hb=>by
 rcases I.ok.stk with e | ⟨e,hf⟩
 ·rw[e] at hb;exact xca _ hb
 ·rw[e] at hb;unfold frs at hb;rw[xjn,hf] at hb;exact hb
theorem Inv.stkFree (I:Inv X aU σ H s):∀b∈frs X.stack,H b=none:=fun b hb=>by
 rcases xbn.mp (I.stkSub b hb) with e | hb
 ·rw[e];exact I.free
 ·obtain⟨_,o,ho,_⟩:=I.ok.funs.mem hb;exact I.base.free b o ho (I.ok.frf b hb) fun z=>I.ok.exfs b z hb
theorem Inv.step {g':Array GenState}{t':Nat}{d':Drawn}{ch:List Addr}(I:Inv X aU σ H s)
  (hch:∀b∈ch,(b∈X.ex\/X.s₀.heap.objs.size<=b)/\b≠X.env.locals/\(∀x c,X.env.cells.lookup x=some c->c≠b)/\∀p∈X.pn++aU,p.1≠b)
  (keep:∀b o,b≠X.env.locals->b∉X.fs->b∉ch->s.heap.get? b=some o->H b=none->h'.get? b=some o)
  (slot:∀b o,b≠X.env.locals->b∈X.fs->b∉ch->s.heap.get? b=some o->H b=none->∃sl,h'.get? b=some {o with slots:=sl})(free:∀b o,b∉ch->s.heap.get? b=some o->H b=none->H' b=none)
  (there:∀b o,b∉ch->s.heap.get? b=some o->∃o',h'.get? b=some o')
  (tups:∀b xs,H b=some (.tup xs)->H' b=some (.tup xs))(frzs:∀b o u,H b=some (.frz o u)->H' b=some (.frz o u))(tbls:∀b ps,H b=some (.tbl ps)->∃more,H' b=some (.tbl (ps++more)))
  (ns:∀m,s.heap.Ns X.env.locals m->h'.Ns X.env.locals m)(hok:HOk X.prog X.w H' h')(hg:AllBare g') :
  Inv X aU σ H' {s with heap:=h',gens:=g',drawn:=d',toks:=t'}:=by
 have neL:∀b o,X.s₀.heap.get? b=some o->b≠X.env.locals:=fun b o e=>xcj (xbg (xbl e) I.ok.above)
 have neC:∀b o,X.s₀.heap.get? b=some o->b∉X.ex->b∉ch:=fun b o e hx hb=>by
  rcases(hch b hb).1 with z | z
  ·exact hx z
  ·exact absurd (xbg (xbl e) z) (xgl _)
 have cellK:∀x c,X.env.cells.lookup x=some c->∀v,s.heap.IsCell c v->h'.IsCell c v:=fun x c e v hq0=>by
  obtain⟨o,ho,hd⟩:=hq0;have nch:c∉ch:=fun z=>(hch c z).2.2.1 x c e rfl
  by_cases hc:c∈X.fs
  ·obtain⟨sl,q⟩:=slot c o (I.cne x c e) hc nch ho (I.freeC x c e);exact⟨_,q,hd⟩
  ·exact⟨o,keep c o (I.cne x c e) hc nch ho (I.freeC x c e),hd⟩
 refine⟨I.ok,I.os,hg,⟨fun b o e n hb hx=>?_,fun b o e n hb hx=>?_,fun b o e n hx=>?_,fun b o e hx=>?_,fun b xs e=>tups b xs (I.base.tups b xs e),fun b o xs e=>frzs b o xs (I.base.frzs b o xs e),fun b ps e=>?_⟩,?_,fun x c e=>?_,?_,fun x c e=>?_,fun p hp=>?_,hok,I.len,I.hnd.map frzs⟩
 ·exact keep b o (neL b o e) hb (neC b o e hx) (I.base.keep b o e n hb hx) (I.base.free b o e n hx)
 ·obtain⟨sl,e1⟩:=I.base.slot b o e n hb hx;obtain⟨sl',e2⟩:=slot b _ (neL b o e) hb (neC b o e hx) e1 (I.base.free b o e n hx);exact⟨sl',e2⟩
 ·obtain⟨o',e1⟩:=I.base.there b o e hx;exact free b o' (neC b o e hx) e1 (I.base.free b o e n hx)
 ·obtain⟨o',e1⟩:=I.base.there b o e hx;exact there b o' (neC b o e hx) e1
 ·obtain⟨m1,e1⟩:=I.base.tbls b ps e;obtain⟨m2,e2⟩:=tbls b _ e1;exact⟨m1++m2,by rw[e2,Array.append_assoc]⟩
 ·obtain⟨m,hn,hl⟩:=I.loc;refine⟨m,ns m hn,fun i x v e1 e2 e3=>?_⟩;obtain⟨u,r,l⟩:=hl i x v e1 e2 e3;refine⟨u,r,?_⟩;rcases l with l | ⟨k,c,e,z⟩
  ·exact .inl l
  ·exact .inr ⟨k,c,e,cellK x c e _ z⟩
 ·obtain⟨v,z⟩:=I.cell x c e;exact⟨v,cellK x c e v z⟩
 ·obtain⟨m,⟨o,_,_,ho,_⟩,_⟩:=I.loc;exact free _ o (fun z=>(hch _ z).2.1 rfl) ho I.free
 ·obtain⟨v,o,ho,hd⟩:=I.cell x c e;exact free c o (fun z=>(hch c z).2.2.1 x c e rfl) ho (I.freeC x c e)
 ·obtain⟨e,n,ne,nf,d⟩:=I.pin p hp;have nch:p.1∉ch:=fun z=>(hch p.1 z).2.2.2 p hp rfl
  exact⟨keep p.1 p.2 ne nf nch e n,free p.1 p.2 nch e n,ne,nf,d⟩
theorem Inv.un {t':Nat}(I:Inv X aU σ H s)(u:Un X.fs [] H H' s.heap h')(hok:HOk X.prog X.w H' h'):Inv X aU σ H' {s with heap:=h',toks:=t'}:=by
 obtain⟨m,⟨o,es,ep,ho,r⟩,_⟩:=id I.loc;obtain⟨sl,hL⟩:=u.any ho I.free (by simp)
 exact I.step (g':=s.gens) (d':=s.drawn) (ch:=[]) (fun _ z=>nomatch z) (fun b o _ hb _ e n=>u.keep b o e n hb (by simp)) (fun b o _ hb _ e n=>u.slot b o e n hb (by simp)) (fun b o _ e n=>u.free b o e n (by simp)) (fun b o _ e=>u.there b o e (by simp)) u.tups u.frzs u.tbls (fun m' hm=>by
  obtain⟨o',es',ep',ho',r'⟩:=hm;rw[ho] at ho';cases ho'
  exact⟨_,es',ep',hL,r'⟩) hok I.bare
theorem Inv.call {g':Array GenState}{t':Nat}{d':Drawn}{ch:List Addr}(I:Inv X aU σ H s)(u:Un (frs X.stack) ch H H' s.heap h')(hok:HOk X.prog X.w H' h')(hg:AllBare g')
  (hch:∀b∈ch,(b∈X.ex\/X.s₀.heap.objs.size<=b)/\b≠X.env.locals/\(∀x c,X.env.cells.lookup x=some c->c≠b)/\∀p∈X.pn++aU,p.1≠b) :
  Inv X aU σ H' {s with heap:=h',gens:=g',drawn:=d',toks:=t'}:=by
 obtain⟨m,⟨o,es,ep,ho,r⟩,_⟩:=id I.loc;obtain⟨sl,hL⟩:=u.any ho I.free fun z=>(hch _ z).2.1 rfl
 exact I.step (ch:=ch) hch (fun b o hL hb hc e n=>u.keep b o e n (fun z=>(xbn.mp (I.stkSub b z)).elim hL hb) hc) (fun b o _ _ hc e n=>u.any e n hc) (fun b o hc e n=>u.free b o e n hc) (fun b o hc e=>u.there b o e hc) u.tups u.frzs u.tbls (fun m' hm=>by
  obtain⟨o',es',ep',ho',r'⟩:=hm;rw[ho] at ho';cases ho'
  exact⟨_,es',ep',hL,r'⟩) hok hg
theorem Inv.turned {t':Nat}{it:Addr}(I:Inv X aU σ H s)(k:∀b o,b≠it->s.heap.get? b=some o->h'.get? b=some o)(hn:H it=none)(hL:it≠X.env.locals)
  (h1:it∈X.ex\/X.s₀.heap.objs.size<=it)(h2:∀x c,X.env.cells.lookup x=some c->c≠it)(h3:∀p∈X.pn++aU,p.1≠it):Inv X aU σ H {s with heap:=h',toks:=t'}:=by
 have nit:∀b u,H b=some u->b≠it:=fun b u e z=>by rw[z,hn] at e;cases e
 refine I.step (g':=s.gens) (d':=s.drawn) (ch:=[it]) (fun b hb=>?_) (fun b o _ _ hc e _=>k b o (fun z=>hc (by simp[z])) e) (fun b o _ _ hc e _=>⟨o.slots,k b o (fun z=>hc (by simp[z])) e⟩) (fun _ _ _ _ n=>n)
  (fun b o hc e=>⟨o,k b o (fun z=>hc (by simp[z])) e⟩) (fun _ _ e=>e) (fun _ _ _ e=>e) (fun b ps e=>⟨#[],by rw[e];simp⟩) (fun m hm=>?_) (fun b u e=>?_) I.bare
 ·have e:b=it:=by simpa using hb
  subst e;exact⟨h1,hL,h2,h3⟩
 ·obtain⟨o,es,ep,ho,r⟩:=hm;exact⟨o,es,ep,k _ o (xci hL) ho,r⟩
 ·refine(I.hok b u e).stay (fun c v hc q=>k c v ?_ q) (fun _ q=>q) fun _ _ q=>q
  rcases hc with z | z
  ·rw[z];exact nit b u e
  ·exact nit c _ z
theorem Inv.tok (I:Inv X aU σ H s)(t:Nat):Inv X aU σ H {s with toks:=t}:=I.un (h':=s.heap) (t':=t) Un.refl I.hok
theorem Inv.kept {t':Nat}(I:Inv X aU σ H s)(k:∀b u,s.heap.get? b=some u->h'.get? b=some u):Inv X aU σ H {s with heap:=h',toks:=t'}:=I.un (Un.kept k) (I.hok.kept k)
theorem Inv.laid {a:Addr}{o:HO}{t':Nat}(I:Inv X aU σ H s)(k:∀b u,s.heap.get? b=some u->h'.get? b=some u)(hp:s.heap.objs.size<=a)(new:ObjOk X.prog X.w (upd H a o) h' a o) :
 Inv X aU σ (upd H a o) {s with heap:=h',toks:=t'}:=I.un (Un.laid k hp (I.hok.fresh hp)) (I.hok.laid k hp new)
theorem Inv.write {x e:Addr}{o:HO}{t':Nat}(I:Inv X aU σ H s)(mu:Mut (H x))(he:e=x\/H e=some (.own x))(k:∀b u,b≠e->s.heap.get? b=some u->h'.get? b=some u)(heo:∃u,h'.get? e=some u)
 (new:ObjOk X.prog X.w (upd H x o) h' x o):Inv X aU σ (upd H x o) {s with heap:=h',toks:=t'}:=I.un (Un.write mu he k heo) (I.hok.write mu he k heo new)
theorem Inv.pins_of {pins':List (Addr×Obj)}(I:Inv X aU σ H s)(h:∀p∈pins',s.heap.get? p.1=some p.2/\H p.1=none/\p.1≠X.env.locals/\p.1∉X.fs/\∀v,p.2.data≠.cell v):Inv X pins' σ H s :=
 ⟨I.ok,I.os,I.bare,I.base,I.loc,I.cell,I.free,I.freeC,fun p hp=>(xbs.mp hp).elim (fun z=>I.pin p (xhn _ z)) (h p),I.hok,I.len,I.hnd⟩
theorem znz {N:List Str}(hN:N.Nodup){i j:Nat}{x:Str}(a:N[i]?=some x)(b:N[j]?=some x):i=j:=by
 obtain⟨h1,e1⟩:=xbk.mp a;obtain⟨h2,e2⟩:=xbk.mp b;exact(List.getElem_inj hN).mp (e1.trans e2.symm)
theorem zkl {M:Model}{A:Around}{E:Value->Shared->Prop}{i:Nat}{x:Str}{v:V}{u:Value}{Q:Unit->Shared->Prop}(I:Inv X aU σ H s)(hN:X.N.Nodup)(hi:X.N[i]?=some x)(hx:Loc X.env.scope x)(r:RelV v u)
  (h:∀s',Inv X aU (σ.set i (some v)) H s'->(∃a,Heap.SameBut a s.heap s'.heap/\(a=X.env.locals\/X.env.cells.lookup x=some a))->Q () s')(hf:X.fn x=true\/X.env.scope.names.lookup x=some .local:=by first | exact .inl rfl | exact .inr rfl | assumption):wpAny M A (storeName X.env x u) Q E s:=by
 obtain⟨m,hn,hl⟩:=id I.loc;have hcls:(X.env.scope.kind==.class||(X.env.scope.kind==.module&&X.env.locals != X.env.globals))=false:=by rw[I.ok.kind];rfl
 have hiσ:i < σ.length:=by rw[I.len];exact(xbk.mp hi).1
 have cne:=I.cne;have tracked:∀{a:Addr} {h':Heap},(∃o,s.heap.get? a=some o/\H a=none)->Heap.SameBut a s.heap h'->HOk X.prog X.w H h':=fun {a h'} ha hs b ob e=>by
  obtain⟨_,_,hfree⟩:=ha;refine(I.hok b ob e).stay (fun c w' hc q=>(hs.2 c ?_).trans q) (fun _ q=>q) fun _ _ q=>q
  rintro rfl;rcases hc with rfl | hc
  ·rw[hfree] at e;cases e
  ·rw[hfree] at hc;cases hc
 rcases hx with hk | hk
 ·refine wpAny_storeName_local hk hn (fun h' hn' hs=>?_) hcls;obtain⟨oL,_,_,hoL,_⟩:=id hn;refine h _ ⟨I.ok,I.os,I.bare,⟨fun b o e n hb hx=>?_,fun b o e n hb hx=>?_,I.base.free,fun b o e hx=>?_,I.base.tups,I.base.frzs,I.base.tbls⟩,⟨_,hn',fun j y v' e1 e2 e3=>?_⟩,fun y c e=>?_,I.free,I.freeC,fun p hp=>?_,tracked ⟨oL,hoL,I.free⟩ hs,by simpa using I.len,I.hnd⟩ ⟨_,hs,.inl rfl⟩
  ·exact(hs.2 b (xcj (xbg (xbl e) I.ok.above))).trans (I.base.keep b o e n hb hx)
  ·obtain⟨sl,e1⟩:=I.base.slot b o e n hb hx;exact⟨sl,(hs.2 b (xcj (xbg (xbl e) I.ok.above))).trans e1⟩
  ·obtain⟨o',e1⟩:=I.base.there b o e hx;exact⟨o',(hs.2 b (xcj (xbg (xbl e) I.ok.above))).trans e1⟩
  ·by_cases hj:j=i
   ·subst hj;rw[hi] at e1;cases e1
    rw[xdv hiσ] at e2;cases e2;exact⟨u,r,.inl ⟨hk,by simp⟩⟩
   ·rw[xcr (xci hj)] at e2;obtain⟨u',r',q⟩:=hl j y v' e1 e2 e3;refine⟨u',r',?_⟩;rcases q with⟨k,e⟩ | ⟨k,c,e,z⟩
    ·refine .inl ⟨k,?_⟩;have:y≠x:=fun e=>hj (znz hN e1 (e ▸ hi))
     simp[this,e]
    ·exact .inr ⟨k,c,e,z.sameBut hs (cne y c e)⟩
  ·obtain⟨w',z⟩:=I.cell y c e;exact⟨w',z.sameBut hs (cne y c e)⟩
  ·obtain⟨e,n,ne,nf,d⟩:=I.pin p hp;exact⟨(hs.2 p.1 ne).trans e,n,ne,nf,d⟩
 ·have hfn:X.fn x=true:=by
   rcases hf with z | z
   ·exact z
   ·rw[z] at hk;cases hk
  obtain⟨c,hc⟩:=I.ok.has x (.inl hk);obtain⟨w',z⟩:=I.cell x c hc;refine wpAny_storeName_cell I.ok.kind hk hc z (fun h' hc' hs=>?_);obtain⟨oc,hoc,hocd⟩:=id z;refine h {s with heap:=h'} ⟨I.ok,I.os,I.bare,⟨fun b o e n hb hx=>?_,fun b o e n hb hx=>?_,I.base.free,fun b o e hx=>?_,I.base.tups,I.base.frzs,I.base.tbls⟩,⟨m,hn.sameBut hs (xci (cne x c hc)),fun j y v' e1 e2 e3=>?_⟩,fun y c' e=>?_,I.free,I.freeC,fun p hp=>?_,tracked ⟨oc,hoc,I.freeC x c hc⟩ hs,by simpa using I.len,I.hnd⟩ ⟨c,hs,.inr hc⟩
  ·exact(hs.2 b (xcj (xbg (xbl e) (I.ok.cab x c hfn hc)))).trans (I.base.keep b o e n hb hx)
  ·obtain⟨sl,e1⟩:=I.base.slot b o e n hb hx;exact⟨sl,(hs.2 b (xcj (xbg (xbl e) (I.ok.cab x c hfn hc)))).trans e1⟩
  ·obtain⟨o',e1⟩:=I.base.there b o e hx;exact⟨o',(hs.2 b (xcj (xbg (xbl e) (I.ok.cab x c hfn hc)))).trans e1⟩
  ·by_cases hj:j=i
   ·subst hj;rw[hi] at e1;cases e1
    rw[xdv hiσ] at e2;cases e2;exact⟨u,r,.inr ⟨.inl hk,c,hc,hc'⟩⟩
   ·rw[xcr (xci hj)] at e2;obtain⟨u',r',q⟩:=hl j y v' e1 e2 e3;refine⟨u',r',?_⟩;rcases q with q | ⟨k,c',e,z'⟩
    ·exact .inl q
    ·refine .inr ⟨k,c',e,z'.sameBut hs ?_⟩;rintro rfl;exact hj (znz hN e1 (I.ok.inj _ _ _ e hc ▸ hi))
  ·by_cases hcc:c'=c
   ·subst hcc;exact⟨_,hc'⟩
   ·obtain⟨w2,z2⟩:=I.cell y c' e;exact⟨w2,z2.sameBut hs hcc⟩
  ·obtain⟨e,n,ne,nf,d⟩:=I.pin p hp;refine⟨(hs.2 p.1 ?_).trans e,n,ne,nf,d⟩;intro q;rw[q,hoc] at e;have q':oc=p.2:=xck e;exact d w' (by rw[← q'];exact hocd)
theorem zjg {M:Model}{A:Around}{E:Value->Shared->Prop}{i:Nat}{x:Str}{v:V}{u:Value}{Q:Unit->Shared->Prop}(I:Inv X aU σ H s)(hN:X.N.Nodup)(hi:X.N[i]?=some x)(hx:Loc X.env.scope x)(r:RelV v u)
  (h:∀s',Inv X aU (σ.set i (some v)) H s'->Q () s')(hf:X.fn x=true\/X.env.scope.names.lookup x=some .local:=by first | exact .inl rfl | exact .inr rfl | assumption):wpAny M A (storeName X.env x u) Q E s :=
 zkl I hN hi hx r (fun s' I' _=>h s' I') hf
theorem Inv.call' {s':Shared}{ch:List Addr}(I:Inv X aU σ H s)(ho:s'.os=s.os)(u:Un (frs X.stack) ch H H' s.heap s'.heap)(hok:HOk X.prog X.w H' s'.heap)(hg:AllBare s'.gens)
  (hch:∀b∈ch,(b∈X.ex\/X.s₀.heap.objs.size<=b)/\b≠X.env.locals/\(∀x c,X.env.cells.lookup x=some c->c≠b)/\∀p∈X.pn++aU,p.1≠b):Inv X aU σ H' s':=by
 obtain⟨h',g',d',t',o'⟩:=s';have e:o'=s.os:=ho;subst e;exact I.call (g':=g') (t':=t') (d':=d') u hok hg hch
end
noncomputable abbrev XK:=Value->Option Addr->Hp->Prop
noncomputable abbrev St:=List (Option V)
noncomputable abbrev VK:=V->Hp->Prop
noncomputable abbrev TE:=St->Hp->VK->Prop
noncomputable abbrev TT:=St->Hp->(Bool->Hp->Prop)->Prop
noncomputable abbrev TA:=St->Hp->(List V->Hp->Prop)->Prop
structure Ends where
 nx:St->Hp->Prop
 rt:VK
 bk:St->Hp->Prop:=fun _ _=>False
 ct:St->Hp->Prop:=fun _ _=>False
noncomputable abbrev TS:=Ends->St->Hp->Prop
noncomputable def EP (X:Cx) (aU:List (Addr×Obj)) (σ:St) (Q:VK) (u:Value) (s':Shared):Prop:=∃v H',Inv X aU σ H' s'/\RelV v u/\Q v H'
noncomputable def TP (X:Cx) (aU:List (Addr×Obj)) (σ:St) (Q:Bool->Hp->Prop) (b:Bool) (s':Shared):Prop:=∃H',Inv X aU σ H' s'/\Q b H'
noncomputable def AP (X:Cx) (aU:List (Addr×Obj)) (σ:St) (Q:List V->Hp->Prop) (us:List Value) (s':Shared):Prop:=∃vs H',Inv X aU σ H' s'/\Vals vs us/\Q vs H'
noncomputable def SP (X:Cx) (aU:List (Addr×Obj)) (D:Ends) (f:Flow) (s':Shared):Prop :=
 match f with
 | .next=>∃σ' H',Inv X aU σ' H' s'/\D.nx σ' H'
 | .brk=>∃σ' H',Inv X aU σ' H' s'/\D.bk σ' H'
 | .cont=>∃σ' H',Inv X aU σ' H' s'/\D.ct σ' H'
 | .ret u=>∃v σ' H',Inv X aU σ' H' s'/\RelV v u/\D.rt v H'
noncomputable def PE (X:Cx) (e:Expr) (t:TE):Prop :=
 ∀(aU:List (Addr×Obj)) (s:Shared) (σ:St) (H:Hp) (Q:VK),Inv X aU σ H s->t σ H Q->wpAny (model X.prog X.w) X.A (eval e X.env) (EP X aU σ Q) X.xe s
noncomputable def PT (X:Cx) (e:Expr) (t:TT):Prop :=
 ∀(aU:List (Addr×Obj)) (s:Shared) (σ:St) (H:Hp) (Q:Bool->Hp->Prop),Inv X aU σ H s->t σ H Q->wpAny (model X.prog X.w) X.A (isTrue e X.env (eval e X.env)) (TP X aU σ Q) X.xe s
noncomputable def PW (X:Cx) (e:Expr) (t:TT):Prop :=
 ∀(whole:Sem Value) (aU:List (Addr×Obj)) (s:Shared) (σ:St) (H:Hp) (Q:Bool->Hp->Prop),Inv X aU σ H s->t σ H Q->wpAny (model X.prog X.w) X.A (isTrue e X.env whole) (TP X aU σ Q) X.xe s
theorem PW.pt {X:Cx}{e:Expr}{t:TT}(h:PW X e t):PT X e t:=h _
noncomputable def PA (X:Cx) (es:List Expr) (t:TA):Prop :=
 ∀(pos:Pos) (aU:List (Addr×Obj)) (s:Shared) (σ:St) (H:Hp) (Q:List V->Hp->Prop),Inv X aU σ H s->t σ H Q->wpAny (model X.prog X.w) X.A (spliced (backTo pos (starEach es X.env))) (AP X aU σ Q) X.xe s
noncomputable def PS (X:Cx) (st:Stmt) (t:TS):Prop :=
 ∀(aU:List (Addr×Obj)) (s:Shared) (σ:St) (H:Hp) (D:Ends),Inv X aU σ H s->t D σ H->wpAny (model X.prog X.w) X.A (exec st X.env) (SP X aU D) X.xe s
noncomputable def PSs (X:Cx) (st:List Stmt) (t:TS):Prop :=
 ∀(aU:List (Addr×Obj)) (s:Shared) (σ:St) (H:Hp) (D:Ends),Inv X aU σ H s->t D σ H->wpAny (model X.prog X.w) X.A (execs st X.env) (SP X aU D) X.xe s
theorem thn {α:Type}{t:Sem α}{Q Q':α->Shared->Prop}{M:Model}{A:Around}{E:Value->Shared->Prop}{s:Shared}(h:wpAny M A t Q E s)(hQ:∀a s,Q a s->Q' a s):wpAny M A t Q' E s:=xea h hQ fun _ _ x=>x
section
variable {X:Cx}
noncomputable def tVar (i:Nat):TE:=fun σ H Q=>∃v,σ[i]?=some (some v)/\Q v H
noncomputable def tC (v:V):TE:=fun _ H Q=>Q v H
theorem zbdh {i:Nat}{x:Str}{pos:Pos}(hN:X.N[i]?=some x)(hv:Vis X.env.scope x)(hd:(x==("__debug__" : Str))=false:=by decide)(hcd:(x==("__classdict__" : Str))=false:=by decide):PE X (.Name x pos) (tVar i):=by
 intro aU s σ H Q I h;obtain⟨v,e,h⟩:=h;obtain⟨m,hn,hl⟩:=I.loc;obtain⟨u,r,l⟩:=hl i x v hN e hv;have fin:EP X aU σ Q u s:=⟨v,H,I,r,h⟩
 rcases l with⟨hk,hm⟩ | ⟨hk,c,hc,hcell⟩
 ·exact wpAny_Name (wpAny_loadName_local I.ok.kind hk hn hm fin) hd
 ·rcases hk with hk | hk
  ·exact wpAny_Name (wpAny_loadName_cell I.ok.kind hk hc hcell fin) hd
  ·exact wpAny_Name (wpAny_loadName_free I.ok.kind hk hc hcell fin hcd) hd
theorem zbdn {i j pos}:PE X (.Constant (.int i) j pos) (tC (.int i)):=fun _ _ _ H _ I h=>wpAny_Constant_int ⟨.int i,H,I.tok _,⟨_,rfl⟩,h⟩
theorem zbhz {b j pos}:PE X (.Constant (.bool b) j pos) (tC (.bl b)):=fun _ _ _ H _ I h=>Constant_bool ⟨.bl b,H,I,rfl,h⟩
theorem zbdm {j pos}:PE X (.Constant .none j pos) (tC .non):=fun _ _ _ H _ I h=>Constant_none ⟨.non,H,I,rfl,h⟩
theorem zbdj {x j pos}:PE X (.Constant (.str x) j pos) (tC (.str x)):=fun _ _ _ H _ I h=>Calls.Constant_str ⟨.str x,H,I.tok _,⟨_,rfl⟩,h⟩
noncomputable def Gl (X:Cx) (x:Str):Prop:=X.env.kindOf x=some .globalImplicit
theorem zsp {E:Value->Shared->Prop}{aU:List (Addr×Obj)}{s:Shared}{σ:St}{H:Hp}{x:Str}{u:Value}{pos:Pos}{Q:Value->Shared->Prop}(I:Inv X aU σ H s)(hg:Gl X x)(hm:X.mg x=some u)(h:Q u s)
  (hd:(x==("__debug__" : Str))=false:=by decide):wpAny (model X.prog X.w) X.A (eval (.Name x pos) X.env) Q E s :=
 Calls.Name_function_global I.ok.kind hg (Calls.loadGlobal_global (by rw[I.ok.glob];exact I.mod.glob.keeps I.bk) hm h) hd
theorem zmm {E:Value->Shared->Prop}{aU:List (Addr×Obj)}{s:Shared}{σ:St}{H:Hp}{x:Str}{u:Value}{pos:Pos}{Q:Value->Shared->Prop}(I:Inv X aU σ H s)(hg:Gl X x)(hm:X.mg x=none)(hv:bootBuiltins x=some u)(h:Q u s)
  (hn:x≠"__name__":=by decide)(hd:(x==("__debug__" : Str))=false:=by decide):wpAny (model X.prog X.w) X.A (eval (.Name x pos) X.env) Q E s:=by
 obtain⟨mb,h1,h2⟩:=I.mod.blt;exact Calls.Name_function_global I.ok.kind hg (Calls.loadGlobal_builtin (by rw[I.ok.glob];exact I.mod.glob.keeps I.bk) hm (by rw[I.ok.blt];exact h1.keeps I.bk) ((h2 x hn).trans hv) h) hd
theorem zer {x:Str}{v:V}{u:Value}{pos:Pos}(hg:Gl X x)(hm:X.mg x=some u)(r:RelV v u)(hd:(x==("__debug__" : Str))=false:=by decide):PE X (.Name x pos) (tC v) :=
 fun _ _ _ H _ I h=>zsp I hg hm ⟨v,H,I,r,h⟩ hd
theorem zdr {x:Str}{v:V}{u:Value}{pos:Pos}(hg:Gl X x)(hm:X.mg x=none)(hv:bootBuiltins x=some u)(r:RelV v u)(hn:x≠"__name__":=by decide)(hd:(x==("__debug__" : Str))=false:=by decide):PE X (.Name x pos) (tC v) :=
 fun _ _ _ H _ I h=>zmm I hg hm hv ⟨v,H,I,r,h⟩ hn hd
variable {a b:Expr}{ta tb:TE}{pos:Pos}
variable {tA tB':TT}{rest:List Expr}
noncomputable def tAnd (t u:TT):TT:=fun σ H Q=>t σ H fun c H1=>if c=true then u σ H1 Q else Q false H1
noncomputable def tOr (t u:TT):TT:=fun σ H Q=>t σ H fun c H1=>if c=true then Q true H1 else u σ H1 Q
noncomputable def tNot (t:TT):TT:=fun σ H Q=>t σ H fun c H1=>Q (!c) H1
theorem pw_and1 (ha:PT X a tA):PW X (.BoolOp .And [a] pos) tA:=by
 intro wh aU s σ H Q I h;refine isTrue_and (thn (ha aU s σ H Q I h) fun c s1 e=>?_);cases c with
 | true=>exact isTrue_and_nil e
 | false=>exact e
theorem pw_or1 (ha:PT X a tA):PW X (.BoolOp .Or [a] pos) tA:=by
 intro wh aU s σ H Q I h;refine isTrue_or (thn (ha aU s σ H Q I h) fun c s1 e=>?_);cases c with
 | false=>exact isTrue_or_nil e
 | true=>exact e
theorem pw_and (ha:PT X a tA)(hb:PW X (.BoolOp .And (b::rest) pos) tB'):PW X (.BoolOp .And (a::b::rest) pos) (tAnd tA tB'):=by
 intro wh aU s σ H Q I h;refine isTrue_and (thn (ha aU s σ H _ I h) fun c s1 hq0=>?_);obtain⟨H1,I1,q1⟩:=hq0;cases c with
 | true=>exact hb wh aU s1 σ H1 Q I1 q1
 | false=>exact⟨H1,I1,q1⟩
theorem pw_or (ha:PT X a tA)(hb:PW X (.BoolOp .Or (b::rest) pos) tB'):PW X (.BoolOp .Or (a::b::rest) pos) (tOr tA tB'):=by
 intro wh aU s σ H Q I h;refine isTrue_or (thn (ha aU s σ H _ I h) fun c s1 hq0=>?_);obtain⟨H1,I1,q1⟩:=hq0;cases c with
 | true=>exact⟨H1,I1,q1⟩
 | false=>exact hb wh aU s1 σ H1 Q I1 q1
theorem zbcw (ha:PT X a tA):PT X (.UnaryOp .Not a pos) (tNot tA):=by
 intro aU s σ H Q I h;exact isTrue_not (ha aU s σ H (fun c H1=>Q (!c) H1) I h)
noncomputable def tAndV (ta tb:TE):TE:=fun σ H Q=>ta σ H fun x H1=>∃c,x=.bl c/\if c=true then tb σ H1 Q else Q (.bl false) H1
noncomputable def tNotV (ta:TE):TE:=fun σ H Q=>ta σ H fun x H1=>∃c,x=.bl c/\Q (.bl (!c)) H1
theorem zbdk {op}{t:TE}(h:PE X a t):PE X (.BoolOp op [a] pos) t:=fun aU s σ H Q I hw=>BoolOp_one (h aU s σ H Q I hw)
theorem zbdo (ha:PE X a ta)(hb:PE X (.BoolOp .And (b::rest) pos) tb):PE X (.BoolOp .And (a::b::rest) pos) (tAndV ta tb):=by
 intro aU s σ H Q I h;refine BoolOp_and (thn (ha aU s σ H _ I h) fun v s1 hq0=>?_);obtain⟨x,H1,I1,r1,q1⟩:=hq0;obtain⟨c,rfl,q1⟩:=q1;cases r1;refine xez ?_;cases c with
 | true=>exact hb aU s1 σ H1 Q I1 q1
 | false=>exact⟨.bl false,H1,I1,rfl,q1⟩
theorem zbdl (ha:PE X a ta):PE X (.UnaryOp .Not a pos) (tNotV ta):=by
 intro aU s σ H Q I h;refine UnaryOp_ (thn (ha aU s σ H _ I h) fun v s1 hq0=>?_);obtain⟨x,H1,I1,r1,q1⟩:=hq0;obtain⟨c,rfl,q1⟩:=q1;cases r1;exact not_of (xez ⟨.bl (!c),H1,I1,rfl,q1⟩)
noncomputable def tIf (t:TT) (ta tb:TE):TE:=fun σ H Q=>t σ H fun c H1=>if c=true then ta σ H1 Q else tb σ H1 Q
theorem zun {c:Expr}(hc:PT X c tA)(ha:PE X a ta)(hb:PE X b tb):PE X (.IfExp c a b pos) (tIf tA ta tb):=by
 intro aU s σ H Q I h;refine wpAny_IfExp (thn (hc aU s σ H _ I h) fun d s1 hq0=>?_);obtain⟨H1,I1,q1⟩:=hq0;cases d with
 | true=>exact ha aU s1 σ H1 Q I1 q1
 | false=>exact hb aU s1 σ H1 Q I1 q1
end
noncomputable def SqL (K:Fg) (H:Hp) (a:Addr) (xs:List V):Prop :=
 Rd H a (.lst xs) \/
  ∃(o:Obj) (its:Array Value) (n:Nat), K.lookup a=some o/\o.cls=.type "list"/\o.dict=none/\o.data=.seq its n/\its.size<=sizeLine/\Vals xs its.toList
noncomputable def SqT (K:Fg) (H:Hp) (a:Addr) (xs:List V):Prop :=
 Rd H a (.tup xs) \/
  ∃(o:Obj) (its:Array Value) (n:Nat), K.lookup a=some o/\o.cls=.type "tuple"/\o.data=.seq its n/\its.size<=sizeLine/\Vals xs its.toList
noncomputable def absV:Value->Option V
 | .none=>some .non
 | .bool b=>some (.bl b)
 | .int i _=>some (.int i)
 | .str x _=>some (.str x)
 | .bytes b _=>some (.byt b)
 | .float b _=>some (.flt b)
 | .ref a=>some (.ref a)
 | .type n=>some (.ty n)
 | _=>none
theorem RelV.abs {x:V}{u:Value}(r:RelV x u):absV u=some x:=by
 cases x with
 | non=>cases r;rfl
 | bl _=>cases r;rfl
 | int _=>obtain⟨t,rfl⟩:=r;rfl
 | str _=>obtain⟨t,rfl⟩:=r;rfl
 | byt _=>obtain⟨t,rfl⟩:=r;rfl
 | flt _=>obtain⟨t,rfl⟩:=r;rfl
 | ref _=>cases r;rfl
 | ty _=>cases r;rfl
theorem RelV.inj {x y:V}{u:Value}(r:RelV x u)(q:RelV y u):x=y:=xck (r.abs.symm.trans q.abs)
theorem Vals.inj:∀{xs ys:List V} {us:List Value},Vals xs us->Vals ys us->xs=ys
 | _,_,_,.nil,.nil=>rfl
 | _,_,_,.cons r t,.cons r' t'=>by rw[r.inj r',Vals.inj t t']
section
variable {X:Cx}{aU:List (Addr×Obj)}{σ:St}{H:Hp}{s:Shared}{a:Addr}{xs ys:List V}
theorem SqL.of {K:Fg}(h:H a=some (.lst xs)):SqL K H a xs:=.inl (.inl h)
theorem SqT.of {K:Fg}(h:H a=some (.tup xs)):SqT K H a xs:=.inl (.inl h)
theorem Inv.list (I:Inv X aU σ H s)(h:SqL X.K H a xs):∃its:List Value,Vals xs its/\PlainL s.heap a its.toArray/\xs.length<=sizeLine:=by
 rcases h with h | ⟨o,its,n,hk,hc,hd,hs,hz,r⟩
 ·obtain⟨z,its,n,r,e⟩:=h.ok I.hok;exact⟨its,r,⟨_,n,e,rfl,rfl,rfl⟩,z⟩
 ·refine⟨its.toList,r,⟨o,n,I.kIn a o hk,hc,hd,by simpa using hs⟩,?_⟩;have e:=r.length;simp only[xcb] at e;lia
theorem Inv.tuple (I:Inv X aU σ H s)(h:SqT X.K H a xs):∃its:List Value,Vals xs its/\IsTup s.heap a its.toArray/\xs.length<=sizeLine:=by
 rcases h with h | ⟨o,its,n,hk,hc,hs,hz,r⟩
 ·obtain⟨z,its,r,p⟩:=h.ok I.hok;exact⟨its,r,p,z⟩
 ·refine⟨its.toList,r,⟨o,I.kIn a o hk,hc,n,by simpa using hs⟩,?_⟩;have e:=r.length;simp only[xcb] at e;lia
theorem Inv.list_inj (I:Inv X aU σ H s)(h:SqL X.K H a xs)(h':SqL X.K H a ys):xs=ys:=by
 obtain⟨its,r,⟨o,n,e,_,_,d⟩,_⟩:=I.list h;obtain⟨its',r',⟨o',n',e',_,_,d'⟩,_⟩:=I.list h';rw[e] at e';cases e'
 rw[d] at d';injection d' with d1 _
 have:its=its':=by simpa using congrArg Array.toList d1
 subst this;exact r.inj r'
theorem Inv.tuple_inj (I:Inv X aU σ H s)(h:SqT X.K H a xs)(h':SqT X.K H a ys):xs=ys:=by
 obtain⟨its,r,⟨o,e,_,n,d⟩,_⟩:=I.tuple h;obtain⟨its',r',⟨o',e',_,n',d'⟩,_⟩:=I.tuple h';rw[e] at e';cases e'
 rw[d] at d';injection d' with d1 _
 have:its=its':=by simpa using congrArg Array.toList d1
 subst this;exact r.inj r'
end
noncomputable abbrev Cx.wish (X:Cx) (E:Value->Shared->Prop):Cx:={X with xe:=E}
noncomputable abbrev Cx.nox (X:Cx):Cx:=X.wish fun _ _=>False
theorem Cx.Ok.wish {X:Cx}(ok:X.Ok)(E:Value->Shared->Prop):(X.wish E).Ok :=
 ⟨ok.mod,ok.kind,ok.glob,ok.blt,ok.above,ok.inj,ok.has,ok.cab,ok.hd,ok.frames,ok.stk,ok.exf,ok.bs,ok.bsz,ok.noex,ok.exfs,ok.funs,ok.frf⟩
theorem Cx.Ok.unwish {X:Cx}{E:Value->Shared->Prop}(ok:(X.wish E).Ok):X.Ok :=
 ⟨ok.mod,ok.kind,ok.glob,ok.blt,ok.above,ok.inj,ok.has,ok.cab,ok.hd,ok.frames,ok.stk,ok.exf,ok.bs,ok.bsz,ok.noex,ok.exfs,ok.funs,ok.frf⟩
section
variable {X:Cx}{aU:List (Addr×Obj)}{σ:St}{H:Hp}{s:Shared}{E:Value->Shared->Prop}
theorem Inv.wish (I:Inv X aU σ H s)(E:Value->Shared->Prop):Inv (X.wish E) aU σ H s:=⟨I.ok.wish E,I.os,I.bare,I.base,I.loc,I.cell,I.free,I.freeC,I.pin,I.hok,I.len,I.hnd⟩
theorem Inv.unwish (I:Inv (X.wish E) aU σ H s):Inv X aU σ H s:=⟨I.ok.unwish,I.os,I.bare,I.base,I.loc,I.cell,I.free,I.freeC,I.pin,I.hok,I.len,I.hnd⟩
theorem SP.unwish {D:Ends}{f:Flow}{s':Shared}(h:SP (X.wish E) aU D f s'):SP X aU D f s':=by
 cases f with
 | next=>obtain⟨σ',H',I,q⟩:=h;exact⟨σ',H',I.unwish,q⟩
 | brk=>obtain⟨σ',H',I,q⟩:=h;exact⟨σ',H',I.unwish,q⟩
 | cont=>obtain⟨σ',H',I,q⟩:=h;exact⟨σ',H',I.unwish,q⟩
 | ret u=>obtain⟨v,σ',H',I,r,q⟩:=h;exact⟨v,σ',H',I.unwish,r,q⟩
theorem PSs.nox {st:List Stmt}{t:TS}(h:PSs X.nox st t):PSs X st t:=fun aU s σ H D I hw =>
 xea (h aU s σ H D (I.wish _) hw) (fun _ _ q=>q.unwish) fun _ _ z=>False.elim z
end
section
variable {X:Cx}{st:Stmt}{rest:List Stmt}{t u:TS}{e:Expr}{te:TE}{pos:Pos}
noncomputable def tNext:TS:=fun D σ H=>D.nx σ H
noncomputable def tSeq (t u:TS):TS:=fun D σ H=>t {D with nx:=u D} σ H
theorem zxs:PSs X [] tNext:=fun _ _ σ H _ I h=>xjm ⟨σ,H,I,h⟩
theorem zuh (h1:PS X st t)(h2:PSs X rest u):PSs X (st::rest) (tSeq t u):=by
 intro aU s σ H D I h;refine wpAny_execs_cons (thn (h1 aU s σ H {D with nx:=u D} I h) fun f s1 q=>?_);cases f with
 | next =>
  obtain⟨σ',H',I',q⟩:=q;exact h2 aU s1 σ' H' D I' q
 | ret v=>exact q
 | brk=>exact q
 | cont=>exact q
theorem zxr (h1:PS X st t):PSs X [st] t:=by
 intro aU s σ H D I h;refine wpAny_execs_cons (thn (h1 aU s σ H D I h) fun f s1 q=>?_);cases f with
 | next=>exact xjm q
 | ret v=>exact q
 | brk=>exact q
 | cont=>exact q
noncomputable def tBreak:TS:=fun D σ H=>D.bk σ H
theorem zuj:PS X (.Break pos) tBreak:=fun _ _ σ H _ I h=>wpAny_Break ⟨σ,H,I,h⟩
theorem Inv.quiet {aU:List (Addr×Obj)}{σ:St}{H:Hp}{s:Shared}(I:Inv X aU σ H s):interactive X.env=false:=by simp[interactive,I.ok.kind]
noncomputable def tDrop (te:TE):TS:=fun D σ H=>te σ H fun _ H1=>D.nx σ H1
theorem zxt (he:PE X e te)(hs:swapsWith e none pos.line X.env=pure false:=by rfl):PS X (.Expr e pos) (tDrop te):=by
 intro aU s σ H D I h;exact wpAny_Expr_any (thn (he aU s σ H _ I h) fun v s1 ⟨x,H1,I1,r1,q1⟩=>⟨σ,H1,I1,q1⟩) I.quiet hs
noncomputable def tRet (te:TE):TS:=fun D σ H=>te σ H D.rt
theorem zbcy (he:PE X e te):PS X (.Return (some e) pos) (tRet te):=by
 intro aU s σ H D I h;exact wpAny_Return_some (thn (he aU s σ H _ I h) fun v s1 ⟨x,H1,I1,r1,q1⟩=>⟨x,σ,H1,I1,r1,q1⟩)
noncomputable def tIfS (c:TT) (t u:TS):TS:=fun D σ H=>c σ H fun b H1=>if b=true then t D σ H1 else u D σ H1
theorem zbhu {c:Expr}{a b:List Stmt}{tc:TT}(hc:PT X c tc)(ha:PSs X a t)(hb:PSs X b u):PS X (.If c a b pos) (tIfS tc t u):=by
 intro aU s σ H D I h;refine wpAny_If (thn (hc aU s σ H _ I h) fun d s1 hq0=>?_);obtain⟨H1,I1,q1⟩:=hq0;cases d with
 | true=>exact ha aU s1 σ H1 D I1 q1
 | false=>exact hb aU s1 σ H1 D I1 q1
end
noncomputable abbrev TG:=V->St->Hp->(St->Hp->Prop)->Prop
noncomputable abbrev TGs:=List V->St->Hp->(St->Hp->Prop)->Prop
noncomputable def PG (X:Cx) (target:Expr) (t:TG):Prop :=
 ∀(aU:List (Addr×Obj)) (s:Shared) (σ:St) (H:Hp) (v:V) (u:Value) (Q:St->Hp->Prop),Inv X aU σ H s->RelV v u->t v σ H Q ->
  wpAny (model X.prog X.w) X.A (assign target X.env u) (fun _ s'=>∃σ' H',Inv X aU σ' H' s'/\Q σ' H') X.xe s
noncomputable def PGs (X:Cx) (ts:List Expr) (t:TGs):Prop :=
 ∀(aU:List (Addr×Obj)) (s:Shared) (σ:St) (H:Hp) (vs:List V) (us:List Value) (Q:St->Hp->Prop),Inv X aU σ H s->Vals vs us->t vs σ H Q ->
  wpAny (model X.prog X.w) X.A (assignInOrder ((assignEach ts X.env).map (·.2)) us) (fun _ s'=>∃σ' H',Inv X aU σ' H' s'/\Q σ' H') X.xe s
noncomputable abbrev TSet:=V->V->V->Hp->(Hp->Prop)->Prop
noncomputable def PSet (X:Cx) (t:TSet):Prop :=
 ∀(aU:List (Addr×Obj)) (s:Shared) (σ:St) (H:Hp) (o i v:V) (ov iv u:Value) (Q:Hp->Prop),Inv X aU σ H s->RelV o ov->RelV i iv->RelV v u->t o i v H Q ->
  wpAny (model X.prog X.w) X.A (setItem ov iv u) (fun _ s'=>∃H',Inv X aU σ H' s'/\Q H') X.xe s
noncomputable abbrev TIp:=V->V->Hp->VK->Prop
noncomputable def PIp (X:Cx) (op:Operator) (t:TIp):Prop :=
 ∀(aU:List (Addr×Obj)) (s:Shared) (σ:St) (H:Hp) (x y:V) (v u:Value) (Q:VK),Inv X aU σ H s->RelV x v->RelV y u->t x y H Q ->
  wpAny (model X.prog X.w) X.A (inplaceOp op v u) (EP X aU σ Q) X.xe s
section
variable {X:Cx}{pos:Pos}
noncomputable def gName (i:Nat):TG:=fun v σ H Q=>Q (σ.set i (some v)) H
theorem zyf {i:Nat}{x:Str}(hN:X.N.Nodup)(hi:X.N[i]?=some x)(hx:Loc X.env.scope x)(hf:X.fn x=true\/X.env.scope.names.lookup x=some .local:=by first | exact .inl rfl | exact .inr rfl | assumption):PG X (.Name x pos) (gName i):=by
 intro aU s σ H v u Q I r h;exact wpAny_assign_Name (zjg I hN hi hx r (fun s' I'=>⟨_,H,I',h⟩) hf)
noncomputable def gNil:TGs:=fun vs σ H Q=>vs=[]/\Q σ H
noncomputable def gCons (t:TG) (u:TGs):TGs:=fun vs σ H Q=>∃v r,vs=v::r/\t v σ H fun σ' H'=>u r σ' H' Q
theorem zye:PGs X [] gNil:=by
 intro aU s σ H vs us Q I r h;obtain⟨e,h⟩:=h;subst e;cases r;exact assignInOrder_nil ⟨σ,H,I,h⟩
theorem zum {e:Expr}{es:List Expr}{t:TG}{u:TGs}(h1:PG X e t)(h2:PGs X es u)
  (hs:(assignEach (e::es) X.env).map (·.2)=assign e X.env::(assignEach es X.env).map (·.2):=by rfl):PGs X (e::es) (gCons t u):=by
 intro aU s σ H vs us Q I r h;obtain⟨v,vr,e1,h⟩:=h;subst e1;cases r with
 | cons r rr =>
  rw[hs];refine assignInOrder_cons (thn (h1 aU s σ H _ _ _ I r h) fun _ s1 hq0=>?_);obtain⟨σ1,H1,I1,q1⟩:=hq0;exact h2 aU s1 σ1 H1 _ _ Q I1 rr q1
noncomputable def gTup (K:Fg) (n:Nat) (t:TGs):TG:=fun v σ H Q=>∃a xs,v=.ref a/\SqT K H a xs/\xs.length=n/\t xs σ H Q
theorem zbdf {es:List Expr}{k:Nat}{t:TGs}{n:Nat}(hc:X.calm=true)(h:PGs X es t)
  (hn:(assignEach es X.env).length=n:=by rfl)(hst:(assignEach es X.env).findIdx? (·.1)=none:=by rfl):PG X (.Tuple es k pos) (gTup X.K n t):=by
 intro aU s σ H v u Q I r hw;obtain⟨a,xs,e1,hq,hl,hw⟩:=hw;subst e1;cases r;obtain⟨its,rv,ht,hz⟩:=I.tuple hq;refine assign_Tuple_tuple (I.ok.hd hc) ht (by simp[hn,← hl,rv.length]) hst fun h' hx=>?_
 have I1:Inv X aU σ H {s with heap:=h'}:=I.kept (t':=s.toks) fun b o e=>hx b o (xcj (xbl e)) e
 exact h aU _ σ H xs _ Q I1 (by simpa using rv) hw
noncomputable def gSub (to ti:TE) (t:TSet):TG:=fun v σ H Q=>to σ H fun o H1=>ti σ H1 fun i H2=>t o i v H2 fun H3=>Q σ H3
theorem zbdg {o i:Expr}{to ti:TE}{t:TSet}(ho:PE X o to)(hi:PE X i ti)(hs:PSet X t)
  (ha:∀v,assign (.Subscript o i pos) X.env v=(do
   let ov ← holding [v] (eval o X.env)
   let iv ← holding [v,ov] (eval i X.env)
   standAt pos
   holding [v,ov,iv] (setItem ov iv v)
   release [v,ov,iv] []):=by intro _;rfl):PG X (.Subscript o i pos) (gSub to ti t):=by
 intro aU s σ H v u Q I r h;rw[ha];refine xba (xft (thn (ho aU s σ H _ I h) fun ov s1 hq0=>?_));obtain⟨x,H1,I1,r1,q1⟩:=hq0;refine xba (xft (thn (hi aU s1 σ H1 _ I1 q1) fun iv s2 hq0=>?_));obtain⟨y,H2,I2,r2,q2⟩:=hq0;refine xba (wpAny_standAt (xba (xft (thn (hs aU s2 σ H2 x y v ov iv u _ I2 r1 r2 r q2) fun _ s3 hq0=>?_))));obtain⟨H3,I3,q3⟩:=hq0;exact wpAny_release ⟨σ,H3,I3,q3⟩
noncomputable def tAsg (te:TE) (g:TG):TS:=fun D σ H=>te σ H fun x H1=>g x σ H1 D.nx
theorem zbdb {tg e:Expr}{te:TE}{g:TG}(he:PE X e te)(hg:PG X tg g)(hs:swapsWithSole [tg] e pos.line X.env=pure false:=by rfl)(hw:swappedStores [tg] e X.env=pure none:=by rfl)
  (h1:(assignEach [tg] X.env).map (·.2)=[assign tg X.env]:=by rfl):PS X (.Assign [tg] e pos) (tAsg te g):=by
 intro aU s σ H D I h;refine wpAny_Assign_stores (thn (he aU s σ H _ I h) fun v s1 hq0=>?_) hs hw;obtain⟨x,H1,I1,r1,q1⟩:=hq0;rw[h1];exact thn (hg aU s1 σ H1 x v _ I1 r1 q1) fun _ s2 q=>q
theorem zbcx {i:Nat}{x:Str}{e:Expr}{te:TE}{pos':Pos}(hN:X.N.Nodup)(hi:X.N[i]?=some x)(hx:Loc X.env.scope x)(he:PE X e te)(hs:swapsWith e (some (.Name x pos')) pos.line X.env=pure false:=by rfl)(hf:X.fn x=true\/X.env.scope.names.lookup x=some .local:=by first | exact .inl rfl | exact .inr rfl | assumption) :
  PS X (.Assign [.Name x pos'] e pos) (tAsg te (gName i)):=by
 intro aU s σ H D I h;refine wpAny_Assign_Name (thn (he aU s σ H _ I h) fun v s1 hq0=>?_) hs;obtain⟨y,H1,I1,r1,q1⟩:=hq0;exact zjg I1 hN hi hx r1 (fun s2 I2=>⟨_,H1,I2,q1⟩) hf
noncomputable def tAug (i:Nat) (te:TE) (ti:TIp):TS:=fun D σ H=>∃x,σ[i]?=some (some x)/\te σ H fun y H1=>ti x y H1 fun z H2=>D.nx (σ.set i (some z)) H2
theorem zbda {i:Nat}{x:Str}{e:Expr}{te:TE}{op:Operator}{ti:TIp}{pos':Pos}(hN:X.N.Nodup)(hi:X.N[i]?=some x)(hx:Loc X.env.scope x)(he:PE X e te)(ho:PIp X op ti)(hf:X.fn x=true\/X.env.scope.names.lookup x=some .local:=by first | exact .inl rfl | exact .inr rfl | assumption) :
  PS X (.AugAssign (.Name x pos') op e pos) (tAug i te ti):=by
 intro aU s σ H D I h;obtain⟨v,e1,h⟩:=h;obtain⟨m,hn,hl⟩:=I.loc;have vis:Vis X.env.scope x:=by rcases hx with k | k;exact .inl k;exact .inr (.inl k)
 obtain⟨u,r,l⟩:=hl i x v hi e1 vis;refine wpAny_AugAssign_Name ?_;have go:wpAny (model X.prog X.w) X.A (eval e X.env) (fun w s₂=>wpAny (model X.prog X.w) X.A (inplaceOp op u w) (fun r s₃=>wpAny (model X.prog X.w) X.A (storeName X.env x r) (fun _=>SP X aU D .next) X.xe s₃) X.xe s₂) X.xe s:=by
  refine thn (he aU s σ H _ I h) fun w s1 hq0=>?_
  obtain⟨y,H1,I1,r1,q1⟩:=hq0;refine thn (ho aU s1 σ H1 v y u w _ I1 r r1 q1) fun z s2 hq0=>?_
  obtain⟨zv,H2,I2,r2,q2⟩:=hq0;exact zjg I2 hN hi hx r2 (fun s3 I3=>⟨_,H2,I3,q2⟩) hf
 rcases l with⟨hk,hm⟩ | ⟨hk,c,hc,hcell⟩
 ·exact wpAny_loadName_local I.ok.kind hk hn hm go
 ·rcases hk with hk | hk
  ·exact wpAny_loadName_cell I.ok.kind hk hc hcell go
  ·rcases hx with k | k
   ·have:X.env.scope.names.lookup x=some .free:=hk;rw[k] at this;cases this
   ·have:X.env.scope.names.lookup x=some .free:=hk;rw[k] at this;cases this
noncomputable def tWhile (c:TT) (tb:TS):TS:=fun D σ H=>∃W:Nat->St->Hp->Prop,(∃m,W m σ H)/\∀m σ H,W m σ H ->
 c σ H fun b H1=>if b=true then ∃N:St->Hp->Prop,(∀σ' H',N σ' H'->∃m',m' < m/\W m' σ' H')/\tb {D with nx:=N,ct:=N,bk:=D.nx} σ H1 else D.nx σ H1
theorem zui {c:Expr}{body:List Stmt}{tc:TT}{tb:TS}(hp:PassesOwn (model X.prog X.w) X.A X.env X.xe)(hc:PT X c tc)(hb:PSs X body tb):PS X (.While c body [] pos) (tWhile tc tb):=by
 intro aU s σ H D I h;obtain⟨W,⟨m0,w0⟩,turn⟩:=h;refine wpAny_While (codeAny_whileLoop (fun n s'=>∃σ' H',Inv X aU σ' H' s'/\W n σ' H') ?_ m0 ⟨σ,H,I,w0⟩);rintro n s1 ⟨σ1,H1,I1,w1⟩;refine xgk hp (thn (hc aU s1 σ1 H1 _ I1 (turn n σ1 H1 w1)) fun b s2 hq0=>?_);obtain⟨H2,I2,q2⟩:=hq0;cases b with
 | true =>
  obtain⟨N,hN,q2⟩:=q2;rw[if_pos rfl];refine xgk hp (thn (hb aU s2 σ1 H2 _ I2 q2) fun f s3 q3=>?_);cases f with
  | next =>
   obtain⟨σ3,H3,I3,n3⟩:=q3;obtain⟨m',hm,w3⟩:=hN σ3 H3 n3;exact⟨m',hm,σ3,H3,I3,w3⟩
  | cont =>
   obtain⟨σ3,H3,I3,n3⟩:=q3;obtain⟨m',hm,w3⟩:=hN σ3 H3 n3;exact⟨m',hm,σ3,H3,I3,w3⟩
  | brk=>exact q3
  | ret v=>exact q3
 | false =>
  rw[if_neg xfi];exact xjm ⟨σ1,H2,I2,q2⟩
end
structure It where
 go:Nat->Hp->Prop
 yld:Nat->Hp->V->Hp->Prop
 stop:Nat->Hp->Prop
noncomputable def FpOk (X:Cx) (aU:List (Addr×Obj)) (H:Hp) (b:Addr):Prop :=
 H b=none/\b≠X.env.locals/\b∉X.fs/\(b∈X.ex\/X.s₀.heap.objs.size<=b)/\(∀x c,X.env.cells.lookup x=some c->c≠b)/\∀p∈X.pn++aU,p.1≠b
theorem Inv.fpOk {X:Cx}{aU:List (Addr×Obj)}{σ:St}{H H':Hp}{s:Shared}{b:Addr}(I:Inv X aU σ H s)(hb:s.heap.objs.size<=b)(hn:H' b=none):FpOk X aU H' b:=by
 refine⟨hn,xfm (xbg I.lt hb),I.nofs hb,.inr (xbc I.sz hb),fun x c e z=>?_,fun p hp z=>?_⟩
 ·obtain⟨v,q⟩:=I.cell x c e;exact absurd (xbg q.lt (by rw[z];exact hb)) (xgl _)
 ·exact absurd (xbg (xbl (I.pin p hp).1) (by rw[z];exact hb)) (xgl _)
structure Turn (P:Program) (w:World) (K:Fg) (tg:Expr) (J:It) (fp:List Addr) (it:Addr) (tn:Nat->Heap->Prop):Prop where
 mem:it∈fp
 obj:∀i h,tn i h->∀b∈fp,∃o,h.get? b=some o/\∀v,o.data≠.cell v
 keep:∀i h h',tn i h->(∀b∈fp,∀o,h.get? b=some o->h'.get? b=some o)->tn i h'
 item:∀(X:Cx),X.prog=P->X.w=w->X.K=K->X.calm=true->∀(i:Nat) (aU:List (Addr×Obj)) (s:Shared) (σ:St) (H:Hp) (E:Value->Shared->Prop),Inv X aU σ H s->(∀b∈fp,FpOk X aU H b)->tn i s.heap->J.go i H ->
  wpAny (model P w) X.A (pyNext (.ref it)) (fun r s1=>∃u,r=some u /\
   wpAny (model P w) X.A (letOwnedTupleGo tg (.ref it) u) (fun _ s2=>∃x H',Inv X aU σ H' s2/\RelV x u/\J.yld i H x H'/\tn (i+1) s2.heap/\∀b∈fp,H' b=none) E s1) E s
 done:∀(X:Cx),X.prog=P->X.w=w->X.K=K->X.calm=true->∀(i:Nat) (aU:List (Addr×Obj)) (s:Shared) (σ:St) (H:Hp) (E:Value->Shared->Prop),Inv X aU σ H s->(∀b∈fp,FpOk X aU H b)->tn i s.heap->J.stop i H ->
  wpAny (model P w) X.A (pyNext (.ref it)) (fun r s1=>r=none/\Inv X aU σ H s1) E s
 self:∀(A:Around) (i:Nat) (s:Shared) (Q:Value->Shared->Prop) (E:Value->Shared->Prop),tn i s.heap->Q (.ref it) s->wpAny (model P w) A (pyIter (.ref it)) Q E s
noncomputable abbrev TI:=St->Hp->(It->Hp->Prop)->Prop
noncomputable def PIE (X:Cx) (aU:List (Addr×Obj)) (σ:St) (tg:Expr) (R:It->Hp->Prop) (itv:Value) (s2:Shared):Prop :=
 ∃(it:Addr) (fp:List Addr) (tn:Nat->Heap->Prop) (J:It) (H':Hp),itv=.ref it/\Inv X aU σ H' s2/\Turn X.prog X.w X.K tg J fp it tn/\tn 0 s2.heap/\(∀b∈fp,FpOk X aU H' b)/\R J H'
noncomputable def PI (X:Cx) (tg iter:Expr) (wi:TI):Prop :=
 ∀(aU:List (Addr×Obj)) (s:Shared) (σ:St) (H:Hp) (R:It->Hp->Prop),Inv X aU σ H s->wi σ H R ->
  wpAny (model X.prog X.w) X.A (eval iter X.env) (fun v s1=>wpAny (model X.prog X.w) X.A (pyIter v) (PIE X aU σ tg R) X.xe s1) X.xe s
theorem zzn {M:Model}{A:Around}{E:Value->Shared->Prop}{s:Shared}{tg:Expr}{it:Addr}{u:Value}{o:Obj}{n:String}{vs:Array Value}{Q:Unit->Shared->Prop}(ho:s.heap.get? it=some o)(hc:o.cls=.type n)(hd:o.data=.fields vs)
    (hn:["enumerate", "zip", "dict_itemiterator", "dict_reverseitemiterator", "odict_iterator", "itertools.zip_longest", "itertools.pairwise"].contains n=false)(hQ:Q () s):wpAny M A (letOwnedTupleGo tg (.ref it) u) Q E s:=by
  unfold letOwnedTupleGo;cases tg <;> first
    | exact xbe hQ
    | (cases u <;> first
        | exact xbe hQ
        | (refine xba (wpAny_load ho ?_)
           rw[hc, hd];show wpAny M A (if(["enumerate", "zip", "dict_itemiterator", "dict_reverseitemiterator", "odict_iterator", "itertools.zip_longest", "itertools.pairwise"].contains n&&vs[0]?==some (rawInt _))=true then _ else _) Q E s
           rw[if_neg (by intro h; rw[hn, Bool.false_and] at h; cases h)]
           exact xbe hQ))
noncomputable def Itl (K:Fg) (a:Addr):It :=
 ⟨fun i H=>∃xs x,SqL K H a xs/\xs[i]?=some x,fun i H x H'=>H'=H/\∀xs,SqL K H a xs->xs[i]?=some x,fun i H=>∃xs,SqL K H a xs/\xs.length<=i⟩
noncomputable def Itt (K:Fg) (a:Addr):It :=
 ⟨fun i H=>∃xs x,SqT K H a xs/\xs[i]?=some x,fun i H x H'=>H'=H/\∀xs,SqT K H a xs->xs[i]?=some x,fun i H=>∃xs,SqT K H a xs/\xs.length<=i⟩
noncomputable def Itr (lo:Int) (n:Nat):It:=⟨fun i _=>i < n,fun i H x H'=>H'=H/\x=.int (lo+i),fun i _=>n<=i⟩
theorem zqf {P:Program}{w:World}{K:Fg}{tg:Expr}(a it:Addr):Turn P w K tg (Itl K a) [it] it (fun i h=>h.IsListIter it a i) where
 mem:=by simp
 obj:=fun i h st b hb=>by
  have e:b=it:=by simpa using hb
  subst e;obtain⟨o,e,c,d⟩:=st;exact⟨o,e,fun v z=>by rw[d] at z;cases z⟩
 keep:=fun i h h' st k=>st.at fun o e=>k it (by simp) o e
 item:=by
  intro X hP hw hK hc i aU s σ H E I hf st hg;subst hP hw hK;obtain⟨xs,x,hq,hx⟩:=hg;obtain⟨its,rv,p,hz⟩:=I.list hq;obtain⟨u,hu,ru⟩:=rv.get hx;obtain⟨f0,f1,f2,f3,f4,f5⟩:=hf it (by simp);refine wpAny_pyNext_list_item st p.isList (x:=u) (by simpa using hu) fun h' st' sb=>?_
  have I1:Inv X aU σ H {s with heap:=h'}:=I.turned (t':=s.toks) (fun b o hb e=>(sb.2 b hb).trans e) f0 f1 f3 f4 f5;obtain⟨o,e,c,d⟩:=id st';exact⟨u,rfl,zzn (s:={s with heap:=h'}) e c d (by decide) ⟨x,H,I1,ru,⟨rfl,fun ys hy=>by rw[I.list_inj hy hq];exact hx⟩,st',fun b hb=>(hf b hb).1⟩⟩
 done:=by
  intro X hP hw hK hc i aU s σ H E I hf st hg;subst hP hw hK;obtain⟨xs,hq,hx⟩:=hg;obtain⟨its,rv,p,hz⟩:=I.list hq;obtain⟨f0,f1,f2,f3,f4,f5⟩:=hf it (by simp);have hl:=rv.length;exact wpAny_pyNext_list_end (I.ok.hd hc) st p.isList (by simp;lia) fun h' eb=>⟨rfl,I.turned (t':=s.toks) (fun b o hb e=>eb b o hb e) f0 f1 f3 f4 f5⟩
 self:=fun _ _ _ _ _ st h=>wpAny_pyIter_listiter st h
theorem zna {P:Program}{w:World}{K:Fg}{tg:Expr}(a it:Addr):Turn P w K tg (Itt K a) [it] it (fun i h=>h.IsTupleIter it a i) where
 mem:=by simp
 obj:=fun i h st b hb=>by
  have e:b=it:=by simpa using hb
  subst e;obtain⟨o,e,c,d⟩:=st;exact⟨o,e,fun v z=>by rw[d] at z;cases z⟩
 keep:=fun i h h' st k=>st.at fun o e=>k it (by simp) o e
 item:=by
  intro X hP hw hK hc i aU s σ H E I hf st hg;subst hP hw hK;obtain⟨xs,x,hq,hx⟩:=hg;obtain⟨its,rv,p,hz⟩:=I.tuple hq;obtain⟨u,hu,ru⟩:=rv.get hx;obtain⟨f0,f1,f2,f3,f4,f5⟩:=hf it (by simp);refine wpAny_pyNext_tuple_item st (show s.heap.IsTuple a its.toArray from p) (x:=u) (by simpa using hu) fun h' st' sb=>?_
  have I1:Inv X aU σ H {s with heap:=h'}:=I.turned (t':=s.toks) (fun b o hb e=>(sb.2 b hb).trans e) f0 f1 f3 f4 f5;obtain⟨o,e,c,d⟩:=id st';exact⟨u,rfl,zzn (s:={s with heap:=h'}) e c d (by decide) ⟨x,H,I1,ru,⟨rfl,fun ys hy=>by rw[I.tuple_inj hy hq];exact hx⟩,st',fun b hb=>(hf b hb).1⟩⟩
 done:=by
  intro X hP hw hK hc i aU s σ H E I hf st hg;subst hP hw hK;obtain⟨xs,hq,hx⟩:=hg;obtain⟨its,rv,p,hz⟩:=I.tuple hq;obtain⟨f0,f1,f2,f3,f4,f5⟩:=hf it (by simp);have hl:=rv.length;exact wpAny_pyNext_tuple_end (I.ok.hd hc) st (show s.heap.IsTuple a its.toArray from p) (by simp;lia) fun h' eb=>⟨rfl,I.turned (t':=s.toks) (fun b o hb e=>eb b o hb e) f0 f1 f3 f4 f5⟩
 self:=fun _ _ _ _ _ st h=>wpAny_pyIter_tupleiter st h
theorem znb {P:Program}{w:World}{K:Fg}{tg:Expr}(it:Addr)(lo:Int)(n:Nat):Turn P w K tg (Itr lo n) [it] it (fun i h=>IsRangeIter h it (lo+(i:Nat) * 1) ((n:Int) - (i:Nat)) 1) where
 mem:=by simp
 obj:=fun i h st b hb=>by
  have e:b=it:=by simpa using hb
  subst e
  exact⟨_,st,fun v z=>by
   have z':Data.fields _=Data.cell v:=z
   cases z'⟩
 keep:=fun i h h' st k=>k it (by simp) _ st
 item:=by
  intro X hP hw hK hc i aU s σ H E I hf st hg;subst hP hw hK;obtain⟨f0,f1,f2,f3,f4,f5⟩:=hf it (by simp);have W:=Walks.range (prog:=X.prog) (w:=X.w) (I.ok.hd hc) it lo 1 n;refine W.item i s _ _ hg st fun v h' tk hv st' kk=>?_
  obtain⟨t,rfl⟩:=hv;have I1:Inv X aU σ H {s with heap:=h',toks:=tk}:=I.turned (fun b o hb e=>kk b o (by simpa using hb) e) f0 f1 f3 f4 f5;refine⟨_, rfl, zzn (s:={ s with heap:=h', toks:=tk }) (n:="range_iterator") st' rfl rfl (by decide) ⟨.int (lo + i), H, I1,⟨t, ?_⟩,⟨rfl, rfl⟩, st', fun b hb=>(hf b hb).1⟩⟩
  rw[Int.mul_one]
 done:=by
  intro X hP hw hK hc i aU s σ H E I hf st hg;subst hP hw hK;obtain⟨f0,f1,f2,f3,f4,f5⟩:=hf it (by simp);exact wpAny_pyNext_range_end (I.ok.hd hc) st (by have:n<=i:=hg;lia) fun h' eb=>⟨rfl,I.turned (t':=s.toks) (fun b o hb e=>eb b o hb e) f0 f1 f3 f4 f5⟩
 self:=fun _ _ _ _ _ st h=>wpAny_pyIter_rangeiter st h
section
variable {X:Cx}{tg:Expr}
noncomputable def iList (K:Fg) (tl:TE):TI:=fun σ H R=>tl σ H fun x H1=>∃a,x=.ref a/\(∃xs,SqL K H1 a xs)/\R (Itl K a) H1
noncomputable def iTup (K:Fg) (tl:TE):TI:=fun σ H R=>tl σ H fun x H1=>∃a,x=.ref a/\(∃xs,SqT K H1 a xs)/\R (Itt K a) H1
theorem zyb {l:Expr}{tl:TE}(hl:PE X l tl):PI X tg l (iList X.K tl):=by
 intro aU s σ H R I h;refine thn (hl aU s σ H _ I h) fun v s1 hq0=>?_
 obtain⟨x,H1,I1,r1,q1⟩:=hq0;obtain⟨a,e,⟨xs,hq⟩,q⟩:=q1;subst e;cases r1;obtain⟨its,rv,p,hz⟩:=I1.list hq;refine xik p.isList ?_;refine⟨s1.heap.objs.size,[s1.heap.objs.size],_,_,H1,rfl,I1.kept (t':=s1.toks) fun b o e=>xbb _ e,zqf a _,⟨_,xbm _ rfl,rfl,rfl⟩,fun b hb=>?_,q⟩;have e:b=s1.heap.objs.size:=by simpa using hb
 subst e;exact I1.fpOk (xbf _) (I1.hok.fresh (xbf _))
theorem zbdd {l:Expr}{tl:TE}(hl:PE X l tl):PI X tg l (iTup X.K tl):=by
 intro aU s σ H R I h;refine thn (hl aU s σ H _ I h) fun v s1 hq0=>?_
 obtain⟨x,H1,I1,r1,q1⟩:=hq0;obtain⟨a,e,⟨xs,hq⟩,q⟩:=q1;subst e;cases r1;obtain⟨its,rv,p,hz⟩:=I1.tuple hq;refine xgf (show s1.heap.IsTuple a its.toArray from p) ?_;refine⟨s1.heap.objs.size,[s1.heap.objs.size],_,_,H1,rfl,I1.kept (t':=s1.toks) fun b o e=>xbb _ e,zna a _,⟨_,xbm _ rfl,rfl,rfl⟩,fun b hb=>?_,q⟩;have e:b=s1.heap.objs.size:=by simpa using hb
 subst e;exact I1.fpOk (xbf _) (I1.hok.fresh (xbf _))
theorem zue {aU:List (Addr×Obj)}{σ:St}{H:Hp}{s:Shared}{R:It->Hp->Prop}{E:Value->Shared->Prop}{lo hi:Int}{t u v:Tok}{tk:Nat}(I:Inv X aU σ H s)(h1:-(2 ^ 62)<=lo)(h2:lo < 2 ^ 62)(h3:-(2 ^ 62)<=hi)(h4:hi < 2 ^ 62)
  (q:R (Itr lo (hi - lo).toNat) H):wpAny (model X.prog X.w) X.A (pyIter (.ref s.heap.objs.size)) (PIE X aU σ tg R) E { s with heap:=s.heap.push { cls:=.type "range", data:=.fields #[.int lo t, .int hi u, .int 1 v] }, toks:=tk }:=by
 refine wpAny_pyIter_range (IsRange.new ..) (small_one h1 h2 h3 h4) ?_;have I1:Inv X aU σ H { s with heap:=s.heap.push { cls:=.type "range", data:=.fields #[.int lo t, .int hi u, .int 1 v] }, toks:=tk }:=I.kept fun b o e=>xbb _ e
 refine⟨(s.heap.push { cls:=.type "range", data:=.fields #[.int lo t, .int hi u, .int 1 v] }).objs.size,[(s.heap.push { cls:=.type "range", data:=.fields #[.int lo t, .int hi u, .int 1 v] }).objs.size], _, _, H, rfl,
  I1.kept (t':=tk) fun b o e=>xbb _ e,znb _ lo (hi - lo).toNat,?_,fun b hb=>?_,q⟩
 ·have e1:lo+((0:Nat):Int) * 1=lo:=by simp
  have e2:(((hi - lo).toNat:Nat):Int) - ((0:Nat):Int)=Builtin.Range.rangeSize lo hi 1:=by rw[rangeSize_one];split<;>lia
  show IsRangeIter _ _ (lo+((0:Nat):Int) * 1) ((((hi - lo).toNat:Nat):Int) - ((0:Nat):Int)) 1;rw[e1,e2];exact xbm _ rfl
 ·have e:b=(s.heap.push { cls:=.type "range", data:=.fields #[.int lo t, .int hi u, .int 1 v] }).objs.size:=by simpa using hb
  subst e;exact I1.fpOk (xbf _) (I1.hok.fresh (xbf _))
noncomputable def iRng1 (ta:TA):TI:=fun σ H R=>ta σ H fun vs H1=>∃j:Int,vs=[.int j]/\-(2 ^ 62)<=j/\j < 2 ^ 62/\R (Itr 0 j.toNat) H1
theorem zqn {a:Expr}{ta:TA}{p pos:Pos}(hg:Gl X "range")(hm:X.mg "range"=none)(ha:PA X [a] ta)(hs:starEach [a] X.env=[(false, eval a X.env)]:=by rfl):PI X tg (.Call (.Name "range" p) [a] [] pos) (iRng1 ta):=by
 intro aU s σ H R I h;refine Call_ (zmm I hg hm boot_range (xgc (thn (ha pos aU s σ H _ I h) fun us s1 hq0=>?_) hs rfl));obtain⟨vs,H1,I1,r1,q1⟩:=hq0;obtain⟨j,e,q1,q2,q⟩:=q1;subst e;cases r1 with
 | cons r rr =>
  cases rr;obtain⟨t,rfl⟩:=r;exact call_range_1 (zue I1 (by lia) (by lia) q1 q2 (by simpa using q))
noncomputable def tFor (wi:TI) (g:TG) (tb:TS):TS:=fun D σ H=>wi σ H fun J H1=>∃W:Nat->Nat->St->Hp->Prop,(∃m,W 0 m σ H1)/\∀i m σ H,W i m σ H ->
 (J.stop i H/\D.nx σ H)\/(J.go i H/\∃N:St->Hp->Prop,(∀σ' H',N σ' H'->∃m',m' < m/\W (i+1) m' σ' H')/\∀x H',J.yld i H x H'->g x σ H' fun σ2 H2=>tb {D with nx:=N,ct:=N,bk:=D.nx} σ2 H2)
noncomputable def pinsAt (fp:List Addr) (h:Heap):List (Addr×Obj):=fp.filterMap fun b=>(h.get? b).map fun o=>(b,o)
theorem zdu {fp:List Addr}{h:Heap}{b:Addr}{o:Obj}(hb:b∈fp)(e:h.get? b=some o):(b,o)∈pinsAt fp h:=List.mem_filterMap.mpr ⟨b,hb,by rw[e];rfl⟩
theorem zqr {fp:List Addr}{h:Heap}{p:Addr×Obj}(hp:p∈pinsAt fp h):p.1∈fp/\h.get? p.1=some p.2:=by
 obtain⟨b,hb,e⟩:=List.mem_filterMap.mp hp;cases q:h.get? b with
 | none=>rw[q] at e;cases e
 | some o =>
  rw[q] at e;have e':(b,o)=p:=xck e;subst e';exact⟨hb,q⟩
theorem Inv.pinned {aU:List (Addr×Obj)}{σ:St}{H:Hp}{s:Shared}{fp:List Addr}(I:Inv X aU σ H s)(hf:∀b∈fp,FpOk X aU H b)(ho:∀b∈fp,∃o,s.heap.get? b=some o/\∀v,o.data≠.cell v):Inv X (aU++pinsAt fp s.heap) σ H s :=
 I.pins_of fun p hp=>(xbs.mp hp).elim (fun z=>I.pin p (xcx _ z)) fun z=>by
  obtain⟨hb,e⟩:=zqr z;obtain⟨f0,f1,f2,_⟩:=hf p.1 hb;obtain⟨o,e',d⟩:=ho p.1 hb;rw[e] at e';cases e'
  exact⟨e,f0,f1,f2,d⟩
theorem Inv.unpinned {aU pl:List (Addr×Obj)}{σ:St}{H:Hp}{s:Shared}(I:Inv X (aU++pl) σ H s):Inv X aU σ H s:=I.pins_of fun p hp=>I.pin p (xcx _ (xhn _ hp))
theorem zbcz {iter:Expr}{body:List Stmt}{wi:TI}{g:TG}{tb:TS}{pos:Pos}(hp:PassesOwn (model X.prog X.w) X.A X.env X.xe)(hc:X.calm=true)(hi:PI X tg iter wi)(hg:PG X tg g)(hb:PSs X body tb)
  (hs:∀x,foldedSetIterable iter X.env x=pure x:=by intro _;rfl):PS X (.For tg iter body [] pos) (tFor wi g tb):=by
 intro aU s σ H D I h;refine wpAny_For (thn (hi aU s σ H _ I h) fun v s1 h1=>thn h1 fun itv s2 h2=>?_) hs;obtain⟨it,fp,tn,J,H2,e,I2,T,st2,f2,W,⟨m0,w0⟩,turn⟩:=h2;subst e;have stat:∀{H':Hp},(∀b∈fp,H' b=none)->∀b∈fp,FpOk X aU H' b:=fun hn b hb=>⟨hn b hb,(f2 b hb).2⟩
 refine codeAny_forLoop_any (fun n s'=>∃i σ' H',Inv X aU σ' H' s'/\tn i s'.heap/\(∀b∈fp,H' b=none)/\W i n σ' H') ?_ m0 ⟨0,σ,H2,I2,st2,fun b hb=>(f2 b hb).1,w0⟩;rintro n s3 ⟨i,σ3,H3,I3,st3,fr3,w3⟩;rcases turn i n σ3 H3 w3 with⟨stop,qn⟩ | ⟨go,N,hN,step⟩
 ·refine xgk hp (thn (T.done X rfl rfl rfl hc i aU s3 σ3 H3 X.xe I3 (stat fr3) st3 stop) fun r s4 hq0=>?_);obtain⟨hr,I4⟩:=hq0;subst hr;exact xjm ⟨σ3,H3,I4,qn⟩
 ·refine xgk hp (thn (T.item X rfl rfl rfl hc i aU s3 σ3 H3 X.xe I3 (stat fr3) st3 go) fun r s4 hq0=>?_);obtain⟨u,hr,h4⟩:=hq0;subst hr;refine xgk hp (thn h4 fun _ s5 hq0=>?_);obtain⟨x,H5,I5,r5,y5,st5,fr5⟩:=hq0;have I5':=I5.pinned (stat fr5) (T.obj _ _ st5);refine xgk hp (thn (hg _ s5 σ3 H5 x u _ I5' r5 (step x H5 y5)) fun _ s6 hq0=>?_);obtain⟨σ6,H6,I6,q6⟩:=hq0;refine xgk hp (thn (hb _ s6 σ6 H6 _ I6 q6) fun f s7 q7=>?_);have again:∀{σ7:St} {H7:Hp},Inv X (aU++pinsAt fp s5.heap) σ7 H7 s7->N σ7 H7->∃m,m < n/\∃i σ' H',Inv X aU σ' H' s7/\tn i s7.heap/\(∀b∈fp,H' b=none)/\W i m σ' H':=fun {σ7 H7} I7 n7=>by
   obtain⟨m',hm,w7⟩:=hN σ7 H7 n7;refine⟨m',hm,i+1,σ7,H7,I7.unpinned,T.keep _ _ _ st5 fun b hb o e=>(I7.pin (b,o) (xcx _ (xcx _ (zdu hb e)))).1,fun b hb=>?_,w7⟩;obtain⟨o,e,d⟩:=T.obj _ _ st5 b hb;exact(I7.pin (b,o) (xcx _ (xcx _ (zdu hb e)))).2.1
  cases f with
  | next=>obtain⟨σ7,H7,I7,n7⟩:=q7;exact again I7 n7
  | cont=>obtain⟨σ7,H7,I7,n7⟩:=q7;exact again I7 n7
  | brk=>obtain⟨σ7,H7,I7,q7⟩:=q7;exact⟨σ7,H7,I7.unpinned,q7⟩
  | ret v=>obtain⟨x7,σ7,H7,I7,r7,q7⟩:=q7;exact⟨x7,σ7,H7,I7.unpinned,r7,q7⟩
end
noncomputable abbrev R2:=V->V->Hp->VK->Prop
noncomputable def OpR (X:Cx) (f:Value->Value->Sem Value) (r:R2):Prop :=
 ∀(aU:List (Addr×Obj)) (s:Shared) (σ:St) (H:Hp) (x y:V) (v u:Value) (Q:VK),Inv X aU σ H s->RelV x v->RelV y u->r x y H Q ->
  wpAny (model X.prog X.w) X.A (f v u) (EP X aU σ Q) X.xe s
noncomputable def UnR (X:Cx) (f:Value->Sem Value) (r:V->Hp->VK->Prop):Prop :=
 ∀(aU:List (Addr×Obj)) (s:Shared) (σ:St) (H:Hp) (x:V) (v:Value) (Q:VK),Inv X aU σ H s->RelV x v->r x H Q ->
  wpAny (model X.prog X.w) X.A (f v) (EP X aU σ Q) X.xe s
noncomputable def CallR (X:Cx) (f:Value) (r:List V->Hp->VK->Prop):Prop :=
 ∀(aU:List (Addr×Obj)) (s:Shared) (σ:St) (H:Hp) (xs:List V) (us:List Value) (Q:VK),Inv X aU σ H s->Vals xs us->r xs H Q ->
  wpAny (model X.prog X.w) X.A (call f us) (EP X aU σ Q) X.xe s
noncomputable def TruR (X:Cx) (r:V->Hp->(Bool->Hp->Prop)->Prop):Prop :=
 ∀(aU:List (Addr×Obj)) (s:Shared) (σ:St) (H:Hp) (x:V) (v:Value) (Q:Bool->Hp->Prop),Inv X aU σ H s->RelV x v->r x H Q ->
  wpAny (model X.prog X.w) X.A (truthy v) (TP X aU σ Q) X.xe s
noncomputable def tOp (r:R2) (ta tb:TE):TE:=fun σ H Q=>ta σ H fun x H1=>tb σ H1 fun y H2=>r x y H2 Q
noncomputable def tUn (r:V->Hp->VK->Prop) (ta:TE):TE:=fun σ H Q=>ta σ H fun x H1=>r x H1 Q
noncomputable def rI (C:Int->Int->Prop) (g:Int->Int->V):R2:=fun x y H Q=>∃i j,x=.int i/\y=.int j/\C i j/\Q (g i j) H
noncomputable def rI0 (g:Int->Int->V):R2:=fun x y H Q=>∃i j,x=.int i/\y=.int j/\Q (g i j) H
noncomputable def rU (g:Int->V):V->Hp->VK->Prop:=fun x H Q=>∃i,x=.int i/\Q (g i) H
section
variable {X:Cx}{a b c:Expr}{ta tb tc:TE}{pos:Pos}
theorem binT (ha:PE X a ta)(hb:PE X b tb){aU:List (Addr×Obj)}{s:Shared}{σ:St}{H:Hp}{R:V->V->Hp->Prop}(I:Inv X aU σ H s)
  (h:ta σ H fun x H1=>tb σ H1 fun y H2=>R x y H2){Q:Value->Shared->Prop}{f:Value->Value->Sem Value}
  (hf:∀v u s2 x y H2,Inv X aU σ H2 s2->RelV x v->RelV y u->R x y H2->wpAny (model X.prog X.w) X.A (f v u) Q X.xe s2) :
  wpAny (model X.prog X.w) X.A (eval a X.env) (fun v s₁=>wpAny (model X.prog X.w) X.A (eval b X.env) (fun u s₂=>wpAny (model X.prog X.w) X.A (f v u) Q X.xe s₂) X.xe s₁) X.xe s:=by
 refine thn (ha aU s σ H _ I h) fun v s1 hq0=>?_
 obtain⟨x,H1,I1,r1,q1⟩:=hq0;refine thn (hb aU s1 σ H1 _ I1 q1) fun u s2 hq0=>?_
 obtain⟨y,H2,I2,r2,q2⟩:=hq0;exact hf v u s2 x y H2 I2 r1 r2 q2
theorem zbhx {op:Operator}{r:R2}(ho:OpR X (binaryOp op) r)(ha:PE X a ta)(hb:PE X b tb):PE X (.BinOp a op b pos) (tOp r ta tb):=by
 intro aU s σ H Q I h;exact wpAny_BinOp (binT ha hb I h fun v u s2 x y H2 I2 rx ry q=>ho aU s2 σ H2 x y v u Q I2 rx ry q)
theorem zbhw {op:UnaryOp}{r:V->Hp->VK->Prop}(ho:UnR X (unaryOp op) r)(ha:PE X a ta):PE X (.UnaryOp op a pos) (tUn r ta):=by
 intro aU s σ H Q I h;exact UnaryOp_ (thn (ha aU s σ H _ I h) fun v s1 ⟨x,H1,I1,r1,q1⟩=>ho aU s1 σ H1 x v Q I1 r1 q1)
theorem opI {f:Value->Value->Sem Value}{C:Int->Int->Prop}{g:Int->Int->Int}
  (rule:∀(i j:Int) (t u:Tok) (s:Shared) (Q:Value->Shared->Prop) (E:Value->Shared->Prop),C i j->Q (.int (g i j) s.toks) {s with toks:=s.toks+1}->wpAny (model X.prog X.w) X.A (f (.int i t) (.int j u)) Q E s) :
  OpR X f (rI C fun i j=>.int (g i j)):=by
 intro aU s σ H x y v u Q I rx ry h;obtain⟨i,j,rfl,rfl,hc,q⟩:=h;obtain⟨t,rfl⟩:=rx;obtain⟨t',rfl⟩:=ry;exact rule i j t t' s _ _ hc ⟨.int (g i j),H,I.tok _,⟨_,rfl⟩,q⟩
theorem opI0 {f:Value->Value->Sem Value}{g:Int->Int->Int}
  (rule:∀(i j:Int) (t u:Tok) (s:Shared) (Q:Value->Shared->Prop) (E:Value->Shared->Prop),Q (.int (g i j) s.toks) {s with toks:=s.toks+1}->wpAny (model X.prog X.w) X.A (f (.int i t) (.int j u)) Q E s) :
  OpR X f (rI0 fun i j=>.int (g i j)):=by
 intro aU s σ H x y v u Q I rx ry h;obtain⟨i,j,rfl,rfl,q⟩:=h;obtain⟨t,rfl⟩:=rx;obtain⟨t',rfl⟩:=ry;exact rule i j t t' s _ _ ⟨.int (g i j),H,I.tok _,⟨_,rfl⟩,q⟩
theorem opB0 {f:Value->Value->Sem Value}{g:Int->Int->Bool}
  (rule:∀(i j:Int) (t u:Tok) (s:Shared) (Q:Value->Shared->Prop) (E:Value->Shared->Prop),Q (.bool (g i j)) s->wpAny (model X.prog X.w) X.A (f (.int i t) (.int j u)) Q E s) :
  OpR X f (rI0 fun i j=>.bl (g i j)):=by
 intro aU s σ H x y v u Q I rx ry h;obtain⟨i,j,rfl,rfl,q⟩:=h;obtain⟨t,rfl⟩:=rx;obtain⟨t',rfl⟩:=ry;exact rule i j t t' s _ _ ⟨.bl (g i j),H,I,rfl,q⟩
noncomputable def CPow (i j:Int):Prop:=0<=j/\j<=1000000/\i.natAbs < 2 ^ 64
noncomputable def CMul (i j:Int):Prop:=(-(2 ^ 64) < i/\i < 2 ^ 64)\/(-(2 ^ 64) < j/\j < 2 ^ 64)
theorem CMul.ok {i j:Int}(h:CMul i j):IntMulOk i j:=by
 rcases h with⟨h1,h2⟩ | ⟨h1,h2⟩
 ·exact .of_left (intBits_le_64 h1 h2)
 ·exact .of_right (intBits_le_64 h1 h2)
theorem zbdu:OpR X (binaryOp .Add) (rI0 fun i j=>.int (i+j)):=opI0 fun _ _ _ _ _ _ _ q=>add_int q
theorem zbdq:OpR X (binaryOp .Sub) (rI0 fun i j=>.int (i - j)):=opI0 fun _ _ _ _ _ _ _ q=>sub_int q
theorem zma:OpR X (binaryOp .Mult) (rI CMul fun i j=>.int (i * j)):=opI fun _ _ _ _ _ _ _ hc q=>mul_int q hc.ok
theorem zgy:OpR X (binaryOp .Mod) (rI (fun _ j=>0 < j) fun i j=>.int (i % j)):=opI fun i j _ _ _ _ _ hc q=>by
 have h1:(0:Int) < j:=hc;exact mod_int' (by lia) (by rw[Int.fmod_eq_emod_of_nonneg i (by lia)];exact q)
theorem zbdr:OpR X (binaryOp .Pow) (rI CPow fun i j=>.int (i ^ j.toNat)):=opI fun _ _ _ _ _ _ _ hc q=>pow_int_small hc.1 hc.2.1 hc.2.2 q
theorem unI {f:Value->Sem Value}{g:Int->Int}
  (rule:∀(i:Int) (t:Tok) (s:Shared) (Q:Value->Shared->Prop) (E:Value->Shared->Prop),Q (.int (g i) s.toks) {s with toks:=s.toks+1}->wpAny (model X.prog X.w) X.A (f (.int i t)) Q E s) :
  UnR X f (rU fun i=>.int (g i)):=by
 intro aU s σ H x v Q I rx h;obtain⟨i,rfl,q⟩:=h;obtain⟨t,rfl⟩:=rx;exact rule i t s _ _ ⟨.int (g i),H,I.tok _,⟨_,rfl⟩,q⟩
theorem zbce:UnR X (unaryOp .USub) (rU fun i=>.int (-i)):=unI fun _ _ _ _ _ q=>neg_int q
theorem zbew {aU:List (Addr×Obj)}{σ:St}{H:Hp}{s:Shared}{Q:VK}{k k':Bool}(I:Inv X aU σ H s)(q:Q (.bl k) H)(e:k=k'):EP X aU σ Q (.bool k') s:=by
 subst e;exact⟨.bl k,H,I,rfl,q⟩
theorem zbia:OpR X (compareOp .Lt) (rI0 fun i j=>.bl (decide (i < j))):=opB0 fun _ _ _ _ _ _ _ q=>lt_int q
theorem zbhf:OpR X (compareOp .LtE) (rI0 fun i j=>.bl (decide (i<=j))):=opB0 fun _ _ _ _ _ _ _ q=>le_int q
theorem znu:OpR X (compareOp .Gt) (rI0 fun i j=>.bl (decide (j < i))):=opB0 fun _ _ _ _ _ _ _ q=>gt_int q
theorem zbib:OpR X (compareOp .GtE) (rI0 fun i j=>.bl (decide (j<=i))):=opB0 fun _ _ _ _ _ _ _ q=>ge_int q
theorem zjp:OpR X (compareOp .NotIn) (fun x y H Q=>∃i j,x=.str i/\y=.str j/\Q (.bl (!(!(Builtin.Str.occurrences j i 0 j.length 1).isEmpty))) H):=by
 intro aU s σ H x y v u Q I rx ry h;obtain⟨i,j,rfl,rfl,q⟩:=h;obtain⟨t,rfl⟩:=rx;obtain⟨t',rfl⟩:=ry;exact notIn_str (zbew I q rfl)
theorem OpR.or {f:Value->Value->Sem Value}{r r':R2}(h:OpR X f r)(h':OpR X f r'):OpR X f (fun x y H Q=>r x y H Q\/r' x y H Q):=by
 intro aU s σ H x y v u Q I rx ry q;rcases q with q | q
 ·exact h aU s σ H x y v u Q I rx ry q
 ·exact h' aU s σ H x y v u Q I rx ry q
theorem nomark (b:Expr){op:CmpOp}(h:op≠.In:=by decide)(h2:op≠.NotIn:=by decide):behindInMarks op b=false:=by
 have e1:(op==CmpOp.In)=false:=by cases op<;>first | rfl | exact absurd rfl h
 have e2:(op==CmpOp.NotIn)=false:=by cases op<;>first | rfl | exact absurd rfl h2
 cases b<;>simp[behindInMarks,e1,e2]
theorem zyj {op:CmpOp}{r:R2}(ho:OpR X (compareOp op) r)(ha:PE X a ta)(hb:PE X b tb)(hm:behindInMarks op b=false):PE X (.Compare a [op] [b] pos) (tOp r ta tb):=by
 intro aU s σ H Q I h;exact wpAny_Compare1 (binT ha hb I h fun v u s2 x y H2 I2 rx ry q=>ho aU s2 σ H2 x y v u Q I2 rx ry q) hm
noncomputable def tTest (t:TE):TT:=fun σ H Q=>t σ H fun x H'=>∃k,x=.bl k/\Q k H'
theorem zxp {op:CmpOp}{r:R2}(ho:OpR X (compareOp op) r)(ha:PE X a ta)(hb:PE X b tb)(hm:behindInMarks op b=false):PT X (.Compare a [op] [b] pos) (tTest (tOp r ta tb)):=by
 intro aU s σ H Q I h
 refine wpAny_isTrue_Compare1 (thn (ha aU s σ H _ I h) fun v s1 ⟨x,H1,I1,r1,q1⟩=>thn (hb aU s1 σ H1 _ I1 q1) fun u s2 ⟨y,H2,I2,r2,q2⟩ =>
  thn (ho aU s2 σ H2 x y v u _ I2 r1 r2 q2) fun c s3 ⟨z,H3,I3,r3,k,e,q3⟩=>?_) hm
 subst e;cases r3;exact xez ⟨H3,I3,q3⟩
noncomputable def tChain (r r':R2) (ta tb tc:TE):TE:=fun σ H Q=>ta σ H fun x H1=>tb σ H1 fun y H2=>r x y H2 fun z H3=>∃k,z=.bl k /\
 (if k=true then tc σ H3 fun w' H4=>r' y w' H4 Q else Q (.bl false) H3)
theorem zug {op op':CmpOp}{r r':R2}(ho:OpR X (compareOp op) r)(ho':OpR X (compareOp op') r')(ha:PE X a ta)(hb:PE X b tb)(hc:PE X c tc)
  (hm:lastMarks [op,op'] [b,c]=false:=by with_unfolding_all rfl):PT X (.Compare a [op,op'] [b,c] pos) (tTest (tChain r r' ta tb tc)):=by
 intro aU s σ H Q I h
 refine isTrue_chain (thn (ha aU s σ H _ I h) fun v s1 ⟨x,H1,I1,r1,q1⟩=>test_link (thn (hb aU s1 σ H1 _ I1 q1) fun u s2 ⟨y,H2,I2,r2,q2⟩ =>
  thn (ho aU s2 σ H2 x y v u _ I2 r1 r2 q2) fun d s3 ⟨z,H3,I3,r3,k,e,q3⟩=>?_)) hm
 subst e;cases r3;refine xez ?_;cases k with
 | false =>
  obtain⟨k',e',q'⟩:=q3;cases e';exact ite_ff ⟨H3,I3,q'⟩
 | true =>
  refine ite_tt (test_last (thn (hc aU s3 σ H3 _ I3 q3) fun w' s4 ⟨z',H4,I4,r4,q4⟩=>thn (ho' aU s4 σ H4 y z' u w' _ I4 r2 r4 q4) fun d' s5 hq0=>?_));obtain⟨z2,H5,I5,r5,k2,e2,q5⟩:=hq0;subst e2;cases r5;exact xez ⟨H5,I5,q5⟩
noncomputable def TruV (K:Fg) (x:V) (H:Hp) (k:Bool):Prop :=
 match x with
 | .non=>k=false
 | .bl b=>k=b
 | .int i=>k=(i != 0)
 | .str y=>y.length<=sizeLine/\k=((y.length:Int) != 0)
 | .byt y=>y.size<=sizeLine/\k=((y.size:Int) != 0)
 | .ref p=>(∃xs,SqL K H p xs/\k=!xs.isEmpty)\/(∃xs,SqT K H p xs/\k=!xs.isEmpty)\/∃kvs,H p=some (.dK kvs)/\k=!kvs.isEmpty
 | _=>False
theorem zol {κ:Type}{kvs:List (κ×V)}{vs:List (κ×Value)}(r:KV kvs vs):(!vs.isEmpty)=!kvs.isEmpty:=by
 cases r<;>rfl
theorem zil {xs:List V}{its:List Value}(r:Vals xs its):(!its.toArray.isEmpty)=!xs.isEmpty:=by
 cases r<;>simp
theorem line63:(sizeLine:Nat) < 2 ^ 63:=by rw[xet];decide
theorem zbch:TruR X (fun x H Q=>∃k,TruV X.K x H k/\Q k H):=by
 intro aU s σ H x v Q I rx h;obtain⟨k,e,q⟩:=h;have hl:=line63;have hs:sizeLine=16777216:=xet;cases x with
 | non =>
  cases rx;have e':k=false:=e;subst e';exact truthy_none ⟨H,I,q⟩
 | bl b =>
  cases rx;have e':k=b:=e;subst e';exact xez ⟨H,I,q⟩
 | int i =>
  obtain⟨t,rfl⟩:=rx;have e':k=(i != 0):=e;subst e';exact PySem.P.truthy_int ⟨H,I,q⟩
 | str y =>
  obtain⟨t,rfl⟩:=rx;obtain⟨hy,e'⟩:y.length<=sizeLine/\k=((y.length:Int) != 0):=e;subst e';exact PySem.P.truthy_str (by lia) ⟨H,I.tok _,q⟩
 | byt y =>
  obtain⟨t,rfl⟩:=rx;obtain⟨hy,e'⟩:y.size<=sizeLine/\k=((y.size:Int) != 0):=e;subst e';exact W.truthy_bytes (by lia) ⟨H,I.tok _,q⟩
 | ref p =>
  cases rx;have e':(∃xs,SqL X.K H p xs/\k=!xs.isEmpty)\/(∃xs,SqT X.K H p xs/\k=!xs.isEmpty)\/∃kvs,H p=some (.dK kvs)/\k=!kvs.isEmpty:=e
  rcases e' with⟨xs,hx,e'⟩ | ⟨xs,hx,e'⟩ | ⟨kvs,hx,e'⟩
  ·subst e';obtain⟨its,r,pl,hz⟩:=I.list hx;have hlen:=r.length;exact wpAny_truthy_list pl.isList (by simp only[xbo];lia) ⟨H,I.tok _,by rw[zil r];exact q⟩
  ·subst e';obtain⟨its,r,pl,hz⟩:=I.tuple hx;have hlen:=r.length;exact truthy_tuple pl (by simp only[xbo];lia) ⟨H,I.tok _,by rw[zil r];exact q⟩
  ·subst e';obtain⟨hz,hS,vs,r,m⟩:kvs.length<=sizeLine/\(p==sysModules)=false/\∃vs,KV kvs vs/\s.heap.DictOf (mixKind X.prog X.w) p vs:=I.hok p _ hx
   have hlen:kvs.length=vs.length:=xin r;exact wpAny_truthy_dict hS m (by lia) ⟨H,I.tok _,by rw[zol r];exact q⟩
 | _=>exact(show False from e).elim
theorem znm (ha:PE X a ta)(he:∀whole,isTrue a X.env whole=(do let v ← whole;standAt a.pos;holding [v] (truthy v))) :
  PT X a (fun σ H Q=>ta σ H fun x H'=>∃k,TruV X.K x H' k/\Q k H'):=by
 intro aU s σ H Q I h;exact isTrue_plain (thn (ha aU s σ H _ I h) fun v s1 ⟨x,H1,I1,r1,q1⟩=>zbch aU s1 σ H1 x v Q I1 r1 q1) (he _)
theorem znw:OpR X (binaryOp .Add) (fun x y H Q=>∃i j,x=.str i/\y=.str j/\i.length+j.length<=sizeLine/\Q (.str (i++j)) H):=by
 intro aU s σ H x y v u Q I rx ry h;obtain⟨i,j,rfl,rfl,hz,q⟩:=h;obtain⟨t,rfl⟩:=rx;obtain⟨t',rfl⟩:=ry;exact add_str (fun t' tk=>⟨.str (i++j),H,I.tok _,⟨_,rfl⟩,q⟩) hz
theorem zmo:OpR X (inplaceOp .Add) (fun x y H Q=>∃i j,x=.str i/\y=.str j/\i.length+j.length<=sizeLine/\Q (.str (i++j)) H):=by
 intro aU s σ H x y v u Q I rx ry h;obtain⟨i,j,rfl,rfl,hz,q⟩:=h;obtain⟨t,rfl⟩:=rx;obtain⟨t',rfl⟩:=ry;exact iadd_str (fun t' tk=>⟨.str (i++j),H,I.tok _,⟨_,rfl⟩,q⟩) hz
noncomputable def PlainIxT (b:Expr):Prop:=∀o i,subscripted b false o i=operate [o,i] (getItem o i)
theorem zlz (ha:PE X a ta)(hb:PE X b tb)(hs:PlainIxT b) :
  PE X (.Subscript a b pos) (tOp (fun x y H Q=>∃z i c,x=.str z/\y=.int i/\0<=i/\i < 2 ^ 63/\i < z.length/\z.cps[i.toNat]?=some c/\Q (.str ⟨#[c]⟩) H) ta tb):=by
 intro aU s σ H Q I h;refine Subscript_ (binT ha hb I h fun v u s2 x y H2 I2 rx ry q=>?_);obtain⟨z,i,c,rfl,rfl,h0,h63,h1,hc,q⟩:=q;obtain⟨t,rfl⟩:=rx;obtain⟨t',rfl⟩:=ry;have e:seqIndex? i z.length=some i.toNat:=PySem.StrLaws.seqIndex_nonneg h0 h1
 exact tail_any (xia s2 z t) slot_str_getitem.lookup (getItem_str (c:=c) (by
  have e1:decide (i < -(2 ^ 63:Int))=false:=xbt (by lia);have e2:decide (i ≥ 2 ^ 63)=false:=xbt (by lia)
  rw[e1,e2]<;>rfl) (by rw[e];exact hc) ⟨.str ⟨#[c]⟩,H2,I2.tok _,⟨_,rfl⟩,q⟩) (hs _ _)
theorem vals1 {x:V}{us:List Value}(r:Vals [x] us):∃u,us=[u]/\RelV x u:=by
 cases r with
 | cons r1 r2=>cases r2;exact⟨_,rfl,r1⟩
theorem vals2 {x y:V}{us:List Value}(r:Vals [x,y] us):∃u w',us=[u,w']/\RelV x u/\RelV y w':=by
 cases r with
 | cons r1 r2 =>
  cases r2 with
  | cons r3 r4=>cases r4;exact⟨_,_,rfl,r1,r3⟩
theorem zwh:CallR X (.builtin "abs") (fun xs H Q=>∃ i, xs=[.int i]/\Q (.int (if i < 0 then -i else i)) H):=by
 intro aU s σ H xs us Q I r h;obtain⟨i,rfl,q⟩:=h;obtain⟨u,rfl,t,rfl⟩:=vals1 r;exact call_abs_int fun u tk=>⟨.int (if i < 0 then -i else i),H,I.tok _,⟨_,rfl⟩,q⟩
theorem zsb (hc:X.calm=true):CallR X (.builtin "max") (fun xs H Q=>∃ i j, xs=[.int i, .int j]/\Q (.int (if j > i then j else i)) H):=by
 intro aU s σ H xs us Q I r h;obtain⟨i,j,rfl,q⟩:=h;obtain⟨u,w',rfl,⟨t,rfl⟩,⟨t',rfl⟩⟩:=vals2 r;refine max_two_ints (I.ok.hd hc) fun h' tk k=>⟨_,H,I.kept k,?_,q⟩
 by_cases hj:j > i
 ·rw[if_pos hj,if_pos hj];exact⟨_,rfl⟩
 ·rw[if_neg hj,if_neg hj];exact⟨_,rfl⟩
theorem zlh (hc:X.calm=true):CallR X (.builtin "min") (fun xs H Q=>∃ i j, xs=[.int i, .int j]/\Q (.int (if j < i then j else i)) H):=by
 intro aU s σ H xs us Q I r h;obtain⟨i,j,rfl,q⟩:=h;obtain⟨u,w',rfl,⟨t,rfl⟩,⟨t',rfl⟩⟩:=vals2 r;refine min_two_ints (I.ok.hd hc) fun h' tk k=>⟨_,H,I.kept k,?_,q⟩
 by_cases hj:j < i
 ·rw[if_pos hj,if_pos hj];exact⟨_,rfl⟩
 ·rw[if_neg hj,if_neg hj];exact⟨_,rfl⟩
theorem zhn:CallR X (.type "int") (fun xs H Q=>(∃ i, xs=[.int i]/\Q (.int i) H)\/∃ k, xs=[.bl k]/\Q (.int (if k then 1 else 0)) H):=by
 intro aU s σ H xs us Q I r h;rcases h with⟨i,rfl,q⟩ | ⟨k,rfl,q⟩
 ·obtain⟨u,rfl,t,rfl⟩:=vals1 r;exact call_int_int ⟨.int i,H,I,⟨_,rfl⟩,q⟩
 ·obtain⟨u,rfl,r1⟩:=vals1 r;cases r1;exact call_int_bool ⟨.int (if k then 1 else 0),H,I.tok _,⟨_,rfl⟩,q⟩
end
structure ObjM (h:Heap) (x dx C:Addr) (mA:Str->Option Value):Prop where
 obj:h.get? x=some (W.instObj C dx)
 ns:h.Ns1 dx mA
 ne:dx≠x
theorem zra {h:Heap}{dx:Addr}{mA:Str->Option Value}(n:h.Ns1 dx mA):∃od,h.get? dx=some od/\∀name,W.lookIn name od=some (mA name):=by
 obtain⟨o,es,ep,ho,hd,hk,_,hm⟩:=n;refine⟨o,ho,fun name=>?_⟩;have e:=hm name;unfold nsFind findBy at e;rw[← Array.find?_toList] at e;unfold W.lookIn;rw[hd];dsimp only;split
 ·rename_i y q;rw[q] at e;exact congrArg some e
 ·rename_i q;rw[q] at e;have a:es.toList.any (·.refKey)=false:=by
   rw[List.any_eq_false];intro y hy;obtain⟨z,t,hkey⟩:=hk y (Array.mem_toList_iff.mp hy);simp[DictEntry.refKey,hkey]
  have a':¬ es.toList.any (·.refKey)=true:=by rw[a];exact xfi
  rw[if_neg a'];exact congrArg some e
theorem ObjM.look {h:Heap}{x dx C:Addr}{mA:Str->Option Value}(I:ObjM h x dx C mA):∃od,W.InstAt h x (W.instObj C dx) C (some od)/\∀name,W.lookIn name od=some (mA name) :=
 let ⟨od,ho,hl⟩:=zra I.ns
 ⟨od,⟨I.obj,rfl,rfl,ho⟩,hl⟩
section
variable {prog:Program}{w:World}{A:Around}{E:Value->Shared->Prop}{s:Shared}{K:Fg}{x dx C f:Addr}{mA:Str->Option Value}{name:Str}{v:Value}
end
theorem RelO.some_of {v:V}{o:Option Value}(r:RelO (some v) o):∃u,o=some u/\RelV v u:=by
 cases o with
 | none=>exact(show False from r).elim
 | some u=>exact⟨u,rfl,r⟩
section
variable {P:Program}{w:World}{H H':Hp}{h h':Heap}{a C dx:Addr}{fs fs':List (Str×V)}
theorem zzm (hok:HOk P w H h)(e:H a=some (.ins C dx fs)):∃mA,ObjM h a dx C mA/\(∀f,RelO (fs.lookup f) (mA f))/\PySem.Within mA (fs.map (·.1))/\fs.length<=1000/\H dx=some (.own a):=by
 obtain⟨d,z,ne,ob,mA,n,r,q⟩:=(show ObjOk P w H h a (.ins C dx fs) from hok a _ e)
 exact⟨mA,⟨ob,n,ne⟩,r,q,z,d⟩
end
structure Cls (K:Fg) (C:Addr):Prop where
 pg:W.plainGet K C Str.empty=true
 hd:W.hasDictIn K C=true
 po:W.plainOver K C=true
 sa:W.findIn K (.ref C) "__setattr__"=some (some (.builtin "object.__setattr__"))
theorem Cls.get {K:Fg}{C:Addr}(c:Cls K C)(f:Str):W.plainGet K C f=true:=c.pg
section
variable {X:Cx}{aU:List (Addr×Obj)}{σ:St}{H:Hp}{s:Shared}{a C dx:Addr}{fs:List (Str×V)}{f:Str}{v:V}{A:Around}{E:Value->Shared->Prop}
end
section
variable {X:Cx}{o e value:Expr}{f:Str}{pos pos' tpos:Pos}{ta tv:TE}
end
section
variable {X:Cx}{aU:List (Addr×Obj)}{σ:St}{H:Hp}{s:Shared}{A:Around}{E:Value->Shared->Prop}{Q:Value->Shared->Prop}{c:Value}{b:Bool}
inductive TyOf (K:Fg) (H:Hp):V->Value->Prop where
 | non:TyOf K H .non (.type "NoneType")
 | bl (x:Bool):TyOf K H (.bl x) (.type "bool")
 | int (i:Int):TyOf K H (.int i) (.type "int")
 | str (x:Str):TyOf K H (.str x) (.type "str")
 | flt (x:UInt64):TyOf K H (.flt x) (.type "float")
 | lst {a:Addr} {xs:List V} (e:H a=some (.lst xs)):TyOf K H (.ref a) (.type "list")
 | frz {a:Addr} {o:Obj} {xs:List V} (e:H a=some (.frz o (.lst xs))):TyOf K H (.ref a) (.type "list")
 | tup {a:Addr} {xs:List V} (e:H a=some (.tup xs)):TyOf K H (.ref a) (.type "tuple")
 | dK {a:Addr} {kvs:List (Key×V)} (e:H a=some (.dK kvs)):TyOf K H (.ref a) (.type "dict")
 | dT {a:Addr} {kvs:List (List Key×V)} (e:H a=some (.dT kvs)):TyOf K H (.ref a) (.type "dict")
 | ins {a C dx:Addr} {fs:List (Str×V)} (e:H a=some (.ins C dx fs)) (cl:Cls K C) (ha:W.findIn K (.ref C) "__class__"=some (some (.builtin "object.__class__")))
  (hn:W.specialIn K (.builtin "object.__class__") "__get__"=some (some (.builtin "getset_descriptor.__get__")))(htk:W.takesIn K (.builtin "object.__class__")=some true)
  (hm:W.mroIn K C (.type "object")=some true):TyOf K H (.ref a) (.ref C)
theorem zrh {x:V}{u t:Value}(I:Inv X aU σ H s)(rx:RelV x u)(ty:TyOf X.K H x t)(e:W.kitOne X.K t c=some b)(h:∀tk,Q (.bool b) {s with toks:=tk}) :
  wpAny (model X.prog X.w) A (call (.builtin "isinstance") [u, c]) Q E s:=by
 cases ty with
 | non=>cases(show u=Value.none from rx);exact xee W.kitx_none I.kIn True.intro e (fun z=>nomatch z) h
 | bl y=>cases(show u=Value.bool y from rx);exact xee W.kitx_bool I.kIn True.intro e (fun z=>nomatch z) h
 | int i=>obtain⟨t,q⟩:=(show ∃t,u=Value.int i t from rx);cases q;exact xee W.kitx_int I.kIn True.intro e (fun z=>nomatch z) h
 | str y=>obtain⟨t,q⟩:=(show ∃t,u=Value.str y t from rx);cases q;exact xee W.kitx_str I.kIn True.intro e (fun z=>nomatch z) h
 | flt y=>obtain⟨t,q⟩:=(show ∃t,u=Value.float y t from rx);cases q;exact xee W.kitx_float I.kIn True.intro e (fun z=>nomatch z) h
 | @lst a xs ea =>
  cases(show u=Value.ref a from rx);obtain⟨_,_,n,_,h1⟩:=(show ObjOk X.prog X.w H s.heap a (.lst xs) from I.hok a _ ea)
  exact xee W.kitx_list I.kIn ⟨_,h1,rfl⟩ e (fun z=>nomatch z) h
 | @frz a ob xs ea =>
  cases(show u=Value.ref a from rx);obtain⟨_,_,_,n,_,h1⟩:=(show ObjOk X.prog X.w H s.heap a (.frz ob (.lst xs)) from I.hok a _ ea)
  exact xee W.kitx_list I.kIn ⟨_,h1,rfl⟩ e (fun z=>nomatch z) h
 | @tup a xs ea =>
  cases(show u=Value.ref a from rx);obtain⟨_,_,_,p⟩:=(show ObjOk X.prog X.w H s.heap a (.tup xs) from I.hok a _ ea)
  obtain⟨o,h1,h2,_⟩:=p;exact xee W.kitx_tuple I.kIn ⟨o,h1,h2⟩ e (fun z=>nomatch z) h
 | @dK a kvs ea =>
  cases(show u=Value.ref a from rx);obtain⟨_,_,vs,_,p⟩:=(show ObjOk X.prog X.w H s.heap a (.dK kvs) from I.hok a _ ea)
  obtain⟨o,es,ep,h1,h2,_⟩:=p;exact xee W.kitx_dict I.kIn ⟨o,h1,h2.1⟩ e (fun z=>nomatch z) h
 | @dT a kvs ea =>
  cases(show u=Value.ref a from rx);obtain⟨_,_,xs,_,o,es,ep,h1,h2,_⟩:=(show ObjOk X.prog X.w H s.heap a (.dT kvs) from I.hok a _ ea)
  exact xee W.kitx_dict I.kIn ⟨o,h1,h2.1⟩ e (fun z=>nomatch z) h
 | @ins a C dx fs ea cl ha hn htk hm =>
  cases(show u=Value.ref a from rx);obtain⟨mA,O,_⟩:=zzm I.hok ea;obtain⟨od,J,_⟩:=O.look;exact xee (W.kitx_own (cl.get _) cl.hd ha hn htk hm) I.kIn J e (fun z=>nomatch z) h
end
structure Room (k:Nat) (A:Around):Prop where
 hd:A.handled=none
 dp:A.depth+3 * k+5 < recursionLimit
 un:A.units+16 * k+200 < cLine
theorem Room.mono {j k:Nat}{A:Around}(r:Room k A)(h:j<=k):Room j A:=⟨r.hd,by have:=r.dp;lia,by have:=r.un;lia⟩
theorem Room.deeper {k:Nat}{A:Around}(r:Room (k+1) A)(env:Env):Room k (A.deeper env) :=
 ⟨r.hd,by have:=r.dp;show A.depth+1+3 * k+5 < _;lia,by have:=r.un;show A.units+3+16 * k+200 < _;lia⟩
theorem Room.depth {k:Nat}{A:Around}(r:Room k A):A.depth < recursionLimit:=by have:=r.dp;lia
theorem Room.units {k:Nat}{A:Around}(r:Room k A):A.units+64 < cLine:=by have:=r.un;lia
theorem Room.units0 {k:Nat}{A:Around}(r:Room k A):A.units < cLine:=by have:=r.un;lia
noncomputable def tNil:TA:=fun _ H Q=>Q [] H
noncomputable def tCons (ta:TE) (tr:TA):TA:=fun σ H Q=>ta σ H fun x H1=>tr σ H1 fun xs H2=>Q (x::xs) H2
section
variable {X:Cx}{e:Expr}{es:List Expr}{te:TE}{t:TA}{pos:Pos}
theorem zbdp:PA X [] tNil:=fun _ _ _ _ H Q I h=>Calls.spliced_nil ⟨[],H,I,.nil,h⟩
theorem zyl (ha:PE X e te)(hr:PA X es t)(hs:starEach (e::es) X.env=(false,eval e X.env)::starEach es X.env:=by rfl):PA X (e::es) (tCons te t):=by
 intro pos aU s σ H Q I h;rw[hs];show wpAny _ _ (spliced ((false,eval e X.env)::backTo pos (starEach es X.env))) _ _ s;refine xjr (thn (ha aU s σ H _ I h) fun u s1 hq0=>?_);obtain⟨x,H1,I1,r1,q1⟩:=hq0;exact thn (hr pos aU s1 σ H1 _ I1 q1) fun us s2 ⟨xs,H2,I2,r2,q2⟩=>⟨x::xs,H2,I2,.cons r1 r2,q2⟩
noncomputable def tTup (t:TA):TE:=fun σ H Q=>t σ H fun xs H1=>xs.length<=sizeLine/\∀p,H1 p=none->Q (.ref p) (upd H1 p (.tup xs))
noncomputable def tLst (t:TA):TE:=fun σ H Q=>t σ H fun xs H1=>xs.length<=sizeLine/\∀p,H1 p=none->Q (.ref p) (upd H1 p (.lst xs))
theorem zbdi {x1}(h:PA X es t):PE X (.Tuple es x1 pos) (tTup t):=by
 intro aU s σ H Q I hq;refine wpAny_Tuple_spliced (thn (h pos aU s σ H _ I hq) fun us s1 ⟨xs,H1,I1,r,z,q⟩=>⟨by rw[← r.length];exact z,?_⟩);have hf:H1 s1.heap.objs.size=none:=I1.hok.fresh (xbf _);refine⟨.ref s1.heap.objs.size,upd H1 s1.heap.objs.size (.tup xs),I1.laid (t':=s1.toks) (fun b u e=>xbb _ e) (xbf _) ?_,rfl,q _ hf⟩;exact⟨z,us,r,⟨_,xbm _ rfl,rfl,_,rfl⟩⟩
theorem zyg (h:PA X es t):PE X (.List es pos) (tLst t):=by
 intro aU s σ H Q I hq;refine wpAny_List_spliced (thn (h pos aU s σ H _ I hq) fun us s1 ⟨xs,H1,I1,r,z,q⟩=>⟨by rw[← r.length];exact z,?_⟩);have hf:H1 s1.heap.objs.size=none:=I1.hok.fresh (xbf _);refine⟨.ref s1.heap.objs.size,upd H1 s1.heap.objs.size (.lst xs),I1.laid (t':=s1.toks) (fun b u e=>xbb _ e) (xbf _) ?_,rfl,q _ hf⟩;exact⟨z,us,0,r,xbm _ rfl⟩
end
noncomputable abbrev Sp:=List V->Hp->VK->XK->Prop
noncomputable abbrev CXT:=List Env->Hp->Shared->XK->Value->Shared->Prop
structure Env0 (P:Program) (w:World) (K:Fg) (mg:Str->Option Value) (base:Heap) (A:Around) (outer:List Env) (s:Shared) (H:Hp):Prop where
 frames:A.frames=some outer
 mod:Mod K mg base
 bs:∀b o,base.get? b=some o->s.heap.get? b=some o/\H b=none
 bsz:base.objs.size<=s.heap.objs.size
 funs:s.heap.FunFrames base outer
 frf:∀b∈frs outer,H b=none
 hok:HOk P w H s.heap
 bare:AllBare s.gens
noncomputable def CE (outer:List Env) (P:Program) (w:World) (H:Hp) (s:Shared) (Q:VK) (u:Value) (s':Shared):Prop :=
 ∃v H',s'.os=s.os/\AllBare s'.gens/\Un (frs outer) [] H H' s.heap s'.heap/\HOk P w H' s'.heap/\RelV v u/\Q v H'
noncomputable def CR (CX:CXT) (outer:List Env) (P:Program) (w:World) (H:Hp) (s:Shared) (Q:VK) (E:XK) (r:Result) (s':Shared):Prop :=
 match r with
 | .ok (.ret u)=>CE outer P w H s Q u s'
 | .ok _=>False
 | .error e=>CX outer H s E e s'
structure FnOk (P:Program) (w:World) (K:Fg) (mg:Str->Option Value) (base:Heap) (CX:CXT) (k:Nat) (f:Addr) (fd:FuncData) (ps:List Str) (sp:Sp):Prop where
 len:∀vs H Q E,sp vs H Q E->vs.length=ps.length
 run:∀(A:Around) (outer:List Env) (s:Shared) (H:Hp) (args:Args) (us:List Value) (vs:List V) (Q:VK) (E:XK),Room k A->Env0 P w K mg base A outer s H->BindsTo s fd args (ps.zip us)->Vals vs us->sp vs H Q E ->
  codeAny (model P w) A (.call (.ref f) args) (CR CX outer P w H s Q E) s
section
variable {X:Cx}{aU:List (Addr×Obj)}{σ:St}{H:Hp}{s s':Shared}
theorem Inv.env0 (I:Inv X aU σ H s):Env0 X.prog X.w X.K X.mg X.base X.A X.stack s H :=
 ⟨I.ok.frames,I.ok.mod,I.bs,xbc I.ok.bsz I.sz,I.stack,I.stkFree,I.hok,I.bare⟩
theorem Inv.after {Q:VK}{u:Value}(I:Inv X aU σ H s)(h:CE X.stack X.prog X.w H s Q u s'):EP X aU σ Q u s':=by
 obtain⟨v,H',os,bare,un,hok,r,q⟩:=h;obtain⟨hh,g,d,t,os'⟩:=s';obtain rfl:os'=s.os:=os;exact⟨v,H',I.call (h':=hh) (g':=g) (d':=d) (t':=t) (ch:=[]) un hok bare (fun b z=>absurd z (by simp)),r,q⟩
end
noncomputable def tCall (sp:Sp) (dvs:List V) (E:XK) (t:TA):TE:=fun σ H Q=>t σ H fun vs H1=>sp (vs++dvs) H1 Q E
noncomputable def Binds (K:Fg) (fd:FuncData) (ps:List Str) (ds:List Value):Prop :=
 ∀(s:Shared) (us:List Value),K.In s.heap->(us++ds).length=ps.length->BindsTo s fd ⟨us,[]⟩ (ps.zip (us++ds))
theorem Binds.all {K:Fg}{fd:FuncData}{ps:List Str}(h:∀us:List Value,us.length=ps.length->bindArgs fd ⟨us,[]⟩=pure (ps.zip us)):Binds K fd ps []:=fun s us _ hl=>by
 rw[xef] at hl ⊢;exact .of_eq (h us hl)
noncomputable def Passes (CX:CXT) (X:Cx) (E:XK):Prop:=∀(aU:List (Addr×Obj)) (σ:St) (H:Hp) (s:Shared) (e:Value) (s':Shared),Inv X aU σ H s->CX X.stack H s E e s'->X.xe e s'
section
variable {X:Cx}{CX:CXT}{k:Nat}{f C:Addr}{fd:FuncData}{ps:List Str}{sp:Sp}{dvs:List V}{ds:List Value}{E:XK}{x m:Str}{p pos apos:Pos}{e o:Expr}{es:List Expr}{ta:TE}{t:TA}
theorem zbcu {aU:List (Addr×Obj)}{σ:St}{H:Hp}{s:Shared}{Q:VK}{us:List Value}{vs:List V}(F:FnOk X.prog X.w X.K X.mg X.base CX k f fd ps sp)(hr:Room k X.A)(hb:Binds X.K fd ps ds)(hd:Vals dvs ds)(hx:Passes CX X E)
  (I:Inv X aU σ H s)(r:Vals vs us)(h:sp (vs++dvs) H Q E):wpAny (model X.prog X.w) X.A (call (.ref f) us) (EP X aU σ Q) X.xe s:=by
 have r2:Vals (vs++dvs) (us++ds):=r.append hd;have hl:(us++ds).length=ps.length:=by rw[← r2.length];exact F.len _ _ _ _ h
 refine wpAny_call (codeAny_mono (F.run X.A X.stack s H ⟨us,[]⟩ (us++ds) (vs++dvs) Q E hr I.env0 (hb s us I.kIn hl) r2 h) fun r s' hq=>?_);cases r with
 | error e=>exact hx aU σ H s e s' I hq
 | ok fl =>
  cases fl with
  | ret u=>exact I.after hq
  | next=>exact False.elim hq
  | brk=>exact False.elim hq
  | cont=>exact False.elim hq
theorem zyk (F:FnOk X.prog X.w X.K X.mg X.base CX k f fd ps sp)(hr:Room k X.A)(hg:Gl X x)(hm:X.mg x=some (.ref f))(hk:W.keepIn X.K (.ref f)=true)(hb:Binds X.K fd ps ds)(hd:Vals dvs ds)(hx:Passes CX X E)
  (ha:PA X (e::es) t)(hdb:(x==("__debug__" : Str))=false:=by decide)(he:starEach (e::es) X.env=(false, eval e X.env)::starEach es X.env:=by rfl)(hpl:(backTo pos (starEach es X.env)).any (·.1)=false:=by rfl) :
  PE X (.Call (.Name x p) (e::es) [] pos) (tCall sp dvs E t):=by
 intro aU s σ H Q I h;refine xkc (zsp I hg hm ?_ hdb);refine W.callWith_K (h₀:=X.base) I.ok.mod.kin hk (thn (ha pos aU s σ H _ I h) fun us s1 ⟨vs,H1,I1,r,q⟩=>⟨I1.kIn,?_⟩) he hpl;exact zbcu F hr hb hd hx I1 r q
end
section
variable {X:Cx}{CX:CXT}{k:Nat}{f C:Addr}{fd:FuncData}{ps ks:List Str}{sp:Sp}{E:XK}{x m:Str}{p pos apos kpos:Pos}{e o:Expr}{es:List Expr}{kws:List Keyword}{te ta:TE}{t tk:TA}{nm:Option Str}
variable {g:List Value->List Value->List Value}{gV:List V->List V->List V}
end
structure FnScope (N P:List Str) (sc:Scope):Prop where
 kind:sc.kind=.function
 co:sc.isCoroutine=false
 gen:sc.isGenerator=false
 nd:N.Nodup
 pre:N.take P.length=P
 par:∀x∈P,sc.names.lookup x=some .local\/sc.names.lookup x=some .cell
 nofree:∀y∈sc.names,y.2≠.free
theorem zlj {kindOf:Str->Option NameKind}{x:Str}:∀{binds:List (Str×Value)} {m:Str->Option Value},(∀v,(x,v)∉binds)->bindL kindOf binds m x=m x
 | [],_,_=>rfl
 | (n,v)::r,m,h=>by
  unfold bindL;rw[zlj fun w hw=>h w (xca _ hw)];split
  ·have:x≠n:=by rintro rfl;exact h v xbz
   simp[this]
  ·rfl
theorem zll {kindOf:Str->Option NameKind}{x:Str}:∀{binds:List (Str×Value)} {m:Str->Option Value},(∀v,(x,v)∉binds)->bindC kindOf binds m x=m x
 | [],_,_=>rfl
 | (n,v)::r,m,h=>by
  unfold bindC;rw[zll fun w hw=>h w (xca _ hw)];split
  ·rfl
  ·have:x≠n:=by rintro rfl;exact h v xbz
   simp[this]
theorem zlk {kindOf:Str->Option NameKind}{x:Str}{v:Value}:∀{P:List Str} {vs:List Value} {i:Nat} {m:Str->Option Value},P.Nodup->P[i]?=some x->vs[i]?=some v->kindOf x=some .local ->
  bindL kindOf (P.zip vs) m x=some v
 | [],_,_,_,_,h,_,_=>by simp at h
 | _::_,[],_,_,_,_,h,_=>by simp at h
 | p::P,w::vs,0,m,nd,h1,h2,hk=>by
  simp at h1 h2;subst h1;subst h2
  show bindL kindOf ((p,w)::P.zip vs) m p=_;unfold bindL;rw[zlj fun v hv=>(xjf.mp nd).1 (xkr hv).1,if_pos hk];simp
 | p::P,w::vs,i+1,m,nd,h1,h2,hk=>by
  show bindL kindOf ((p,w)::P.zip vs) m x=_;unfold bindL;exact zlk (i:=i) (xjf.mp nd).2 (by simpa using h1) (by simpa using h2) hk
theorem zlm {kindOf:Str->Option NameKind}{x:Str}{v:Value}:∀{P:List Str} {vs:List Value} {i:Nat} {m:Str->Option Value},P.Nodup->P[i]?=some x->vs[i]?=some v->kindOf x≠some .local ->
  bindC kindOf (P.zip vs) m x=some v
 | [],_,_,_,_,h,_,_=>by simp at h
 | _::_,[],_,_,_,_,h,_=>by simp at h
 | p::P,w::vs,0,m,nd,h1,h2,hk=>by
  simp at h1 h2;subst h1;subst h2
  show bindC kindOf ((p,w)::P.zip vs) m p=_;unfold bindC;rw[zll fun v hv=>(xjf.mp nd).1 (xkr hv).1,if_neg hk];simp
 | p::P,w::vs,i+1,m,nd,h1,h2,hk=>by
  show bindC kindOf ((p,w)::P.zip vs) m x=_;unfold bindC;exact zlm (i:=i) (xjf.mp nd).2 (by simpa using h1) (by simpa using h2) hk
noncomputable def start (N:List Str) (vs:List V):St:=vs.map some++List.replicate (N.length - vs.length) none
noncomputable def cxOf (CX:CXT) (P:Program) (w:World) (K:Fg) (mg:Str->Option Value) (base:Heap) (N:List Str) (qual:Str) (scope:Scope) (f:Addr) (cd:Value) (A:Around) (outer:List Env) (s:Shared) (H:Hp) (E:XK):Cx where
 prog:=P
 w:=w
 K:=K
 mg:=mg
 base:=base
 A:=A.deeper (envOfC qual scope s.heap.objs.size f cd)
 N:=N
 s₀:=s
 H₀:=H
 env:=envOfC qual scope s.heap.objs.size f cd
 outer:=outer
 stack:=envOfC qual scope s.heap.objs.size f cd::outer
 ex:=[]
 calm:=true
 fn:=fun _=>true
 pn:=[]
 xe:=fun e s'=>wpAny (model P w) (A.deeper (envOfC qual scope s.heap.objs.size f cd)) (leaving (envOfC qual scope s.heap.objs.size f cd) e) (fun _ s''=>CX outer H s E e s'') (fun e' s''=>CX outer H s E e' s'') s'
theorem zpc {sc:Scope}{n:Nat}{x:Str}(h:sc.names.lookup x=some .cell):∃c,(cellsFrom n sc.names []).lookup x=some c:=by
 have q:=W.cellsFrom_some sc.names n [] (.inl h);exact Option.isSome_iff_exists.mp q
theorem zri {CX:CXT}{P:Program}{w:World}{K:Fg}{mg:Str->Option Value}{base:Heap}{N ps:List Str}{qual:Str}{scope:Scope}{f:Addr}{cd:Value}{A:Around}{outer:List Env}{s s1:Shared}{H:Hp}{E:XK}{us:List Value}{vs:List V}
  (S:FnScope N ps scope)(hd:A.handled=none)(e0:Env0 P w K mg base A outer s H)(hl:vs.length=ps.length)(r:Vals vs us)
  (x:InCallC s s.heap.objs.size (bindL (envOfC qual scope s.heap.objs.size f cd).kindOf (ps.zip us) fun _=>none) (cellsFrom (s.heap.objs.size+1) scope.names []) (bindC (envOfC qual scope s.heap.objs.size f cd).kindOf (ps.zip us) fun _=>none) s1) :
  Inv (cxOf CX P w K mg base N qual scope f cd A outer s H E) [] (start N vs) H s1:=by
 have hpl:ps.length<=N.length:=by have:=congrArg List.length S.pre;rw[xdl] at this;lia
 obtain⟨h1,tk,rfl,hk⟩:=x.done;have noA:∀b:Addr,b∉(cxOf CX P w K mg base N qual scope f cd A outer s H E).ex:=fun b z=>absurd (show b∈([]:List Addr) from z) (by simp)
 refine⟨⟨e0.mod,S.kind,rfl,rfl,xbf _,fun y z c h1 h2=>?_,fun y hy=>?_,fun y c _ h=>?_,fun _=>hd,Around.frames_deeper e0.frames,.inr ⟨rfl,rfl⟩,fun b z=>absurd z (noA b),e0.bs,e0.bsz,fun b _ _=>noA b,fun b z=>absurd z (noA b),e0.funs,e0.frf⟩,
  rfl,e0.bare,Un.kept hk,⟨_,x.toInCall.ns,fun i y v h1 h2 h3=>?_⟩,fun y c h=>⟨_,x.cell y c h⟩,e0.hok.fresh (xbf _),fun y c h=>?_,fun p hp=>absurd (show p∈([]:List (Addr×Obj)) from hp) (by simp),e0.hok.kept hk,?_,Hnd.none hd⟩
 ·exact name_of_addr x.apart (xfv h1) (xfv h2)
 ·have hy:scope.names.lookup y=some .cell\/scope.names.lookup y=some .free:=hy;rcases hy with hy | hy
  ·exact zpc hy
  ·exact absurd rfl (S.nofree _ (xfv hy))
 ·exact xbq (x.above y c (xfv h))
 ·have hi:i < vs.length:=by
   unfold start at h2;by_cases hi:i < vs.length
   ·exact hi
   ·rw[xco (by simpa using hi)] at h2;rw[xib] at h2;split at h2<;>cases h2
  have ha:vs[i]?=some v:=by
   unfold start at h2;rw[xbv (by simpa using hi),xcm] at h2;cases e:vs[i]? with
   | none=>rw[e] at h2;cases h2
   | some a=>rw[e] at h2;cases h2;rfl
  obtain⟨u,hu,rv⟩:=r.get ha;have hp:ps[i]?=some y:=by
   rw[← S.pre,List.getElem?_take_of_lt (by lia)];exact h1
  have ndP:ps.Nodup:=by rw[← S.pre];exact S.nd.sublist (List.take_sublist _ _)
  refine⟨u,rv,?_⟩;rcases S.par y (xcc hp) with k | k
  ·exact .inl ⟨k,zlk ndP hp hu k⟩
  ·obtain⟨c,e⟩:=zpc (n:=s.heap.objs.size+1) k;refine .inr ⟨.inl k,c,e,?_⟩;have q:=x.cell y c e;rw[zlm ndP hp hu (by show scope.names.lookup y≠_;rw[k];decide)] at q;exact q
 ·exact e0.hok.fresh (xbq (x.above y c (xfv h)))
 ·unfold start;show _=N.length;rw[xbp,xbd,xgg];lia
theorem zbil {CX:CXT}{P:Program}{w:World}{K:Fg}{mg:Str->Option Value}{base:Heap}{k:Nat}{f:Addr}{name qual:Str}{params:Arguments}{body:List Stmt}{scope:Scope}{dV kV doc pm cdv ct oc:Value}{an od:Option Addr}
  {osl:Array (Option Value)}{N ps:List Str}{sp:Sp}(lk:K.lookup f=some ⟨oc,od,.func (W.fnOf name qual params body scope dV kV doc pm an cdv ct),osl⟩)(hcd:W.codeIn K cdv qual=true)(S:FnScope N ps scope)
  (len:∀vs H Q E,sp vs H Q E->vs.length=ps.length)
  (hbody:∀(A:Around) (outer:List Env) (s:Shared) (H:Hp) (vs:List V) (Q:VK) (E:XK),Room k (A.deeper (envOfC qual scope s.heap.objs.size f cdv))->sp vs H Q E ->
   ∃t,PSs (cxOf CX P w K mg base N qual scope f cdv A outer s H E) body t/\t {nx:=fun _ H'=>Q .non H',rt:=Q} (start N vs) H) :
  FnOk P w K mg base CX (k+1) f (W.fnOf name qual params body scope dV kV doc pm an cdv ct) ps sp:=by
 refine⟨len,fun A outer s H args us vs Q E hr e0 hb r hsp=>?_⟩;have hl:=len _ _ _ _ hsp;have KX:K.In s.heap:=e0.mod.kin.keeps fun b o e=>(e0.bs b o e).1
 have lim:s.heap.NoLimit:=e0.mod.nolimit.keeps fun b o e=>(e0.bs b o e).1
 have hkind:∀y∈ps.zip us,scope.names.lookup y.1=some .local\/(scope.names.lookup y.1=some .cell/\((cellsFrom (s.heap.objs.size+1) scope.names []).lookup y.1).isSome=true):=fun hq0 hy=>by
  obtain⟨n,v⟩:=hq0;rcases S.par n (xkr hy).1 with q | q
  ·exact .inl q
  ·exact .inr ⟨q,W.cellsFrom_some _ _ _ (.inl q)⟩
 refine codeAny_call_function hr.depth (KX _ _ lk) rfl S.co S.gen rfl (W.codeRec_of KX hcd) (hb _ _ _ _ ?_);refine wpAny_newFunctionEnv_cells S.kind hkind fun env he s1 x=>?_
 subst he;refine⟨lim.keeps x.toInCall.keep,codeAny_func ?_⟩;obtain⟨t,ht,hq⟩:=hbody A outer s H vs Q E (hr.deeper _) hsp;have I:Inv (cxOf CX P w K mg base N qual scope f cdv A outer s H E) [] (start N vs) H s1:=zri S hr.hd e0 hl r x;refine xea (ht [] s1 (start N vs) H _ I hq) (fun fl s' hs=>?_) fun e s' hs=>hs
 have fin:∀{σ':St} {H':Hp} {v:V} {u:Value},Inv (cxOf CX P w K mg base N qual scope f cdv A outer s H E) [] σ' H' s'->RelV v u->Q v H'->CE outer P w H s Q u s' :=
  fun {σ' H' v u} J rv q=>⟨v,H',J.os,J.bare,J.base,J.hok,rv,q⟩
 cases fl with
 | ret u =>
  obtain⟨v,σ',H',J,rv,q⟩:=hs;exact fin J rv q
 | next =>
  obtain⟨σ',H',J,q⟩:=hs;exact fin (v:=V.non) (u:=Value.none) J rfl q
 | brk =>
  obtain⟨_,_,_,q⟩:=hs;exact False.elim q
 | cont =>
  obtain⟨_,_,_,q⟩:=hs;exact False.elim q
section
variable {X:Cx}{x:Str}{p pos:Pos}{e:Expr}{es:List Expr}{t:TA}{id T:String}{r:List V->Hp->VK->Prop}
noncomputable def tCB (r:List V->Hp->VK->Prop) (t:TA):TE:=fun σ H Q=>t σ H fun vs H1=>r vs H1 Q
theorem zus (hc:CallR X (.builtin id) r)(hg:Gl X x)(hm:X.mg x=none)(hv:bootBuiltins x=some (.builtin id))(ha:PA X (e::es) t)(hn:x≠"__name__":=by decide)(hdb:(x==("__debug__" : Str))=false:=by decide)
  (he:starEach (e::es) X.env=(false,eval e X.env)::starEach es X.env:=by rfl)(hpl:(backTo pos (starEach es X.env)).any (·.1)=false:=by rfl):PE X (.Call (.Name x p) (e::es) [] pos) (tCB r t):=by
 intro aU s σ H Q I h;refine xkc (zmm I hg hm hv ?_ hn hdb);exact PyProof.Rows.callWith_builtin1 (thn (ha pos aU s σ H _ I h) fun us s1 ⟨vs,H1,I1,r1,q1⟩=>hc aU s1 σ H1 vs us Q I1 r1 q1) he hpl
theorem zqo (hc:CallR X (.type T) r)(hg:Gl X x)(hm:X.mg x=none)(hv:bootBuiltins x=some (.type T))(ha:PA X (e::es) t)(hn:x≠"__name__":=by decide)(hdb:(x==("__debug__" : Str))=false:=by decide)
  (he:starEach (e::es) X.env=(false,eval e X.env)::starEach es X.env:=by rfl)(hpl:(backTo pos (starEach es X.env)).any (·.1)=false:=by rfl):PE X (.Call (.Name x p) (e::es) [] pos) (tCB r t):=by
 intro aU s σ H Q I h;refine xkc (zmm I hg hm hv ?_ hn hdb);exact xgc (thn (ha pos aU s σ H _ I h) fun us s1 ⟨vs,H1,I1,r1,q1⟩=>hc aU s1 σ H1 vs us Q I1 r1 q1) he hpl
end
end L2
namespace HT
open PySem PyProof.Rows
noncomputable def lexLt:List Int->List Int->Bool
 | [],[]=>false
 | [],_::_=>true
 | _::_,[]=>false
 | x::xs,y::ys=>if x=y then lexLt xs ys else decide (x < y)
theorem zcq (x y:Int)(xs ys:List Int):lexLt (x::xs) (y::ys)=if x=y then lexLt xs ys else decide (x < y):=rfl
theorem zdc:lexLt [] []=false:=rfl
theorem zca (y:Int)(ys:List Int):lexLt [] (y::ys)=true:=rfl
theorem zcs (x:Int)(xs:List Int):lexLt (x::xs) []=false:=rfl
theorem zvl (A:Around)(s:Shared)(a:Int)(t:Tok)(c:Int)(u:Tok):∃e,SeqAt.EqAt A s (.int a t) (.int c u) e/\(e=true↔a=c) :=
 ⟨(a==c),SeqAt.EqAt.int_int a t c u,by simp⟩
theorem zud (A:Around)(s:Shared)(a:Int)(t:Tok)(c:Int)(u:Tok)(prog:Program)(w:World)(E:Value->Shared->Prop)(Q:Value->Shared->Prop)(h:Q (.bool (decide (a < c))) s) :
  wpAny (model prog w) A (richCompare .Lt (.int a t) (.int c u)) Q E s :=
 (PyProof.Rows.lt_int h:wpAny (model prog w) A (compareOp .Lt (.int a t) (.int c u)) Q E s)
section
open PySem.SeqAt
open PySem.AutoSeq1 (wpAny_loadPart')
open PySem.MeetsSeq PySem.MeetsSeq2 PySem.MeetsSeq3
theorem zep (l b:Addr)(items items2:Array Value)(n n2:Nat)(dd dd2:Option Addr)(sl sl2:Array (Option Value))(ns ms:List Int)(hi:IntsAre items.toList ns)(hj:IntsAre items2.toList ms) :
  Meets (Builtin.«tuple.__lt__» ⟨[.ref l,.ref b],[]⟩)
   (fun _ R s=>s.heap.get? l=some { cls:=.type "tuple", dict:=dd, data:=.seq items n, slots:=sl }/\s.heap.get? b=some { cls:=.type "tuple", dict:=dd2, data:=.seq items2 n2, slots:=sl2 } /\
    R (.ok (.ret (.bool (lexLt ns ms)))) s) :=
 .of_wp fun prog w A R s h=>by
  obtain⟨hp,g,d,tk,os⟩:=s;obtain⟨hl,hb,h⟩:=h
  have f2:=AutoSeq1.sub_tuple_tuple;have z1:items.size=ns.length:=by rw[← hi.length];simp
  have z2:items2.size=ms.length:=by rw[← hj.length];simp
  wp_walk using wpAny_loadPart' hl,wpAny_loadPart' hb,wpAny_forIn_list _ (fun rest b s'=>b.1=none/\s'=⟨hp,g,d,tk,os⟩/\∃(vs ws:List Value) (ns' ms':List Int),rest=vs.zip ws /\
   IntsAre vs ns'/\IntsAre ws ms'/\ns'.length+items2.size=ms'.length+items.size/\R (.ok (.ret (.bool (lexLt ns' ms')))) ⟨hp,g,d,tk,os⟩) _
  case turn =>
   rintro⟨y,x⟩ rest b s' ⟨hb',rfl,vs,ws,ns',ms',hz,hvi,hwi,hlen,hR⟩;cases hvi with
   | nil=>rw[List.zip_nil_left] at hz;cases hz
   | cons a t hvi' =>
    cases hwi with
    | nil=>rw[List.zip_nil_right] at hz;cases hz
    | cons c u hwi' =>
     rw[xjs] at hz;injection hz with hyx hrest
     injection hyx with hy hx
     subst hy hx;rw[zcq] at hR;simp only[xbu] at hlen;obtain⟨e,he,hiff⟩:=zvl A.in1 ⟨hp,g,d,tk,os⟩ a t c u;refine xba (he prog w _ _ ?_);cases e with
     | true =>
      rw[if_pos (hiff.mp rfl)] at hR
      wp_walk
      exact⟨rfl,rfl,_,_,_,_,hrest,hvi',hwi',by lia,hR⟩
     | false =>
      rw[if_neg (fun q=>absurd (hiff.mpr q) xfi)] at hR;have hri:=zud A.in1 ⟨hp,g,d,tk,os⟩ a t c u prog w
      wp_walk using hri
      exact⟨_,rfl,by simpa using hR⟩
  case fin =>
   rintro⟨b1,b2⟩ s' ⟨hb',rfl,vs,ws,ns',ms',hz,hvi,hwi,hlen,hR⟩;simp only at hb';subst hb';have hv:lexLt ns' ms'=decide (items.size < items2.size):=by
    cases hvi with
    | nil =>
     cases hwi with
     | nil =>
      simp only[xjg] at hlen;rw[zdc];exact(xbt (by lia)).symm
     | cons c u hw =>
      simp only[xjg,xbu] at hlen;rw[zca];exact(xce (by lia)).symm
    | cons a t hv =>
     cases hwi with
     | nil =>
      simp only[xjg,xbu] at hlen;rw[zcs];exact(xbt (by lia)).symm
     | cons c u hw =>
      rw[xjs] at hz;cases hz
   rw[hv] at hR
   wp_walk
   exact⟨_,rfl,by simpa [Builtin.Tuple.tupleCompareSizes] using hR⟩
  case h =>
   exact⟨rfl,rfl,items.toList,items2.toList,ns,ms,rfl,hi,hj,by lia,h⟩
end
section
variable {prog:Program}{w:World}{A:Around}{E:Value->Shared->Prop}{s:Shared}
theorem zii {l b:Addr}{items items2:Array Value}{ns ms:List Int}{Q:Value->Shared->Prop}(hl:IsTup s.heap l items)(hb:IsTup s.heap b items2)(hi:IntsAre items.toList ns)(hj:IntsAre items2.toList ms)
  (hu:A.units < cLine)(h:Q (.bool (lexLt ns ms)) s):wpAny (model prog w) A (compareOp .Lt (.ref l) (.ref b)) Q E s:=by
 obtain⟨⟨cls,dd,data,sl⟩,ho,hc,n,hd⟩:=id hl;obtain⟨⟨cls2,dd2,data2,sl2⟩,ho2,hc2,n2,hd2⟩:=id hb;simp only at hc hd hc2 hd2;subst hc hd hc2 hd2;exact richCompare_meets_room (op:=.Lt) ⟨_,ho,rfl⟩ ⟨_,ho2,rfl⟩ xiy F.entry_tuple_lt (F.args_tuple_lt_2 _ _) (zep l b items items2 n n2 dd dd2 sl sl2 ns ms hi hj)
  ⟨ho,ho2,show Value.bool (lexLt ns ms)≠Value.notImplemented/\Q (.bool (lexLt ns ms)) s from⟨(fun x=>nomatch x),h⟩⟩ hu
theorem zbbh {t b:Addr}{vs ws:List Value}{Q:Value->Shared->Prop}(ht:IsTup s.heap t vs.toArray)(hb:IsTup s.heap b ws.toArray)(hv:vs≠[])
  (h1:ws=[]->Q (.ref t) s)(h2:ws≠[]->Q (.ref s.heap.objs.size) { s with heap:=s.heap.push { cls:=.type "tuple", data:=.seq (vs++ws).toArray } })
  (hsz:vs.length+ws.length<=sizeLine):wpAny (model prog w) A (binaryOp .Add (.ref t) (.ref b)) Q E s:=by
 obtain⟨⟨cls,dd,data,sl⟩,ho,hc,n,hd⟩:=id ht;obtain⟨⟨cls2,dd2,data2,sl2⟩,ho2,hc2,n2,hd2⟩:=id hb;simp only at hc hd hc2 hd2;subst hc hd hc2 hd2;have e:vs.toArray++ws.toArray=(vs++ws).toArray:=by simp
 by_cases hw:ws=[]
 ·exact concat_meets ⟨_,ho,rfl⟩ ⟨_,ho2,rfl⟩ noFill_tuple_add seq_tuple_add xil xic (xhv _ _)
   (tuple_addW1 t b vs.toArray ws.toArray n n2 dd dd2 sl sl2 (by simpa using hv) (by simp[hw])) ⟨ho,ho2,h1 hw⟩
 ·refine concat_meets ⟨_,ho,rfl⟩ ⟨_,ho2,rfl⟩ noFill_tuple_add seq_tuple_add xil xic (xhv _ _)
   (tuple_addW2 t b vs.toArray ws.toArray n n2 dd dd2 sl sl2 (by simpa using hv) (by simpa using hw) (by rw[xbo,xbo];exact hsz)) ⟨ho,ho2,?_⟩
  rw[e];exact h2 hw
noncomputable def sIx (n d:Nat):Option Int->Nat
 | none=>d
 | some v=>if v < 0 then(v+(n:Int)).toNat else min v.toNat n
theorem zua (n d:Nat):sIx n d none=d:=rfl
theorem zxj (n d k:Nat):sIx n d (some (k:Int))=min k n:=by
 show(if(k:Int) < 0 then((k:Int)+(n:Int)).toNat else min (k:Int).toNat n)=min k n;rw[if_neg (by lia),xen]
theorem zbcs (n d:Nat)(hd:d<=n)(o:Option Int):sIx n d o<=n:=by
 cases o with
 | none=>exact hd
 | some v =>
  show(if v < 0 then(v+(n:Int)).toNat else min v.toNat n)<=n;by_cases hv:v < 0
  ·rw[if_pos hv];lia
  ·rw[if_neg hv];exact xiq _ _
theorem ztg (v:Int)(n d:Nat):(if v < 0 then max (v+(n:Int)) 0 else min v (n:Int))=((sIx n d (some v):Nat):Int):=by
 show(if v < 0 then max (v+(n:Int)) 0 else min v (n:Int))=(((if v < 0 then(v+(n:Int)).toNat else min v.toNat n):Nat):Int)
 by_cases hv:v < 0
 ·simp only[if_pos hv];lia
 ·simp only[if_neg hv];lia
theorem zpo (lo hi:Option Int)(n:Nat):Builtin.Slice.sliceAdjust lo hi 1 (n:Int)=(((sIx n 0 lo:Nat):Int),((sIx n n hi:Nat):Int)):=by
 have h1:¬ ((1:Int) < 0):=by lia
 unfold Builtin.Slice.sliceAdjust;simp only[h1,xfq];refine Prod.ext ?_ ?_
 ·cases lo with
  | none=>rfl
  | some v=>exact ztg v n 0
 ·cases hi with
  | none=>rfl
  | some v=>exact ztg v n n
theorem znq (i j:Nat):Builtin.Slice.slicePlaces (i:Int) (j:Int) 1=j - i:=by
 unfold Builtin.Slice.slicePlaces;have h1:(1:Int) > 0:=by lia
 simp only[h1,xew,Int.ediv_one];split<;>lia
theorem zhx {v:Value}{o:Option Int}{Q:Option Int->Shared->Prop}(p:IsPart v o)(h:Q o s):wpAny (model prog w) A (Builtin.Slice.slicePartIndex v) Q E s:=by
 cases p with
 | none=>exact slicePart_none h
 | int i t=>exact slicePart_int h
theorem zdb {sl:Addr}{vl vu:Value}{lo hi:Option Int}{n:Nat}{Q:Int×Int×Nat->Shared->Prop}(hs:s.heap.IsSliceOf sl vl vu .none)(pl:IsPart vl lo)(pu:IsPart vu hi)
  (h:Q (((sIx n 0 lo:Nat):Int),1,sIx n n hi - sIx n 0 lo) s):wpAny (model prog w) A (Builtin.Slice.sliceApplied (.ref sl) (pure (n:Int))) Q E s:=by
 obtain⟨os,hos,hcs,hds⟩:=id hs;unfold Builtin.Slice.sliceApplied Builtin.Slice.sliceFields;refine xba (xba (xeh hos hds (x:=vl) rfl (xba (xeh hos hds (x:=vu) rfl (xba (xeh hos hds (x:=.none) rfl (xbe ?_)))))));refine xba (slicePart_none ?_);show wpAny _ _ (if((1:Int)==0)=true then _ else _) _ _ s;rw[if_neg (by decide)];refine xba (zhx pl (xba (zhx pu (xba (xbe ?_)))));show wpAny _ _ (match Builtin.Slice.sliceAdjust lo hi 1 (n:Int) with | (lo,hi)=>pure (lo,(1:Int),Builtin.Slice.slicePlaces lo hi 1)) _ _ s;rw[zpo lo hi n];show wpAny _ _ (pure (((sIx n 0 lo:Nat):Int),(1:Int),Builtin.Slice.slicePlaces ((sIx n 0 lo:Nat):Int) ((sIx n n hi:Nat):Int) 1)) _ _ s;rw[znq];exact xbe h
theorem zul (xs:Array Value)(i k:Nat):((List.range k).filterMap fun(m:Nat)=>xs[((i:Int)+(m:Int) * 1).toNat]?).toArray=((xs.toList.drop i).take k).toArray:=by
 have e:(fun(m:Nat)=>xs[((i:Int)+(m:Int) * 1).toNat]?)=fun m=>xs[i+m]?:=by
  funext m
  have:((i:Int)+(m:Int) * 1).toNat=i+m:=by lia
  rw[this]
 rw[e];have:=pick_run xs i k;rw[List.filterMap_map] at this;have e2:((fun x=>xs[x]?) ∘ fun x=>i+x)=fun m=>xs[i+m]?:=rfl
 rw[e2] at this;rw[this]
theorem zev {t sl:Addr}{items:Array Value}{vl vu:Value}{lo hi:Option Int}{Q:Value->Shared->Prop}(ht:IsTup s.heap t items)(hs:s.heap.IsSliceOf sl vl vu .none)(pl:IsPart vl lo)(pu:IsPart vu hi)
  (hw:¬ (sIx items.size 0 lo=0/\sIx items.size items.size hi=items.size))
  (h:Q (.ref s.heap.objs.size) { s with heap:=s.heap.push { cls:=.type "tuple", data:=.seq ((items.toList.drop (sIx items.size 0 lo)).take (sIx items.size items.size hi - sIx items.size 0 lo)).toArray } })
  (hsz:items.size<=sizeLine):wpAny (model prog w) A (getItem (.ref t) (.ref sl)) Q E s:=by
 have htake:sizeOk (.seq ((items.toList.drop (sIx items.size 0 lo)).take (sIx items.size items.size hi - sIx items.size 0 lo)).toArray):=by
  show((items.toList.drop (sIx items.size 0 lo)).take (sIx items.size items.size hi - sIx items.size 0 lo)).toArray.size<=sizeLine;rw[xbo,xdl,xde,xcb];lia
 have hj:sIx items.size items.size hi<=items.size:=zbcs _ _ (xbf _) hi;obtain⟨os,hos,hcs,hds⟩:=id hs;have hTs:s.TypeIs (.ref sl) "slice":=⟨os, hos, hcs⟩
 unfold getItem
 try with_reducible refine xft ?_
 first | refine xba (xbe ?_) | skip
 refine xba (wpAny_sequenceKey ht.typeIs (by decide) ?_)
 refine xba (wpAny_callSpecial?_slot (name:=Str.ofString "__getitem__") ht.typeIs xgp
  (xdy xgp ht.typeIs entry_tuple_getitem ?_ (args_tuple_getitem _ _)))
 show wpAny _ _ (Builtin.Tuple.tupleItemsOf (.ref t) >>= _) _ _ s;refine xba (tupleItemsOf_ ht ?_);refine xba (wpAny_typeOf hTs ?_);rw[if_pos (by decide)];refine xba (zdb hs pl pu ?_);have hno:¬ ((((sIx items.size 0 lo:Nat):Int)==0&&(1:Int)==1&&(sIx items.size items.size hi - sIx items.size 0 lo)==items.size)=true):=by
  intro q;rw[xdj,xdj] at q;have q1:((sIx items.size 0 lo:Nat):Int)=0:=eq_of_beq q.1.1;have q2:sIx items.size items.size hi - sIx items.size 0 lo=items.size:=eq_of_beq q.2;exact hw ⟨by lia,by lia⟩
 show wpAny _ _ (if(((sIx items.size 0 lo:Nat):Int)==0&&(1:Int)==1&&(sIx items.size items.size hi - sIx items.size 0 lo)==items.size)=true then _ else _) _ _ s;rw[if_neg hno,zul]
 first
  | exact xba (m:=Builtin.Tuple.tupleExact _) (xeb (xbe ⟨_,rfl,xbe h⟩) htake)
  | exact xba (m:=Builtin.Tuple.tupleExact _) (xeb (xba (xbe (xbe ⟨_,rfl,xbe h⟩))) htake)
  | exact xba (xba (m:=Builtin.Tuple.tupleExact _) (xeb (xbe (xbe ⟨_,rfl,xbe h⟩)) htake))
  | exact xba (xba (m:=Builtin.Tuple.tupleExact _) (xeb (xbe ⟨_,rfl,xbe h⟩) htake))
end
end HT
namespace L2
open PySem PySem.Spec PyProof.Rows
noncomputable abbrev TO:=St->Hp->(Option Int->Hp->Prop)->Prop
noncomputable def PO (X:Cx) (e:Option Expr) (t:TO):Prop :=
 ∀(aU:List (Addr×Obj)) (s:Shared) (σ:St) (H:Hp) (Q:Option Int->Hp->Prop),Inv X aU σ H s->t σ H Q ->
  wpAny (model X.prog X.w) X.A (evalPart e X.env) (fun u s'=>∃o H',Inv X aU σ H' s'/\IsPart u o/\Q o H') X.xe s
noncomputable def tNoPart:TO:=fun _ H Q=>Q none H
noncomputable def tPart (t:TE):TO:=fun σ H Q=>t σ H fun x H1=>∃i,x=.int i/\Q (some i) H1
theorem zdy {ns:List Int}:∀{us:List Value},Vals (ns.map V.int) us->IntsAre us ns:=by
 induction ns with
 | nil=>intro us r;rw[xkn] at r;cases r;exact .nil
 | cons n ns ih =>
  intro us r;rw[xbx] at r;cases r with
  | cons r1 r2 =>
   obtain⟨t,e⟩:=r1;subst e;exact .cons n t (ih r2)
section
variable {X:Cx}{e:Expr}{te:TE}{lo hi:Option Expr}{tl th:TO}{pos p2:Pos}
theorem zxw:PO X none tNoPart:=by
 intro aU s σ H Q I h;rw[evalPart_none];exact xbe ⟨none,H,I,.none,h⟩
theorem zxv (h:PE X e te):PO X (some e) (tPart te):=by
 intro aU s σ H Q I hw;rw[evalPart_some];refine thn (h aU s σ H _ I hw) fun u s1 hq0=>?_
 obtain⟨x,H1,I1,r1,q1⟩:=hq0;obtain⟨i,rfl,q⟩:=q1;obtain⟨t,rfl⟩:=r1;exact⟨some i,H1,I1,.int i t,q⟩
noncomputable def SlR (X:Cx) (r:V->Option Int->Option Int->Hp->VK->Prop):Prop :=
 ∀(aU:List (Addr×Obj)) (s:Shared) (σ:St) (H:Hp) (x:V) (v vl vu:Value) (lo hi:Option Int) (sl:Addr) (Q:VK),Inv X aU σ H s->RelV x v->s.heap.IsSliceOf sl vl vu .none->IsPart vl lo->IsPart vu hi->r x lo hi H Q ->
  ∃ T id, typeLookup (.type T) "__getitem__"=pure (some (.builtin id))/\s.TypeIs v T/\wpAny (model X.prog X.w) X.A (getItem v (.ref sl)) (EP X aU σ Q) X.xe s
theorem SlR.or {r r':V->Option Int->Option Int->Hp->VK->Prop}(h:SlR X r)(h':SlR X r'):SlR X (fun x lo hi H Q=>r x lo hi H Q\/r' x lo hi H Q):=by
 intro aU s σ H x v vl vu lo hi sl Q I rx hs pl pu q;rcases q with q | q
 ·exact h aU s σ H x v vl vu lo hi sl Q I rx hs pl pu q
 ·exact h' aU s σ H x v vl vu lo hi sl Q I rx hs pl pu q
noncomputable def tSl (r:V->Option Int->Option Int->Hp->VK->Prop) (te:TE) (tl th:TO):TE:=fun σ H Q=>te σ H fun x H1=>tl σ H1 fun l H2=>th σ H2 fun u H3=>r x l u H3 Q
theorem znr {r:V->Option Int->Option Int->Hp->VK->Prop}(hr:SlR X r)(he:PE X e te)(hl:PO X lo tl)(hu:PO X hi th):PE X (.Subscript e (.Slice lo hi none p2) pos) (tSl r te tl th):=by
 intro aU s σ H Q I h;refine Subscript_ (thn (he aU s σ H _ I h) fun v s1 hq0=>?_);obtain⟨x,H1,I1,r1,q1⟩:=hq0;refine wpAny_Slice (thn (hl aU s1 σ H1 _ I1 q1) fun vl s2 ⟨l,H2,I2,pl,q2⟩=>thn (hu aU s2 σ H2 _ I2 q2) fun vu s3 hq0=>?_);obtain⟨u,H3,I3,pu,q3⟩:=hq0;rw[evalPart_none];refine xbe ?_;have I4:Inv X aU σ H3 { s3 with heap:=s3.heap.push { cls:=.type "slice", data:=.fields #[vl, vu, .none] } }:=I3.kept (t':=s3.toks) fun b ob q=>xbb _ q
 obtain⟨T, id, hT, ht, hg⟩:=hr aU { s3 with heap:=s3.heap.push { cls:=.type "slice", data:=.fields #[vl, vu, .none] } } σ H3 x v vl vu l u s3.heap.objs.size Q I4 r1 (Heap.IsSliceOf.new ..) pl pu q3
 show wpAny (model X.prog X.w) X.A (subscriptTail e (.Slice lo hi none p2) v (.ref s3.heap.objs.size)) (EP X aU σ Q) X.xe { s3 with heap:=s3.heap.push { cls:=.type "slice", data:=.fields #[vl, vu, .none] } }
 exact tail_any (ops:=[.ref s3.heap.objs.size,v]) ht hT hg (by with_unfolding_all rfl)
noncomputable def cutV (xs:List V) (lo hi:Option Int):List V:=(xs.drop (HT.sIx xs.length 0 lo)).take (HT.sIx xs.length xs.length hi - HT.sIx xs.length 0 lo)
theorem zgo (xs:List V)(lo hi:Option Int):(cutV xs lo hi).length<=xs.length:=by
 unfold cutV;rw[xdl,xde];lia
noncomputable def rSlT (K:Fg):V->Option Int->Option Int->Hp->VK->Prop:=fun x lo hi H Q=>∃a xs,x=.ref a/\SqT K H a xs /\
 ¬ (HT.sIx xs.length 0 lo=0/\HT.sIx xs.length xs.length hi=xs.length)/\∀p,H p=none->Q (.ref p) (upd H p (.tup (cutV xs lo hi)))
theorem zbck:SlR X (rSlT X.K):=by
 intro aU s σ H x v vl vu lo hi sl Q I rx hs pl pu h;obtain⟨a,xs,rfl,hx,hw,q⟩:=h;cases rx;obtain⟨its,r,ht,hz⟩:=I.tuple hx;have hlen:its.toArray.size=xs.length:=by rw[xbo];exact r.length.symm
 refine⟨"tuple", _, xgp.lookup, ht.typeIs, ?_⟩
 refine HT.zev ht hs pl pu (by rw[hlen];exact hw) ?_ (by rw[hlen];exact hz);rw[hlen];refine⟨.ref s.heap.objs.size,_,I.laid (t':=s.toks) (o:=.tup (cutV xs lo hi)) (fun b ob q=>xbb _ q) (xbf _) ?_,rfl,q _ (I.hok.fresh (xbf _))⟩;exact⟨xbc (zgo xs lo hi) hz,_,(r.drop (HT.sIx xs.length 0 lo)).take (HT.sIx xs.length xs.length hi - HT.sIx xs.length 0 lo),IsTup.new _ _⟩
noncomputable def rLtT (K:Fg):R2:=fun x y H Q=>∃a b ns ms,x=.ref a/\y=.ref b/\SqT K H a (ns.map V.int)/\SqT K H b (ms.map V.int)/\Q (.bl (HT.lexLt ns ms)) H
theorem zbds (hu:X.A.units < cLine):OpR X (compareOp .Lt) (rLtT X.K):=by
 intro aU s σ H x y v u Q I rx ry h;obtain⟨a,b,ns,ms,rfl,rfl,ha,hb,q⟩:=h;cases rx;cases ry;obtain⟨its,r1,p1,_⟩:=I.tuple ha;obtain⟨its2,r2,p2,_⟩:=I.tuple hb;have i1:IntsAre its.toArray.toList ns:=zdy r1;have i2:IntsAre its2.toArray.toList ms:=zdy r2;exact HT.zii p1 p2 i1 i2 hu ⟨.bl (HT.lexLt ns ms),H,I,rfl,q⟩
noncomputable def rCatT (K:Fg):R2:=fun x y H Q=>∃a b xs ys,x=.ref a/\y=.ref b/\SqT K H a xs/\SqT K H b ys/\xs≠[]/\xs.length+ys.length<=sizeLine /\
 (ys=[]->Q (.ref a) H)/\(ys≠[]->∀p,H p=none->Q (.ref p) (upd H p (.tup (xs++ys))))
theorem Vals.nil_iff {xs:List V}{us:List Value}(r:Vals xs us):us=[]↔xs=[]:=by
 cases r with
 | nil=>simp
 | cons _ _=>simp
theorem zyp:OpR X (binaryOp .Add) (rCatT X.K):=by
 intro aU s σ H x y v u Q I rx ry h;obtain⟨a,b,xs,ys,rfl,rfl,ha,hb,hx,hz,q1,q2⟩:=h;cases rx;cases ry;obtain⟨its,r1,p1,_⟩:=I.tuple ha;obtain⟨its2,r2,p2,_⟩:=I.tuple hb;refine HT.zbbh p1 p2 (fun z=>hx (r1.nil_iff.mp z)) (fun z=>⟨.ref a,H,I,rfl,q1 (r2.nil_iff.mp z)⟩) (fun z=>?_) (by rw[← r1.length,← r2.length];exact hz);refine⟨.ref s.heap.objs.size,_,I.laid (t':=s.toks) (o:=.tup (xs++ys)) (fun b ob q=>xbb _ q) (xbf _) ?_,rfl,q2 (fun w=>z (r2.nil_iff.mpr w)) _ (I.hok.fresh (xbf _))⟩;exact⟨by rw[xbp];exact hz,_,r1.append r2,IsTup.new _ _⟩
end
noncomputable def ixN (n:Nat) (i:Int):Option Nat:=if 0<=i then(if i < n then some i.toNat else none) else if -(n:Int)<=i then some (i+n).toNat else none
noncomputable def atI {α:Type} (xs:List α) (i:Int):Option α:=(ixN xs.length i).bind fun j=>xs[j]?
theorem zsr {n:Nat}{i:Int}{j:Nat}(h:ixN n i=some j):seqIndex? i n=some j/\j < n/\-(n:Int)<=i/\i < n:=by
 unfold ixN at h;by_cases h0:0<=i
 ·rw[if_pos h0] at h;by_cases h1:i < n
  ·rw[if_pos h1] at h;have e:i.toNat=j:=xck h;exact⟨by rw[seqIndex_of h0 h1,e],by lia,by lia,h1⟩
  ·rw[if_neg h1] at h;cases h
 ·rw[if_neg h0] at h;by_cases h1:-(n:Int)<=i
  ·rw[if_pos h1] at h;have e:(i+n).toNat=j:=xck h;exact⟨by rw[seqIndex_neg (by lia) h1,e],by lia,h1,by lia⟩
  ·rw[if_neg h1] at h;cases h
theorem zpj {α:Type}{xs:List α}{i:Int}{v:α}(h:atI xs i=some v):∃j,seqIndex? i xs.length=some j/\xs[j]?=some v/\j < xs.length/\-(xs.length:Int)<=i/\i < xs.length:=by
 unfold atI at h;cases e:ixN xs.length i with
 | none=>rw[e] at h;cases h
 | some j =>
  rw[e] at h;obtain⟨h1,h2,h3,h4⟩:=zsr e;exact⟨j,h1,h,h2,h3,h4⟩
theorem ztm {α:Type}{xs:List α}{j:Nat}{v:α}(h:xs[j]?=some v):atI xs (j:Int)=some v:=by
 have hj:j < xs.length:=(xbk.mp h).1;have e:ixN xs.length (j:Int)=some j:=by
  unfold ixN;rw[if_pos (by lia),if_pos (by lia)];simp
 unfold atI;rw[e];exact h
noncomputable def PlainIx (b:Expr):Prop:=∀o i,subscripted b false o i=operate [o,i] (getItem o i)
noncomputable def IxR (X:Cx) (r:R2):Prop :=
 ∀(value slice:Expr) (aU:List (Addr×Obj)) (s:Shared) (σ:St) (H:Hp) (x y:V) (v u:Value) (Q:VK),Inv X aU σ H s->RelV x v->RelV y u->r x y H Q ->
  subscripted slice false v u=operate [v,u] (getItem v u)->wpAny (model X.prog X.w) X.A (subscriptTail value slice v u) (EP X aU σ Q) X.xe s
noncomputable def MtR (X:Cx) (id:String) (r:V->List V->Hp->VK->Prop):Prop :=
 ∀(aU:List (Addr×Obj)) (s:Shared) (σ:St) (H:Hp) (x:V) (xs:List V) (v:Value) (us:List Value) (Q:VK),Inv X aU σ H s->RelV x v->Vals xs us->r x xs H Q ->
  wpAny (model X.prog X.w) X.A (call (.builtin id) (v::us)) (EP X aU σ Q) X.xe s
section
variable {X:Cx}{a b:Expr}{ta tb:TE}{pos:Pos}
theorem IxR.or {r r':R2}(h:IxR X r)(h':IxR X r'):IxR X (fun x y H Q=>r x y H Q\/r' x y H Q):=by
 intro value slice aU s σ H x y v u Q I rx ry q hs;rcases q with q | q
 ·exact h value slice aU s σ H x y v u Q I rx ry q hs
 ·exact h' value slice aU s σ H x y v u Q I rx ry q hs
theorem zbhy {r:R2}(hr:IxR X r)(ha:PE X a ta)(hb:PE X b tb)(hs:PlainIx b):PE X (.Subscript a b pos) (tOp r ta tb):=by
 intro aU s σ H Q I h;exact Subscript_ (binT ha hb I h fun v u s2 x y H2 I2 rx ry q=>hr a b aU s2 σ H2 x y v u Q I2 rx ry q (hs _ _))
noncomputable def rIxL (K:Fg):R2:=fun x y H Q=>∃p xs i v,x=.ref p/\y=.int i/\SqL K H p xs/\atI xs i=some v/\Q v H
noncomputable def rIxT (K:Fg):R2:=fun x y H Q=>∃p xs i v,x=.ref p/\y=.int i/\SqT K H p xs/\atI xs i=some v/\Q v H
noncomputable def rIxS:R2:=fun x y H Q=>∃z i c,x=.str z/\y=.int i/\z.length<=sizeLine/\atI z.cps.toList i=some c/\Q (.str ⟨#[c]⟩) H
theorem zzj:IxR X (rIxL X.K):=by
 intro value slice aU s σ H x y v u Q I rx ry h hs;obtain⟨p,xs,i,z,rfl,rfl,hq,he,q⟩:=h;cases rx;obtain⟨t,rfl⟩:=ry;obtain⟨its,r,pl,hz⟩:=I.list hq;obtain⟨j,h1,h2,h3,h4,h5⟩:=zpj he;obtain⟨w,ew,rw'⟩:=r.get h2;have hl:=r.length;have hn:=line63;have fin:EP X aU σ Q w s:=⟨z,H,I,rw',q⟩
 by_cases h0:0<=i
 ·have hj:i.toNat=j:=by
   rw[seqIndex_of h0 h5] at h1;exact xck h1
  exact item_listR pl.isList h0 (by lia) (by rw[hj];simpa using ew) fin hs
 ·have hj:(i+(its.toArray.size:Int)).toNat=j:=by
   rw[seqIndex_neg (by lia) h4] at h1;rw[xbo,← hl];exact xck h1
  exact subscriptTail_builtinR (x:=w) pl.isList.typeIs slot_list_getitem.lookup
   (wpAny_getItem_list_neg (Q:=fun r s'=>r=w/\EP X aU σ Q r s') pl.isList (by lia) (by rw[xbo]<;>lia) (by lia) (by rw[hj];simpa using ew) ⟨rfl,fin⟩) hs
theorem zbel:IxR X (rIxT X.K):=by
 intro value slice aU s σ H x y v u Q I rx ry h hs;obtain⟨p,xs,i,z,rfl,rfl,hq,he,q⟩:=h;cases rx;obtain⟨t,rfl⟩:=ry;obtain⟨its,r,pl,hz⟩:=I.tuple hq;obtain⟨j,h1,h2,h3,h4,h5⟩:=zpj he;obtain⟨w,ew,rw'⟩:=r.get h2;have hl:=r.length;have hn:=line63;have fin:EP X aU σ Q w s:=⟨z,H,I,rw',q⟩
 exact subscriptTail_builtinR (x:=w) pl.typeIs xhy.lookup
  (getItem_tuple (j:=j) (Q:=fun r s'=>r=w/\EP X aU σ Q r s') pl (by lia) (by lia) (by rw[xbo,← hl];exact h1) (by simpa using ew) ⟨rfl,fin⟩) hs
theorem zbem:IxR X rIxS:=by
 intro value slice aU s σ H x y v u Q I rx ry h hs;obtain⟨z,i,c,rfl,rfl,hz,he,q⟩:=h;obtain⟨t,rfl⟩:=rx;obtain⟨t',rfl⟩:=ry;obtain⟨j,h1,h2,h3,h4,h5⟩:=zpj he;have hl:z.cps.toList.length=z.length:=by simp[Str.length]
 rw[hl] at h1 h4 h5;have hn:=line63
 exact tail_any (xia s z t) slot_str_getitem.lookup (getItem_str (c:=c) (by
  have e1:decide (i < -(2 ^ 63:Int))=false:=xbt (by lia);have e2:decide (i ≥ 2 ^ 63)=false:=xbt (by lia)
  rw[e1,e2,Bool.or_false]) (by rw[h1];simpa using h2) ⟨.str ⟨#[c]⟩,H,I.tok _,⟨_,rfl⟩,q⟩) hs
noncomputable def rIx (K:Fg):R2:=fun x y H Q=>rIxL K x y H Q\/rIxT K x y H Q\/rIxS x y H Q
theorem zben:IxR X (rIx X.K):=zzj.or (zbel.or zbem)
theorem zoc (its:List Value)(n j:Nat)(u:Value):Obj.mapSeq (·.setIfInBounds j u) { cls:=.type "list", data:=.seq its.toArray n }={ cls:=.type "list", data:=.seq (its.set j u).toArray n }:=by
 simp[Obj.mapSeq]
theorem Inv.lst {aU:List (Addr×Obj)}{σ:St}{H:Hp}{s:Shared}{p:Addr}{xs:List V}(I:Inv X aU σ H s)(h:H p=some (.lst xs)) :
  ∃(its:List Value) (n:Nat), Vals xs its/\s.heap.get? p=some { cls:=.type "list", data:=.seq its.toArray n }/\xs.length<=sizeLine:=by
 obtain⟨z,its,n,r,e⟩:=I.hok p _ h;exact⟨its,n,r,e,z⟩
theorem Inv.lstUpd {aU:List (Addr×Obj)}{σ:St}{H:Hp}{s:Shared}{p:Addr}{xs ys:List V}{its its':List Value}{n n':Nat}{f:Obj->Obj}(I:Inv X aU σ H s)(h:H p=some (.lst xs))
  (ho:s.heap.get? p=some { cls:=.type "list", data:=.seq its.toArray n })(hf:f { cls:=.type "list", data:=.seq its.toArray n }={ cls:=.type "list", data:=.seq its'.toArray n' })(r:Vals ys its')(hz:ys.length<=sizeLine)(t:Nat) :
  Inv X aU σ (upd H p (.lst ys)) {s with heap:=s.heap.update p f,toks:=t}:=by
 have e:(s.heap.update p f).get? p=some { cls:=.type "list", data:=.seq its'.toArray n' }:=by
  rw[xhe f ho (by rw[hf]<;>rfl),hf]
 refine I.write (x:=p) (e:=p) (by rw[h];trivial) (.inl rfl) (fun b u hb q=>(Heap.get?_update_other _ _ (xci hb)).trans q) ⟨_,e⟩ ?_;exact⟨hz,its',n',r,e⟩
noncomputable def rSetL:V->V->V->Hp->(Hp->Prop)->Prop:=fun o i v H Q=>∃p xs k j,o=.ref p/\i=.int k/\H p=some (.lst xs)/\ixN xs.length k=some j/\Q (upd H p (.lst (xs.set j v)))
theorem zty:PSet X rSetL:=by
 intro aU s σ H o i v ov iv u Q I ro ri rv h;obtain⟨p,xs,k,j,rfl,rfl,hp,hj,q⟩:=h;cases ro;obtain⟨t,rfl⟩:=ri;obtain⟨its,n,r,ho,hz⟩:=I.lst hp;obtain⟨h1,h2,h3,h4⟩:=zsr hj;have hl:=r.length;have hn:=line63;have I':Inv X aU σ (upd H p (.lst (xs.set j v))) {s with heap:=s.heap.update p (Obj.mapSeq (·.setIfInBounds j u))} :=
  I.lstUpd hp ho (zoc its n j u) (r.set rv j) (by rw[xep];exact hz) s.toks
 by_cases h0:0<=k
 ·have hk:k.toNat=j:=by
   rw[seqIndex_of h0 h4] at h1;exact xck h1
  exact W.ki_setAt ho h0 (by lia) (by rw[xbo,← hl];exact h4) (by rw[hk];exact⟨_,I',q⟩)
 ·have hk:(k+(its.toArray.size:Int)).toNat=j:=by
   rw[seqIndex_neg (by lia) h3] at h1;rw[xbo,← hl];exact xck h1
  exact W.ki_setBack ho (by lia) (by rw[xbo,← hl];exact h3) (by lia) (by rw[hk];exact⟨_,I',q⟩)
theorem zjk (lo hi:Option Int)(n:Nat):(sliceBounds lo hi none n).1=((HT.sIx n 0 lo:Nat):Int)/\(sliceBounds lo hi none n).2.1=((HT.sIx n n hi:Nat):Int)/\(sliceBounds lo hi none n).2.2=1:=by
 refine⟨?_,?_,rfl⟩
 ·cases lo with
  | none=>simp[sliceBounds,HT.sIx]
  | some i =>
   simp only[sliceBounds,HT.sIx,Option.getD_none,show(1:Int) > 0 by decide,xew];by_cases h:i < 0
   ·simp only[h,xew]<;>lia
   ·simp only[h,xfq]<;>lia
 ·cases hi with
  | none=>simp[sliceBounds,HT.sIx]
  | some i =>
   simp only[sliceBounds,HT.sIx,Option.getD_none,show(1:Int) > 0 by decide,xew];by_cases h:i < 0
   ·simp only[h,xew]<;>lia
   ·simp only[h,xfq]<;>lia
theorem zhw (its:List Value)(lo hi:Option Int):slicePick its.toArray lo hi none=((its.drop (HT.sIx its.length 0 lo)).take (HT.sIx its.length its.length hi - HT.sIx its.length 0 lo)).toArray:=by
 obtain⟨h1,h2,h3⟩:=zjk lo hi its.toArray.size;unfold slicePick;rw[h1,h2,h3];simp only[sliceRange_one,pick_run,xbo]<;>rfl
noncomputable def rSlL (K:Fg):V->Option Int->Option Int->Hp->VK->Prop:=fun x lo hi H Q=>∃a xs,x=.ref a/\SqL K H a xs/\∀p,H p=none->Q (.ref p) (upd H p (.lst (cutV xs lo hi)))
theorem zxi:SlR X (rSlL X.K):=by
 intro aU s σ H x v vl vu lo hi sl Q I rx hs pl pu h;obtain⟨a,xs,rfl,hx,q⟩:=h;cases rx;obtain⟨its,r,ht,hz⟩:=I.list hx;have hlen:=r.length;refine⟨"list", _, slot_list_getitem.lookup, ht.isList.typeIs, ?_⟩
 refine wpAny_getItem_list_slice ht.isList hs pl pu .none (by simp) ?_ (by rw[xbo]<;>lia);rw[zhw,← hlen];refine⟨.ref s.heap.objs.size,_,I.laid (t':=s.toks) (o:=.lst (cutV xs lo hi)) (fun b ob q=>xbb _ q) (xbf _) ?_,rfl,q _ (I.hok.fresh (xbf _))⟩;exact⟨xbc (zgo xs lo hi) hz,_,0,(r.drop (HT.sIx xs.length 0 lo)).take (HT.sIx xs.length xs.length hi - HT.sIx xs.length 0 lo),xbm _ rfl⟩
theorem zbe:CallR X (.builtin "len") (fun xs H Q=>∃ p ys, xs=[.ref p]/\(SqL X.K H p ys\/SqT X.K H p ys)/\Q (.int ys.length) H):=by
 intro aU s σ H xs us Q I r h;obtain⟨p,ys,rfl,hq,q⟩:=h;obtain⟨u,rfl,rx⟩:=vals1 r;cases rx;have hn:=line63;rcases hq with hq | hq
 ·obtain⟨its,r',pl,hz⟩:=I.list hq;have hlen:=r'.length;exact Calls.call_len_list pl.isList (by simp only[xbo]<;>lia) ⟨.int ys.length,H,I.tok _,⟨s.toks+1,by rw[xbo,hlen]⟩,q⟩
 ·obtain⟨its,r',pl,hz⟩:=I.tuple hq;have hlen:=r'.length;exact len_tuple pl (by simp only[xbo]<;>lia) ⟨.int ys.length,H,I.tok _,⟨s.toks+1,by rw[xbo,hlen]⟩,q⟩
theorem zdp:CallR X (.builtin "len") (fun xs H Q=>∃ z, xs=[.str z]/\z.length<=sizeLine/\Q (.int z.length) H):=by
 intro aU s σ H xs us Q I r h;obtain⟨z,rfl,hz,q⟩:=h;obtain⟨u,rfl,t,rfl⟩:=vals1 r;have hn:=line63;exact len_str (by lia) ⟨.int z.length,H,I.tok _,⟨_,rfl⟩,q⟩
theorem CallR.or {f:Value}{r r':List V->Hp->VK->Prop}(h:CallR X f r)(h':CallR X f r'):CallR X f (fun xs H Q=>r xs H Q\/r' xs H Q):=by
 intro aU s σ H xs us Q I rs q;rcases q with q | q
 ·exact h aU s σ H xs us Q I rs q
 ·exact h' aU s σ H xs us Q I rs q
theorem zbo:CallR X (.type "tuple") (fun xs H Q=>∃ p ys, xs=[.ref p]/\((SqL X.K H p ys/\∀ l, H l=none->Q (.ref l) (upd H l (.tup ys)))\/(SqT X.K H p ys/\Q (.ref p) H))):=by
 intro aU s σ H xs us Q I r h;obtain⟨p,ys,rfl,h⟩:=h;obtain⟨u,rfl,rx⟩:=vals1 r;cases rx;rcases h with⟨hq,q⟩ | ⟨hq,q⟩
 ·obtain⟨its,r',pl,hz⟩:=I.list hq;have hlen:=r'.length;refine call_tuple_list pl.isList (fun h' kp=>?_) (by simp only[xbo]<;>lia);have I1:Inv X aU σ H {s with heap:=h'}:=I.kept (t':=s.toks) kp;have I2:Inv X aU σ (upd H h'.objs.size (.tup ys)) { s with heap:=h'.push { cls:=.type "tuple", data:=.seq its.toArray } } :=
   I1.laid (t':=s.toks) (fun b o e=>xbb _ e) (xbf _) (show ObjOk X.prog X.w _ _ _ (.tup ys) from⟨hz,its,r',IsTup.new _ _⟩)
  exact⟨.ref h'.objs.size,_,I2,rfl,q _ (I1.hok.fresh (xbf _))⟩
 ·obtain⟨its,r',pl,hz⟩:=I.tuple hq;exact call_tuple_same pl ⟨.ref p,H,I,rfl,q⟩
noncomputable def tyV (K:Fg) (T:String) (x:V) (H:Hp):Prop:=match x with
 | .str _=>T="str"
 | .int _=>T="int"
 | .ref p=>(T="list"/\∃ xs, SqL K H p xs)\/(T="tuple"/\∃ o, K.lookup p=some o/\o.cls=.type "tuple"/\o.dict=none) \/
  (T="dict"/\((∃ kvs, H p=some (.dK kvs))\/∃ kvs, H p=some (.dT kvs)))\/(T="set"/\∃ S n, H p=some (.set S n))
 | _=>False
theorem zbcf {aU:List (Addr×Obj)}{σ:St}{H:Hp}{s:Shared}{T:String}{x:V}{v:Value}(I:Inv X aU σ H s)(r:RelV x v)(ty:tyV X.K T x H) :
  s.TypeIs v T/\∀a,v=.ref a->∃ob,s.heap.get? a=some ob/\ob.dict=none:=by
 cases x with
 | str z =>
  obtain⟨t,rfl⟩:=r;cases(show T="str" from ty)
  exact⟨xia s z t,fun _ e=>nomatch e⟩
 | int i =>
  obtain⟨t,rfl⟩:=r;cases(show T="int" from ty)
  exact⟨typeIs_int s i t,fun _ e=>nomatch e⟩
 | ref p =>
  cases r;rcases ty with⟨rfl,xs,hq⟩ | ⟨rfl,o,hk,hc,hd⟩ | ⟨rfl,hk⟩ | ⟨rfl,S,n,hk⟩
  ·obtain⟨its,_,pl,_⟩:=I.list hq;refine⟨pl.isList.typeIs,fun a e=>?_⟩;cases e;obtain⟨o,n,e,c,hd,_⟩:=pl;exact⟨o,e,hd⟩
  ·refine⟨⟨o,I.kIn p o hk,hc⟩,fun a e=>?_⟩;cases e;exact⟨o,I.kIn _ o hk,hd⟩
  ·have z:∃o,s.heap.get? p=some o/\o.ExactDict:=by
    rcases hk with⟨kvs,hk⟩ | ⟨kvs,hk⟩
    ·obtain⟨_,_,_,_,o,_,_,e,ex,_⟩:=I.hok p _ hk;exact⟨o,e,ex⟩
    ·obtain⟨_,_,_,_,o,_,_,e,ex,_⟩:=I.hok p _ hk;exact⟨o,e,ex⟩
   obtain⟨o,e,ex⟩:=z;refine⟨⟨o,e,ex.1⟩,fun a e2=>?_⟩;cases e2;exact⟨o,e,ex.2.1⟩
  ·obtain⟨o,_,_,_,e,ex,_⟩:=I.hok p _ hk;refine⟨⟨o,e,ex.1⟩,fun a e2=>?_⟩;cases e2;exact⟨o,e,ex.2.1⟩
 | _=>exact False.elim ty
noncomputable def tBM (K:Fg) (T:String) (r:V->List V->Hp->VK->Prop) (to:TE) (t:TA):TE:=fun σ H Q=>to σ H fun x H1=>tyV K T x H1/\t σ H1 fun xs H2=>r x xs H2 Q
variable {o e:Expr}{es:List Expr}{to:TE}{t:TA}{name:Str}{apos cpos:Pos}{T id:String}{r:V->List V->Hp->VK->Prop}
theorem zbbv (pa:PlainAttrs T)(slot:Slot T name id)(hty:typeOf (.builtin id)=pure (.type "method_descriptor"))(hm:MtR X id r)(ho:PE X o to)(ha:PA X (e::es) t)
  (hbase:attributeBase o name X.env (eval o X.env)=eval o X.env:=by rfl)
  (hfew:((backTo cpos (starEach (e::es) X.env)).all (fun x=>!x.1)&&(backToKw cpos (keywordEach [] X.env)).all (fun x=>x.1.isSome)
   && decide ((e::es).length+([]:List Keyword).length+(if([]:List Keyword).isEmpty then 0 else 1) < 30))=true:=by rfl)
  (hline:(apos.endLine==cpos.line)=true:=by rfl)(hs:starEach (e::es) X.env=(false,eval e X.env)::starEach es X.env:=by rfl)(hplain:(backTo cpos (starEach es X.env)).any (·.1)=false:=by rfl) :
  PE X (.Call (.Attribute o name apos) (e::es) [] cpos) (tBM X.K T r to t):=by
 intro aU s σ H Q I h;refine wpAny_Call_method_late hbase hfew hline rfl (thn (ho aU s σ H _ I h) fun v s1 hq0=>?_);obtain⟨x,H1,I1,r1,ty,q1⟩:=hq0;obtain⟨h1,h2⟩:=zbcf I1 r1 ty;refine⟨T,id,pa,slot,hty,h1,h2,?_⟩;have hA:=ha cpos aU s1 σ H1 _ I1 q1;rw[hs] at hA ⊢;refine Calls.callWith_builtin (by show(false||(backTo cpos (starEach es X.env)).any (·.1))=false;rw[hplain]<;>rfl) (Calls.evalArgs_plain ?_);exact thn hA fun us s2 ⟨vs,H2,I2,r2,q2⟩=>hm aU s2 σ H2 x vs v us Q I2 r1 r2 q2
/- xs.append(e),list.index on a module's tuple .. are MtR facts of 06m -/
end
noncomputable def MtM (X:Cx) (id:String) (r:V->List V->Hp->VK->Prop):Prop :=
 ∀(aU:List (Addr×Obj)) (s:Shared) (σ:St) (H:Hp) (x:V) (xs:List V) (v:Value) (us:List Value) (Q:VK),Inv X aU σ H s->RelV x v->Vals xs us->r x xs H Q ->
  wpAny (model X.prog X.w) X.A (call (.builtin id) (v::us)) (EP X aU σ Q) X.xe s
theorem Vals.one:∀{x:V} {us:List Value},Vals [x] us->∃u,us=[u]/\RelV x u
 | _,_,.cons r .nil=>⟨_,rfl,r⟩
section
variable {X:Cx}{aU:List (Addr×Obj)}{σ:St}{H:Hp}{s:Shared}{l b:Addr}{xs ys zs:List V}
theorem Inv.lset {its its':List Value}{n:Nat}{f:Array Value->Array Value}{t':Nat}(I:Inv X aU σ H s)(hH:H l=some (.lst xs))
  (e:s.heap.get? l=some { cls:=.type "list", data:=.seq its.toArray n })(hf:f its.toArray=its'.toArray)(hv:Vals ys its')(hz:ys.length<=sizeLine) :
  Inv X aU σ (upd H l (.lst ys)) {s with heap:=s.heap.update l (Obj.mapSeq f),toks:=t'}:=by
 have q:=PySem.IsL.update e f;rw[hf] at q;refine I.write (x:=l) (e:=l) (by rw[hH];exact trivial) (.inl rfl) (fun b' u hb hu=>(Heap.get?_update_other s.heap (Obj.mapSeq f) (xci hb)).trans hu) ⟨_,q⟩ ?_;exact⟨hz,its',_,hv,q⟩
theorem Inv.lnew {its:List Value}{t':Nat}(I:Inv X aU σ H s)(hv:Vals ys its)(hz:ys.length<=sizeLine) :
  Inv X aU σ (upd H s.heap.objs.size (.lst ys)) { s with heap:=s.heap.push { cls:=.type "list", data:=.seq its.toArray }, toks:=t' } :=
 I.laid (fun _ _ q=>xbb _ q) (xbf _) ⟨hz,its,0,hv,xbm _ rfl⟩
theorem Inv.fresh (I:Inv X aU σ H s):H s.heap.objs.size=none:=I.hok.fresh (xbf _)
theorem Inv.lstM (I:Inv X aU σ H s)(hH:H l=some (.lst xs)):xs.length<=sizeLine/\∃(its:List Value) (n:Nat), Vals xs its/\xs.length=its.length/\s.heap.get? l=some { cls:=.type "list", data:=.seq its.toArray n }:=by
 obtain⟨z,its,n,r,e⟩:=I.hok l _ hH;exact⟨z,its,n,r,r.length,e⟩
end
section
variable {X:Cx}
noncomputable def rAppend:V->List V->Hp->VK->Prop:=fun x vs H Q=>∃l xs y,x=.ref l/\vs=[y]/\H l=some (.lst xs)/\xs.length < sizeLine/\Q .non (upd H l (.lst (xs++[y])))
theorem zks:MtM X "list.append" rAppend:=by
 intro aU s σ H x vs v us Q I rx rv h;obtain⟨l,xs,y,rfl,rfl,hH,hz,q⟩:=h;cases rx;obtain⟨u,rfl,ru⟩:=rv.one;obtain⟨z,its,n,r,hl,e⟩:=I.lstM hH;refine xgz F.slot_list_append ⟨_,e,rfl⟩ F.entry_list_append (F.args_list_append_2 _ _) (PySem.list_append l its.toArray n u (by rw[xbo];lia)) ⟨e,?_⟩;refine⟨.non,_,I.lset (its':=its++[u]) hH e (by simp) (r.append (.cons ru .nil)) ?_,rfl,q⟩;rw[xbp,List.length_singleton];lia
noncomputable def rCat:R2:=fun x y H Q=>∃l b xs zs,x=.ref l/\y=.ref b/\H l=some (.lst xs)/\H b=some (.lst zs)/\xs.length+zs.length<=sizeLine/\∀p,H p=none->Q (.ref p) (upd H p (.lst (xs++zs)))
theorem zbdt:OpR X (binaryOp .Add) rCat:=by
 intro aU s σ H x y v u Q I rx ry h;obtain⟨l,b,xs,zs,rfl,rfl,hH,hB,hz,q⟩:=h;cases rx;cases ry;obtain⟨z,its,n,r,hl,e⟩:=I.lstM hH;obtain⟨z2,its2,n2,r2,hl2,e2⟩:=I.lstM hB;refine PySem.P.add_list e e2 ?_ (by rw[xbo,xbo];lia);have ea:its.toArray++its2.toArray=(its++its2).toArray:=by simp
 rw[ea];exact⟨.ref _,_,I.lnew (t':=s.toks) (r.append r2) (by rw[xbp];lia),rfl,q _ I.fresh⟩
end
section
variable {prog:Program}{w:World}{A:Around}{E:Value->Shared->Prop}{s:Shared}
end
section
variable {X:Cx}
end
section
variable {κ:Type}[DecidableEq κ]
noncomputable def valV (kvs:List (κ×V)) (k:κ):Option V:=(kvs.find? fun kv=>decide (kv.1=k)).map (·.2)
noncomputable def putK (kvs:List (κ×V)) (k:κ) (v:V):List (κ×V) :=
 if(kvs.any fun kv=>decide (kv.1=k))=true then kvs.map (fun kv=>if kv.1=k then(kv.1,v) else kv) else kvs++[(k,v)]
theorem zgq {p:κ×V}{r:List (κ×V)}{k:κ}(e:p.1=k):valV (p::r) k=some p.2:=by simp[valV,xfc,e]
theorem zgr {p:κ×V}{r:List (κ×V)}{k:κ}(e:¬ p.1=k):valV (p::r) k=valV r k:=by simp[valV,xfc,e]
theorem zmz (k:κ):∀kvs:List (κ×V),(kvs.any fun kv=>decide (kv.1=k))=(valV kvs k).isSome
 | []=>rfl
 | p::r=>by
  rw[xio];by_cases e:p.1=k
  ·simp only[zgq e,xce e,Bool.true_or,Option.isSome_some]
  ·rw[zgr e,xbt e,Bool.false_or];exact zmz k r
theorem zgm (kvs:List (κ×V))(k:κ)(v:V):(putK kvs k v).length<=kvs.length+1:=by
 unfold putK;split
 ·rw[xbd];lia
 ·rw[xbp,xbu,xjg];lia
theorem RelO.isSome_eq {o:Option V}{u:Option Value}(r:RelO o u):o.isSome=u.isSome:=by
 cases o with
 | none=>cases u with
  | none=>rfl
  | some _=>exact(show False from r).elim
 | some _=>cases u with
  | none=>exact(show False from r).elim
  | some _=>rfl
theorem RelO.getD {o:Option V}{u:Option Value}{d:V}{d':Value}(r:RelO o u)(rd:RelV d d'):RelV (o.getD d) (u.getD d'):=by
 cases o with
 | none=>cases u with
  | none=>exact rd
  | some _=>exact(show False from r).elim
 | some _=>cases u with
  | none=>exact(show False from r).elim
  | some _=>exact r
theorem KV.val {kvs:List (κ×V)}{vs:List (κ×Value)}(r:KV kvs vs)(k:κ):RelO (valV kvs k) (valueAt vs k):=by
 unfold KV at r
 induction r with
 | nil=>exact True.intro
 | @cons p q ps qs h t ih =>
  obtain⟨h1,h2⟩:=h;by_cases e:p.1=k
  ·have e':q.1=k:=h1.symm.trans e;have b:valueAt (q::qs) k=some q.2:=by simp[valueAt,xfc,e']
   rw[zgq e,b];exact h2
  ·have e':¬ q.1=k:=fun z=>e (h1.trans z)
   have b:valueAt (q::qs) k=valueAt qs k:=by simp[valueAt,xfc,e']
   rw[zgr e,b];exact ih
theorem KV.any {kvs:List (κ×V)}{vs:List (κ×Value)}(r:KV kvs vs)(k:κ):(kvs.any fun kv=>decide (kv.1=k))=vs.any fun kv=>decide (kv.1=k):=by
 unfold KV at r
 induction r with
 | nil=>rfl
 | cons h t ih=>rw[xio,xio,ih,h.1]
theorem KV.repl {kvs:List (κ×V)}{vs:List (κ×Value)}(r:KV kvs vs)(k:κ){y:V}{u:Value}(ry:RelV y u) :
  KV (kvs.map fun kv=>if kv.1=k then(kv.1,y) else kv) (vs.map fun kv=>if kv.1=k then(kv.1,u) else kv):=by
 unfold KV at r ⊢
 induction r with
 | nil=>exact .nil
 | @cons p q ps qs h t ih =>
  rw[xbx,xbx];refine .cons ?_ ih;obtain⟨h1,h2⟩:=h;by_cases e:p.1=k
  ·rw[if_pos e,if_pos (h1.symm.trans e)];exact⟨h1,ry⟩
  ·rw[if_neg e,if_neg (fun z=>e (h1.trans z))];exact⟨h1,h2⟩
theorem KV.put {kvs:List (κ×V)}{vs:List (κ×Value)}(r:KV kvs vs)(k:κ){y:V}{u:Value}(ry:RelV y u):KV (putK kvs k y) (stored vs k u):=by
 unfold putK stored;rw[r.any k];by_cases e:(vs.any fun kv=>decide (kv.1=k))=true
 ·rw[if_pos e,if_pos e];exact r.repl k ry
 ·rw[if_neg e,if_neg e];exact Paired.snoc r ⟨rfl,ry⟩
theorem KV.length {kvs:List (κ×V)}{vs:List (κ×Value)}(r:KV kvs vs):kvs.length=vs.length:=xin r
end
theorem zbbw {P:Program}{w:World}{k:Key}{u:Value}(r:RelV (kV k) u):(mixKind P w).is k u=true:=by
 cases k with
 | inl i=>obtain⟨t,e⟩:=(show ∃t,u=Value.int i t from r);subst e;exact zml P w i t
 | inr x=>obtain⟨t,e⟩:=(show ∃t,u=Value.str x t from r);subst e;exact zmk P w x t
theorem zkw {P:Program}{w:World}:∀{ks:List Key} {us:List Value},Vals (ks.map kV) us->ItemsAre (mixKind P w) ks us
 | [],_,r=>by rw[xkn] at r;cases r;exact .nil
 | k::ks,_,r=>by
  rw[xbx] at r;cases r with
  | cons h t=>exact .cons (zbbw h) (zkw t)
noncomputable abbrev KT (H:Hp):List (List Key×V)->List (List Key×Addr×Value)->Prop:=Paired fun p q=>p.1=q.1/\H q.2.1=some (.tup (p.1.map kV))/\RelV p.2 q.2.2
theorem KT.val {H:Hp}{kvs:List (List Key×V)}{xs:List (List Key×Addr×Value)}(r:KT H kvs xs)(k:List Key):RelO (valV kvs k) ((atKey xs k).map (·.2)):=by
 induction r with
 | nil=>exact True.intro
 | @cons p q ps qs h t ih =>
  obtain⟨h1,_,h2⟩:=h;by_cases e:p.1=k
  ·have e':q.1=k:=h1.symm.trans e;have b:atKey (q::qs) k=some q.2:=by simp[atKey,xfc,e']
   rw[zgq e,b];exact h2
  ·have e':¬ q.1=k:=fun z=>e (h1.trans z)
   have b:atKey (q::qs) k=atKey qs k:=by simp[atKey,xfc,e']
   rw[zgr e,b];exact ih
theorem KT.repl {H:Hp}{kvs:List (List Key×V)}{xs:List (List Key×Addr×Value)}(r:KT H kvs xs)(k:List Key){y:V}{u:Value}(ry:RelV y u) :
  KT H (kvs.map fun kv=>if kv.1=k then(kv.1,y) else kv) (xs.map (putAt k u)):=by
 induction r with
 | nil=>exact .nil
 | @cons p q ps qs h t ih =>
  rw[xbx,xbx];refine .cons ?_ ih;obtain⟨h1,h2,h3⟩:=h;unfold putAt;by_cases e:p.1=k
  ·rw[if_pos e,if_pos (h1.symm.trans e)];exact⟨h1,h2,ry⟩
  ·rw[if_neg e,if_neg (fun z=>e (h1.trans z))];exact⟨h1,h2,h3⟩
theorem KT.put {H:Hp}{kvs:List (List Key×V)}{xs:List (List Key×Addr×Value)}(r:KT H kvs xs)(k:List Key){b:Addr}{y:V}{u:Value}(hb:H b=some (.tup (k.map kV)))(ry:RelV y u) :
  KT H (putK kvs k y) (storedH xs k b u):=by
 have e:(kvs.any fun kv=>decide (kv.1=k))=(atKey xs k).isSome:=by
  rw[zmz,(r.val k).isSome_eq,Option.isSome_map]
 unfold putK storedH;rw[e];by_cases q:(atKey xs k).isSome=true
 ·rw[if_pos q,if_pos q];exact r.repl k ry
 ·rw[if_neg q,if_neg q];exact Paired.snoc r ⟨rfl,hb,ry⟩
theorem KT.keeps {H H':Hp}{kvs:List (List Key×V)}{xs:List (List Key×Addr×Value)}(r:KT H kvs xs)(ht:∀b ys,H b=some (.tup ys)->H' b=some (.tup ys)):KT H' kvs xs :=
 Paired.mapP r fun _ _ z=>⟨z.1,ht _ _ z.2.1,z.2.2⟩
section
variable {P:Program}{w:World}{H:Hp}{h:Heap}{a:Addr}
theorem zbha {u:HO}(ok:HOk P w H h)(e:Rd H a u):ObjOk P w H h a u:=e.ok ok
theorem zbag {kvs:List (Key×V)}(ok:HOk P w H h)(e:Rd H a (.dK kvs)):kvs.length<=sizeLine/\(a==sysModules)=false/\∃vs,KV kvs vs/\h.DictOf (mixKind P w) a vs :=
 show ObjOk P w H h a (.dK kvs) from zbha ok e
theorem zbiu {kvs:List (Key×V)}(ok:HOk P w H h)(e:H a=some (.dK kvs)):kvs.length<=sizeLine/\(a==sysModules)=false/\∃vs,KV kvs vs/\h.DictOf (mixKind P w) a vs:=zbag ok (.inl e)
theorem zrd {ks:List Key}(ok:HOk P w H h)(e:H a=some (.tup (ks.map kV))):(tupleKind (mixKind P w)).is h ks a:=by
 obtain⟨_,its,r,o,h1,h2,n,h3⟩:=(show ObjOk P w H h a (.tup (ks.map kV)) from ok a _ e)
 exact⟨o,its.toArray,n,h1,h2,h3,by simpa using zkw r⟩
theorem zzw {kvs:List (List Key×V)}(ok:HOk P w H h)(e:Rd H a (.dT kvs)):kvs.length<=sizeLine/\(a==sysModules)=false /\
  ∃xs,KT H kvs xs/\h.DictOfH (tupleKind (mixKind P w)) a xs:=by
 obtain⟨z,y,xs,r,o,es,ep,h1,h2,h3,h4,h5⟩:=(show ObjOk P w H h a (.dT kvs) from zbha ok e)
 refine⟨z,y,xs,r,o,es,ep,h1,h2,h3,h4,fun x hx=>?_,h5⟩;have all:∀{l:List (List Key×V)} {m:List (List Key×Addr×Value)},KT H l m->∀x∈m,(tupleKind (mixKind P w)).is h x.1 x.2.1:=by
  intro l m q
  induction q with
  | nil=>intro x hx;exact nomatch hx
  | @cons p q ps qs hq t ih =>
   intro x hx;rcases xbn.mp hx with e | hx
   ·subst e;exact zrd ok (by rw[← hq.1];exact hq.2.1)
   ·exact ih x hx
 exact all r x hx
theorem zbis {kvs:List (List Key×V)}(ok:HOk P w H h)(e:H a=some (.dT kvs)):kvs.length<=sizeLine/\(a==sysModules)=false /\
 ∃xs,KT H kvs xs/\h.DictOfH (tupleKind (mixKind P w)) a xs:=zzw ok (.inl e)
end
noncomputable def DGet (H:Hp) (a:Addr) (y:V) (r:Option V):Prop :=
 (∃kvs k,Rd H a (.dK kvs)/\y=kV k/\r=valV kvs k)\/∃kvs k b,Rd H a (.dT kvs)/\y=.ref b/\H b=some (.tup (k.map kV))/\r=valV kvs k
noncomputable def DPut (H:Hp) (a:Addr) (y v:V) (H':Hp):Prop :=
 (∃kvs k,H a=some (.dK kvs)/\y=kV k/\kvs.length < sizeLine/\H'=upd H a (.dK (putK kvs k v))) \/
 ∃kvs k b,H a=some (.dT kvs)/\y=.ref b/\H b=some (.tup (k.map kV))/\kvs.length < sizeLine/\H'=upd H a (.dT (putK kvs k v))
theorem DPut.t {H:Hp}{a b:Addr}{kvs:List (List Key×V)}{k:List Key}{v:V}(e:H a=some (.dT kvs))(eb:H b=some (.tup (k.map kV)))(hl:kvs.length < sizeLine) :
 DPut H a (.ref b) v (upd H a (.dT (putK kvs k v))):=.inr ⟨kvs,k,b,e,rfl,eb,hl,rfl⟩
section
variable {X:Cx}{aU:List (Addr×Obj)}{σ:St}{H:Hp}{s:Shared}{a:Addr}{y v:V}{u r:Value}{o:Option V}{A:Around}{E:Value->Shared->Prop}
theorem Inv.big (I:Inv X aU σ H s):sysModules < s.heap.objs.size:=by
 have h:mainGlobals < s.heap.objs.size:=(I.mod.glob.keeps I.bk).lt;exact xhf (by decide) h
theorem zrt {Q:Value->Shared->Prop}(hu:A.units+1 < cLine)(I:Inv X aU σ H s)(g:DGet H a y (some v))(ry:RelV y u)(h:∀w' s',Inv X aU σ H s'->RelV v w'->Q w' s') :
  wpAny (model X.prog X.w) A (getItem (.ref a) u) Q E s:=by
 rcases g with⟨kvs,k,e,ey,l⟩ | ⟨kvs,k,b,e,ey,eb,l⟩
 ·subst ey;obtain⟨z,hd,vs,rel,dd⟩:=zbag I.hok e;obtain⟨w',hw,rw'⟩:=RelO.some_of (v:=v) (o:=valueAt vs k) (by rw[l];exact rel.val k);exact wpAny_getItem_of (zbbw ry) dd.mapOf hw (h w' _ (I.tok _) rw')
 ·subst ey;cases(show u=Value.ref b from ry);obtain⟨z,hd,xs,rel,dd⟩:=zzw I.hok e;obtain⟨w',hw,rw'⟩:=RelO.some_of (v:=v) (o:=(atKey xs k).map (·.2)) (by rw[l];exact rel.val k);obtain⟨p,hp,hp2⟩:=xch.mp hw;refine wpAny_getItem_heap (xkd hu) (zrd I.hok eb) dd hp ?_;rw[hp2];exact h w' _ (I.tok _) rw'
theorem ztf {h':Heap}{t':Nat}{ob:HO}(I:Inv X aU σ H s)(mu:Mut (H a))(hs:Heap.SameBut a s.heap h')(he:∃q,h'.get? a=some q)(new:ObjOk X.prog X.w (upd H a ob) h' a ob) :
  Inv X aU σ (upd H a ob) {s with heap:=h',toks:=t'} :=
 I.write (x:=a) (e:=a) mu (.inl rfl) (fun b q hb z=>(hs.2 b hb).trans z) he new
theorem zbfp {P:Program}{w:World}{H':Hp}{h':Heap}{kvs:List (Key×V)}{vs:List (Key×Value)}(z:kvs.length<=sizeLine)(hd:(a==sysModules)=false)(rel:KV kvs vs)(dd:h'.DictOf (mixKind P w) a vs) :
 ObjOk P w H' h' a (.dK kvs):=⟨z,hd,vs,rel,dd⟩
theorem zrr {H':Hp}{Q:Unit->Shared->Prop}(hu:A.units+1 < cLine)(I:Inv X aU σ H s)(g:DPut H a y v H')(ry:RelV y u)(rv:RelV v r)(h:∀s',Inv X aU σ H' s'->Q () s') :
  wpAny (model X.prog X.w) A (setItem (.ref a) u r) Q E s:=by
 rcases g with⟨kvs,k,e,ey,l,eH⟩ | ⟨kvs,k,b,e,ey,eb,l,eH⟩
 ·subst ey eH;obtain⟨z,hd,vs,rel,dd⟩:=zbiu I.hok e;have hz:vs.length<=sizeLine:=by rw[← rel.length];exact z
  have hl:(putK kvs k v).length<=sizeLine:=by have:=zgm kvs k v;lia
  refine wpAny_setItem_pairs (hsz:=hz) (zbbw ry) dd fun h' dd' hs=>h _ ?_
  have he:∃q,h'.get? a=some q:=let ⟨q,_,_,hq,_⟩:=dd';⟨q,hq⟩
  exact ztf I (by rw[e];exact True.intro) hs he (zbfp hl hd (rel.put k rv) dd')
 ·subst ey eH;cases(show u=Value.ref b from ry);obtain⟨z,hd,xs,rel,dd⟩:=zbis I.hok e;have hz:xs.length<=sizeLine:=by rw[← xin rel];exact z
  have hl:(putK kvs k v).length<=sizeLine:=by have:=zgm kvs k v;lia
  refine wpAny_setItem_heap (hsz:=hz) (xkd hu) (zrd I.hok eb) dd fun h' dd' hs=>h _ ?_
  obtain⟨q,es,ep,hq,h2,h3,h4,_,h5⟩:=dd';refine ztf I (by rw[e];exact True.intro) hs ⟨q,hq⟩ ⟨hl,hd,_,(rel.put k eb rv).keeps fun c ys ec=>?_,q,es,ep,hq,h2,h3,h4,h5⟩;rw[zr (zbih ec e (fun z=>nomatch z))];exact ec
end
section
variable {X:Cx}{aU:List (Addr×Obj)}{σ:St}{H:Hp}{s:Shared}{a:Addr}{kvs:List (Key×V)}{k:Key}{u:Value}{A:Around}{E:Value->Shared->Prop}
end
noncomputable def NoSl (i:Expr):Prop:=∀ov iv,subscripted i false ov iv=operate [ov,iv] (getItem ov iv)
theorem zxg {prog:Program}{w:World}{A:Around}{E:Value->Shared->Prop}{s:Shared}{env:Env}{value slice:Expr}{pos:Pos}{T id:String}{Q:Value->Shared->Prop}
  (hl:typeLookup (.type T) "__getitem__"=pure (some (.builtin id)))(hs:NoSl slice)
  (h:wpAny (model prog w) A (eval value env) (fun o s₁=>wpAny (model prog w) A (eval slice env) (fun i s₂=>s₂.TypeIs o T/\wpAny (model prog w) A (getItem o i) Q E s₂) E s₁) E s) :
  wpAny (model prog w) A (eval (.Subscript value slice pos) env) Q E s:=by
 refine Subscript_ (xea h (fun o s₁ h₁=>xea h₁ (fun i s₂ h₂=>?_) fun _ _ x=>x) fun _ _ x=>x);obtain⟨hT,h₂⟩:=h₂;unfold subscriptTail;refine xba ?_;rw[getitemInPython_of_ne hT.not_modules];refine xba (wpAny_specialOf hT hl ?_);have fin:wpAny (model prog w) A (subscripted slice false o i) (fun r s₃=>wpAny (model prog w) A (letTemporaryGo value o r >>= fun _=>pure r) Q E s₃) E s₂:=by
  rw[hs o i];exact wpAny_operating (xea h₂ (fun r s₃ h₃=>xba (wpAny_letTemporaryGo (xbe h₃))) fun _ _ x=>x)
 first
  | exact xbe (xba fin)
  | exact xba (xbe (xba fin))
  | exact xba fin
theorem zmr {X:Cx}{aU:List (Addr×Obj)}{σ:St}{H:Hp}{s:Shared}{a:Addr}{y:V}{o:Option V}(I:Inv X aU σ H s)(g:DGet H a y o):s.TypeIs (.ref a) "dict":=by
 rcases g with⟨kvs,k,e,_,_⟩ | ⟨kvs,k,b,e,_,_,_⟩
 ·obtain⟨_,_,vs,_,dd⟩:=zbag I.hok e;exact dd.typeIs
 ·obtain⟨_,_,xs,_,dd⟩:=zzw I.hok e;exact dd.typeIs
noncomputable def tDGet (td ty:TE):TE:=fun σ H Q=>td σ H fun x H1=>ty σ H1 fun y H2=>∃a v,x=.ref a/\DGet H2 a y (some v)/\Q v H2
noncomputable def sDPut (td ty tv:TE):TS:=fun D σ H=>tv σ H fun v H1=>td σ H1 fun x H2=>ty σ H2 fun y H3=>∃a H4,x=.ref a/\DPut H3 a y v H4/\D.nx σ H4
section
variable {X:Cx}{o i e value:Expr}{pos pos' tpos:Pos}{td ty tv:TE}
theorem zyh (hu:X.A.units+1 < cLine)(ho:PE X o td)(hi:PE X i ty)(hs:NoSl i):PE X (.Subscript o i pos) (tDGet td ty):=by
 intro aU s σ H Q I h;refine zxg F.slot_dict_getitem.lookup hs (thn (ho aU s σ H _ I h) fun u s1 ⟨x,H1,I1,rx,q1⟩=>thn (hi aU s1 σ H1 _ I1 q1) fun iv s2 hq0=>?_);obtain⟨y,H2,I2,ry,a,v,ex,g,q2⟩:=hq0;subst ex;obtain rfl:u=Value.ref a:=rx;exact⟨zmr I2 g,zrt hu I2 g ry fun w' s3 I3 rw'=>⟨v,H2,I3,rw',q2⟩⟩
theorem zxu (hu:X.A.units+1 < cLine)(ho:PE X o td)(hi:PE X i ty)(hv:PE X value tv)(hs:swapsWith value (some (.Subscript o i pos')) pos.line X.env=pure false) :
  PS X (.Assign [.Subscript o i pos'] value pos) (sDPut td ty tv):=by
 intro aU s σ H D I h;refine wpAny_Assign_Subscript (thn (hv aU s σ H _ I h) fun r s1 ⟨v,H1,I1,rv,q1⟩=>thn (ho aU s1 σ H1 _ I1 q1) fun u s2 ⟨x,H2,I2,rx,q2⟩=>thn (hi aU s2 σ H2 _ I2 q2) fun iv s3 hq0=>?_) hs;obtain⟨y,H3,I3,ry,a,H4,ex,g,q3⟩:=hq0;subst ex;obtain rfl:u=Value.ref a:=rx;exact zrr hu I3 g ry rv fun s4 I4=>⟨σ,H4,I4,q3⟩
end
theorem zvn {P:Program}{w:World}{H:Hp}(h:Heap)(hb:sysModules < h.objs.size):ObjOk P w H (h.push { cls:=.type "dict", data:=.dict #[] }) h.objs.size (.dT []) :=
 ⟨xdg _,xfw.mpr (xci (xcj hb)),[],.nil,_,#[],0,xbm _ rfl,⟨rfl,rfl,rfl⟩,rfl,rfl,xhz⟩
noncomputable def tDNewT:TE:=fun _ H Q=>∀p,H p=none->Q (.ref p) (upd H p (.dT []))
section
variable {X:Cx}{pos:Pos}
theorem zup:PE X (.Dict [] [] pos) tDNewT:=fun aU s σ H Q I h =>
 wpAny_Dict_empty ⟨.ref s.heap.objs.size,_,I.laid (a:=s.heap.objs.size) (o:=.dT []) (t':=s.toks) (fun _ _ q=>xbb _ q) (xbf _) (zvn s.heap I.big),rfl,h _ (I.hok.fresh (xbf _))⟩
end
structure M2 (X:Cx) (o:Expr) (m:Str) (apos:Pos) (e f:Expr) (cpos:Pos):Prop where
 base:attributeBase o m X.env (eval o X.env)=eval o X.env
 few:((backTo cpos (starEach [e,f] X.env)).all (fun x=>!x.1)&&(backToKw cpos (keywordEach [] X.env)).all (fun x=>x.1.isSome)
  && decide (([e,f]:List Expr).length+([]:List Keyword).length+(if([]:List Keyword).isEmpty then 0 else 1) < 30))=true
 line:(apos.endLine==cpos.line)=true
 trees:backTo cpos (starEach [e,f] X.env)=[(false,eval e X.env),(false,eval f X.env)]
noncomputable def IsD (H:Hp) (a:Addr):Prop:=(∃kvs,Rd H a (.dK kvs))\/∃kvs,Rd H a (.dT kvs)
theorem zber {X:Cx}{aU:List (Addr×Obj)}{σ:St}{H:Hp}{s:Shared}{a:Addr}(I:Inv X aU σ H s)(d:IsD H a) :
  s.TypeIs (.ref a) "dict"/\(∀ b, Value.ref a=.ref b->∃ ob, s.heap.get? b=some ob/\ob.dict=none)/\(a==sysModules)=false:=by
 rcases d with⟨kvs,e⟩ | ⟨kvs,e⟩
 ·obtain⟨_,hd,vs,_,dd⟩:=zbag I.hok e;refine⟨dd.typeIs,fun b q=>?_,hd⟩;cases q;obtain⟨ob,_,_,h1,h2,_⟩:=dd;exact⟨ob,h1,h2.2.1⟩
 ·obtain⟨_,hd,xs,_,dd⟩:=zzw I.hok e;refine⟨dd.typeIs,fun b q=>?_,hd⟩;cases q;obtain⟨ob,_,_,h1,h2,_⟩:=dd;exact⟨ob,h1,h2.2.1⟩
section
variable {X:Cx}{aU:List (Addr×Obj)}{σ:St}{H:Hp}{s:Shared}{a:Addr}{y d:V}{u r:Value}{o:Option V}{A:Around}{E:Value->Shared->Prop}
theorem zbfz {Q:Value->Shared->Prop}(hu:A.units+1 < cLine)(I:Inv X aU σ H s)(g:DGet H a y o)(ry:RelV y u)(rd:RelV d r)(h:∀w' s',Inv X aU σ H s'->RelV (o.getD d) w'->Q w' s') :
  wpAny (model X.prog X.w) A (call (.builtin "dict.get") [.ref a, u, r]) Q E s:=by
 rcases g with⟨kvs,k,e,ey,l⟩ | ⟨kvs,k,b,e,ey,eb,l⟩
 ·subst ey;obtain⟨z,hd,vs,rel,dd⟩:=zbag I.hok e;refine call_meetsIn xiz dd.typeIs F.entry_dict_get (F.args_dict_get_3 _ _ _) (meets_dict_get_default (mixKind X.prog X.w) a (zbbw ry) hd r) ⟨_,dd.mapOf,h _ _ (I.tok _) ?_⟩;rw[l];exact(rel.val k).getD rd
 ·subst ey;cases(show u=Value.ref b from ry);obtain⟨z,hd,xs,rel,dd⟩:=zzw I.hok e;refine call_meetsIn xiz dd.typeIs F.entry_dict_get (F.args_dict_get_3 _ _ _) (meetsH_dict_get_default (tupleKind (mixKind X.prog X.w)) a b hd r) ⟨xkd hu,k,xs,zrd I.hok eb,dd,h _ _ (I.tok _) ?_⟩;rw[l];exact(rel.val k).getD rd
end
noncomputable def tDGet2 (td ty tx:TE):TE:=fun σ H Q=>td σ H fun x H1=>∃a,x=.ref a/\IsD H1 a/\ty σ H1 fun y H2=>tx σ H2 fun z H3=>∃o,DGet H3 a y o/\Q (o.getD z) H3
section
variable {X:Cx}{o e f:Expr}{apos cpos:Pos}{td ty tx:TE}
theorem zuq (hu:X.A.units + 1 < cLine)(ho:PE X o td)(he:PE X e ty)(hf:PE X f tx)(m:M2 X o "get" apos e f cpos):PE X (.Call (.Attribute o "get" apos) [e, f] [] cpos) (tDGet2 td ty tx):=by
 intro aU s σ H Q I h;refine wpAny_Call_method m.base m.few m.line F.plainAttrs_dict xiz F.type_dict_get (thn (ho aU s σ H _ I h) fun u s1 hq0=>?_);obtain⟨x,H1,I1,rx,a,ex,d,q1⟩:=hq0;subst ex;obtain rfl:u=Value.ref a:=rx;obtain⟨t1,t2,_⟩:=zber I1 d;refine⟨t1,t2,?_⟩;rw[m.trees]
 refine Calls.callWith_builtin rfl (Calls.evalArgs_plain (xjr (thn (he aU s1 σ H1 _ I1 q1) fun iv s2 ⟨y,H2,I2,ry,q2⟩ =>
  xjr (thn (hf aU s2 σ H2 _ I2 q2) fun fv s3 ⟨z,H3,I3,rz,ov,g,q3⟩=>Calls.spliced_nil ?_))))
 exact zbfz hu I3 g ry rz fun w' s4 I4 rw'=>⟨_,H3,I4,rw',q3⟩
end
section
variable {X:Cx}{aU:List (Addr×Obj)}{σ:St}{H:Hp}{s:Shared}{a:Addr}{kvs:List (Key×V)}{A:Around}{E:Value->Shared->Prop}
end
section
variable {X:Cx}{aU:List (Addr×Obj)}{σ:St}{H:Hp}{s:Shared}{a:Addr}{y:V}{u:Value}{A:Around}{E:Value->Shared->Prop}
end
end L2
namespace Att
open PySem PySem.W PySem.Calls PyProof.Rows
theorem zge {P:Params}{h:Heap}:∀(ns:List Int) (vs:List Value),WellAll P h vs (ns.map WData.int)->IntsAre vs ns:=by
 intro ns
 induction ns with
 | nil =>
  intro vs w;rw[xkn] at w;cases w;exact .nil
 | cons n ns ih =>
  intro vs w;rw[xbx] at w;cases w with
  | cons a b =>
   cases a;exact .cons _ _ (ih _ b)
theorem zqi {l:OpenLaw}{n:Nat}(hn:l.most=some n){P:Params}{h:Heap}{args:List WData}{vals:List Value}
  (hpre:l.row.toRowW.claim.pre args=true)(hwl:WellAll P h vals args) :
  ∃ a vs ns, vals=[Value.ref a]/\args=[WData.list (ns.map WData.int)]/\h.get? a=some { cls:=.type "list", data:=.seq vs.toArray }/\IntsAre vs ns/\ns.length<=n:=by
 have hsh:WShape.hasAll [] args [.list .int]=true:=(pre_splitW hpre).1;have hc:l.pre.holds [] {args:=args}=true:=(pre_splitW hpre).2;obtain⟨d,r,rfl,h1,h2⟩:=hasAllW_cons hsh;obtain rfl:=hasAllW_nil h2;obtain⟨xs,rfl,h3⟩:=hasW_list h1;obtain⟨ns,rfl⟩:=items_int h3;have hlen:ns.length<=n:=by
  unfold OpenLaw.pre at hc;have h4:(WTm.not (.lt (.lit (.int (n:Int))) (.len (.arg 0)))).holds [] {args:=[.list (ns.map .int)]}=true:=by
   have h4:=(holds_andW hc).1;rw[hn] at h4;exact h4
  have h5:=condW_of h4 (w_not (w_lt w_lit (w_len_list (w_arg rfl))));rw[xbd] at h5;refine xbw fun q=>?_
  have q':(n:Int) < ((ns.length:Nat):Int):=by lia
  first
   | (rw[xce q'] at h5;exact absurd h5 (by decide))
   | (simp at h5;lia)
 cases hwl with
 | cons w1 w2 =>
  cases w2;cases w1 with
  | list ho hall=>exact⟨_,_,ns,rfl,rfl,ho,zge ns _ hall,hlen⟩
theorem zqm (l:OpenLaw)(args:List WData):l.row.toRowW.claim.post args (.bool true) args=true :=
 postW_of (r:=l.row.toRowW) (X:=(true==true))
  (show WShape.has [] (.bool true) .bool=true by first | rfl | decide | simp[WShape.has,WShape.arms,WShape.armsAll])
  (show(WTm.eq .res (.lit (.bool true))).value [] {args:=args,res:=some (.bool true),after:=args}=some (.bool (true==true)) from w_eq_bool (w_res rfl) w_lit) rfl
theorem attach_call {l:OpenLaw}{n:Nat}{q:Program}{loose:List Str}{XP:(Str->Option Value)->Heap->Prop}{YP:World->Heap->Prop}{d:DefRec}
  (hn:l.most=some n)(hdf:d.params.defaults=[])
  (call:∀(w:World) (s₀ s₁:Shared) (mg mb:Str->Option Value) (fa:Addr) (o:Obj) (pm cd doc:Value) (a:Addr) (vs:List Value) (ns:List Int),
   Ground q loose [] XP w s₀ mg mb s₁.heap->YP w s₁.heap ->
   s₁.heap.get? fa=some o->o.data=.func (docDef d.name d.params d.body d.scope pm cd doc)->s₁.heap.CodeRec cd d.name->mg d.name=some (.ref fa) ->
   s₁.heap.get? a=some { cls:=.type "list", data:=.seq vs.toArray }->IntsAre vs ns->ns.length<=n->s₁.gens=#[] ->
   codeAny (model l.prog w) callerA (.call (.ref fa) ⟨[.ref a],[]⟩) (fun r s'=>r=.ok (.ret (.bool true))/\OldK s₁.heap s'.heap/\s'.os=s₁.os/\AllBare s'.gens) s₁) :
  WalkO q loose XP YP l.row.toRowW d [] (fun f vs=>PySem.call f vs):=by
 intro w s₀ s₁ mg mb G Y fa o pm cd doc dV kV ho hd hcd hD hmg hg args vals as hpre hlay hrd hwl hlo;obtain rfl:dV=.none:=Dflts.none hD hdf;obtain rfl:kV=.none:=Dflts.noKw hD;obtain⟨a,vs,ns,rfl,rfl,hobj,hints,hlen⟩:=zqi hn hpre hwl;refine enter_call (codeAny_mono (call w s₀ s₁ mg mb fa o pm cd doc a vs ns G Y ho (fd_plain hd) hcd hmg hobj hints hlen hg) fun r s' hq=>?_);obtain⟨rfl,h2,h3,h4⟩:=hq;exact⟨.inl ⟨.bool true,.bool true,[],rfl,fun _=>rfl,.bool true,zqm l _,fun _=>⟨List.Pairwise.nil,fun _ hm=>(nomatch hm)⟩⟩,h2,h3,h4⟩
section
variable {prog:Program}{w:World}{A:Around}{E:Value->Shared->Prop}{s:Shared}{K:Frag}
end
end Att
namespace L2
open PySem PySem.Spec PyProof.Rows
theorem zki:∀{vs:List Value} {ns:List Int},IntsAre vs ns->Vals (ns.map V.int) vs
 | _,_,.nil=>.nil
 | _,_,.cons n t h=>.cons ⟨t,rfl⟩ (zki h)
noncomputable def Only (H:Hp):Prop:=∀b,H b=none\/∃o xs,H b=some (.frz o (.lst xs))
theorem zvf {P:Program}{w:World}{K:Fg}{mg mb:Str->Option Value}{CX:CXT}{k:Nat}{fa a:Addr}{fd:FuncData}{x:Str}{sp:Sp}{s₁:Shared}{vs:List Value}{ns:List Int}
  (KX:K.In s₁.heap)(hns:s₁.heap.Ns mainGlobals mg)(hb:s₁.heap.Ns builtinsNs mb)(hbb:∀ x:Str, x≠"__name__"->mb x=bootBuiltins x)(hlim:s₁.heap.NoLimit)(hg:s₁.gens=#[])
  (ha:s₁.heap.get? a=some { cls:=.type "list", data:=.seq vs.toArray })(hi:IntsAre vs ns)(hl:ns.length<=sizeLine)(hr:Room k callerA)
  (F:∀base:Heap,K.In base->base.Ns mainGlobals mg->FnOk P w K mg base CX k fa fd [x] sp)(hbind:∀(s:Shared) (u:Value),BindsTo s fd ⟨[u],[]⟩ [(x,u)])
  (hsp:∀H:Hp,Only H->SqL K H a (ns.map V.int)->sp [.ref a] H (fun v _=>v=.bl true) fun _ _ _=>False)
  (hCX:∀H e s',CX [] H s₁ (fun _ _ _=>False) e s'->False) :
  codeAny (model P w) callerA (.call (.ref fa) ⟨[.ref a],[]⟩) (fun r s'=>r=.ok (.ret (.bool true))/\OldK s₁.heap s'.heap/\s'.os=s₁.os/\AllBare s'.gens) s₁:=by
 have rv:=zki hi;have lenV:=hi.length;have core:∀H:Hp,Only H->SqL K H a (ns.map V.int)->HOk P w H s₁.heap->(∀b,H b≠none->b=a)->(H a≠none->K.lookup a=none) ->
   codeAny (model P w) callerA (.call (.ref fa) ⟨[.ref a],[]⟩) (fun r s'=>r=.ok (.ret (.bool true))/\OldK s₁.heap s'.heap/\s'.os=s₁.os/\AllBare s'.gens) s₁:=by
  intro H hO hS hok hA hK;have base_of:∀{b:Addr} {o:Obj},s₁.heap.get? b=some o->H b=none->(hidT s₁.heap H).get? b=some o:=fun e n=>zvj e n
  have noA:∀{b:Addr} {o:Obj} {es:Array DictEntry} {ep:Nat},s₁.heap.get? b=some o->o.data=.dict es ep->H b=none:=fun {b o es ep} e d=>by
   cases q:H b with
   | none=>rfl
   | some u =>
    have e':b=a:=hA b (by rw[q];simp);subst e';rw[ha] at e;cases e
    have d':Data.seq vs.toArray _=Data.dict es ep:=d;cases d'
  have nsK:∀{b:Addr} {m:Str->Option Value},s₁.heap.Ns b m->(hidT s₁.heap H).Ns b m:=fun {b m} ⟨o,es,ep,e,d,r⟩=>⟨o,es,ep,base_of e (noA e d),d,r⟩
  have hKb:K.In (hidT s₁.heap H):=fun b o e=>base_of (KX b o e) (by
   cases q:H b with
   | none=>rfl
   | some u =>
    have e':b=a:=hA b (by rw[q];simp);subst e'
    rw[hK (by rw[q];simp)] at e;cases e)
  have hM:Mod K mg (hidT s₁.heap H):=⟨hKb,nsK hns,⟨mb,nsK hb,hbb⟩,let ⟨mc,h1,h2⟩:=hlim;⟨mc,nsK h1,h2⟩⟩
  have e0:Env0 P w K mg (hidT s₁.heap H) callerA [] s₁ H:=⟨rfl,hM,fun b o e=>zys e,xcy (zrj _ _),trivial,fun b hb=>absurd (show b∈([]:List Addr) from hb) (by simp),hok,.of_eq hg⟩
  refine codeAny_mono ((F _ hKb (nsK hns)).run callerA [] s₁ H ⟨[.ref a],[]⟩ [.ref a] [.ref a] _ _ hr e0 (hbind s₁ (.ref a)) (.cons rfl .nil) (hsp H hO hS)) fun r s' h=>?_
  cases r with
  | error e=>exact(hCX H e s' h).elim
  | ok fl =>
   cases fl with
   | next=>exact False.elim h
   | brk=>exact False.elim h
   | cont=>exact False.elim h
   | ret u =>
    obtain⟨v,H',os,bare,un,hok',r',q⟩:=h;have q':v=.bl true:=q;subst q';obtain rfl:u=Value.bool true:=r';refine⟨rfl,OldK.of_keep fun b o e=>?_,os,bare⟩;cases q:H b with
    | none=>exact un.keep b o e q (by intro z;exact absurd (show b∈([]:List Addr) from z) (by simp)) (by simp)
    | some u =>
     rcases hO b with z | ⟨ob,xs,z⟩
     ·rw[q] at z;cases z
     ·have z2:=un.frzs b ob _ z;obtain⟨e1,_⟩:=hok b _ z;obtain⟨e2,_⟩:=hok' b _ z2;rw[e] at e1;cases e1
      exact e2
 cases hk:K.lookup a with
 | some o =>
  have e:=KX a o hk;rw[ha] at e;cases e;refine core (fun _=>none) (fun _=>.inl rfl) (.inr ⟨_,vs.toArray,_,hk,rfl,rfl,rfl,by rw[xbo,lenV];exact hl,by simpa using rv⟩) (fun b u z=>by have z':(none:Option HO)=some u:=z;cases z') (fun b z=>absurd rfl z) fun z=>absurd rfl z
 | none =>
  refine core (fun b=>if b=a then some (.frz { cls:=.type "list", data:=.seq vs.toArray } (.lst (ns.map V.int))) else none) (fun b=>?_) (.inl (.inr ⟨{ cls:=.type "list", data:=.seq vs.toArray }, if_pos rfl⟩)) (fun b u z=>?_) (fun b z=>?_) fun _=>hk
  ·by_cases hb:b=a
   ·exact .inr ⟨_,_,if_pos hb⟩
   ·exact .inl (if_neg hb)
  ·by_cases hb:b=a
   ·have z':=(if_pos hb).symm.trans z;cases z';subst hb;exact⟨ha,by rw[xbd];exact hl,vs,_,rv,ha⟩
   ·have z':=(if_neg hb).symm.trans z;cases z'
  ·by_cases hb:b=a
   ·exact hb
   ·exact absurd (if_neg hb) z
theorem zwx {l:W.OpenLaw}{n k:Nat}{q:Program}{loose:List Str}{XP:(Str->Option Value)->Heap->Prop}{YP:World->Heap->Prop}{d:DefRec}{K:Params->Fg}{CX:World->CXT}{sp:World->Sp}{x:Str}
  (hn:l.most=some n)(hn2:n<=sizeLine)(hdf:d.params.defaults=[])(hr:Room k callerA)
  (hY:∀(w:World) (h:Heap),YP w h->(K w.params).In h)
  (F:∀(w:World) (mg:Str->Option Value) (fa:Addr) (h:Heap),(K w.params).In h->h.Ns mainGlobals mg->mg d.name=some (.ref fa) ->
   ∃fd:FuncData,(∀(s:Shared) (u:Value),BindsTo s fd ⟨[u],[]⟩ [(x,u)]) /\
    ∀base:Heap,(K w.params).In base->base.Ns mainGlobals mg->FnOk l.prog w (K w.params) mg base (CX w) k fa fd [x] (sp w))
  (hsp:∀(w:World) (H:Hp) (a:Addr) (ns:List Int),ns.length<=n->Only H->SqL (K w.params) H a (ns.map V.int)->sp w [.ref a] H (fun v _=>v=.bl true) fun _ _ _=>False)
  (hCX:∀(w:World) (H:Hp) (s:Shared) (e:Value) (s':Shared),CX w [] H s (fun _ _ _=>False) e s'->False) :
  W.WalkO q loose XP YP l.row.toRowW d [] (fun f vs=>PySem.call f vs):=by
 refine Att.attach_call hn hdf fun w s₀ s₁ mg mb fa o pm cd doc a vs ns G Y ho hd hcd hmg hobj hints hlen hg=>?_
 have KX:=hY w _ Y;obtain⟨fd,hb,hF⟩:=F w mg fa _ KX G.T.g hmg;exact zvf KX G.T.g G.T.b G.T.builtins G.T.nolimit hg hobj hints (xbc hlen hn2) hr hF hb (fun H hO hS=>hsp w H a ns hlen hO hS) fun H e s'=>hCX w H s₁ e s'
end L2
/- THE LAST THEOREM (shape;LID,My.* are yours):
 My.Adr: a structure of the addresses that your layer names (classes,functions);My.Txt K t: a structure (Prop) of the equations over K;
 My.txt_mk:{K} {implicit addresses ..} (e1:nsIn K mainGlobals "law"=some (some (.ref f))) (e2:K.lookup f=some ⟨oc, od, .func (fnOf "law" "law" params body scope dV kV doc pm an cdv ct), sl⟩) (e3:codeIn K cdv "law"=true) ..:∃ t, My.Txt K t
(the tactic k_is has no namespace: write k_is) -/
namespace L2
open PySem PySem.Spec PyProof.Rows
noncomputable def defArgs (s:Stmt):Arguments:=match s with
 | .FunctionDef _ a _ _ _ _ _ _ _ _=>a
 | _=>{posonlyargs:=[],args:=[],vararg:=none,kwonlyargs:=[],kw_defaults:=[],kwarg:=none,defaults:=[]}
noncomputable def defBody (s:Stmt):List Stmt:=match s with
 | .FunctionDef _ _ b _ _ _ _ _ _ _=>b
 | _=>[]
noncomputable def defScope (s:Stmt):Scope:=match s with
 | .FunctionDef _ _ _ _ _ _ sc _ _ _=>sc
 | _=>{kind:=.function,names:=[],isGenerator:=false,isCoroutine:=false}
noncomputable abbrev CX0:CXT:=fun _ _ _ _ _ _=>False
noncomputable abbrev E0:XK:=fun _ _ _=>False
theorem pass0 {X:Cx}:Passes CX0 X E0:=fun _ _ _ _ _ _ _ h=>h.elim
structure Fun (K:Fg) (x qual:Str) (st:Stmt) (f:Addr) (fd:FuncData):Prop where
 ex:∃(oc:Value) (od:Option Addr) (kV doc pm:Value) (an:Option Addr) (cdv ct:Value) (osl:Array (Option Value)),
  fd=W.fnOf x qual (defArgs st) (defBody st) (defScope st) .none kV doc pm an cdv ct/\K.lookup f=some ⟨oc,od,.func fd,osl⟩/\W.codeIn K cdv qual=true
 kp:W.keepIn K (.ref f)=true
section
variable {P:Program}{w:World}{K:Fg}{mg:Str->Option Value}{base:Heap}
theorem Fun.ok {x qual:Str}{st:Stmt}{f:Addr}{fd:FuncData}{N ps:List Str}{k:Nat}{sp:Sp}(F:Fun K x qual st f fd)(S:FnScope N ps (defScope st))(len:∀vs H Q E,sp vs H Q E->vs.length=ps.length)
  (hbody:∀(cdv:Value) (A:Around) (outer:List Env) (s:Shared) (H:Hp) (vs:List V) (Q:VK) (E:XK),Room k (A.deeper (envOfC qual (defScope st) s.heap.objs.size f cdv))->sp vs H Q E ->
   ∃t,PSs (cxOf CX0 P w K mg base N qual (defScope st) f cdv A outer s H E).nox (defBody st) t/\t {nx:=fun _ H'=>Q .non H',rt:=Q} (start N vs) H):FnOk P w K mg base CX0 (k+1) f fd ps sp:=by
 obtain⟨oc,od,kV,doc,pm,an,cdv,ct,osl,rfl,lk,hcd⟩:=F.ex;refine zbil lk hcd S len fun A outer s H vs Q E hr hsp=>?_
 obtain⟨t,h,q⟩:=hbody cdv A outer s H vs Q E hr hsp;exact⟨t,h.nox,q⟩
theorem Fun.binds {x qual:Str}{st:Stmt}{f:Addr}{fd:FuncData}{ps:List Str}(F:Fun K x qual st f fd)
  (h:∀(kV doc pm:Value) (an:Option Addr) (cdv ct:Value) (us:List Value),us.length=ps.length->bindArgs (W.fnOf x qual (defArgs st) (defBody st) (defScope st) .none kV doc pm an cdv ct) ⟨us,[]⟩=pure (ps.zip us)):Binds K fd ps []:=by
 obtain⟨oc,od,kV,doc,pm,an,cdv,ct,osl,rfl,lk,hcd⟩:=F.ex;exact .all (h kV doc pm an cdv ct)
theorem zbev {x qual:Str}{st:Stmt}{f:Addr}{oc:Value}{od an:Option Addr}{osl:Array (Option Value)}{kV doc pm cdv ct:Value}(l:K.lookup f=some ⟨oc,od,.func (W.fnOf x qual (defArgs st) (defBody st) (defScope st) .none kV doc pm an cdv ct),osl⟩)
 (c:W.codeIn K cdv qual=true)(k:W.keepIn K (.ref f)=true):Fun K x qual st f (W.fnOf x qual (defArgs st) (defBody st) (defScope st) .none kV doc pm an cdv ct):=⟨⟨oc,od,kV,doc,pm,an,cdv,ct,osl,rfl,l,c⟩,k⟩
end
theorem zbet {A:Around}{k:Nat}(hr:Room k A):A.units+1 < cLine:=xcp (xcd (by decide:1<=64) _) hr.units
section
variable {X:Cx}
theorem pv (i:Nat){x:Str}{pos:Pos}(hN:X.N[i]?=some x:=by rfl)(hv:Vis X.env.scope x:=by first | exact Or.inl rfl | exact Or.inr (Or.inl rfl) | exact Or.inr (Or.inr rfl))(hd:(x==("__debug__" : Str))=false:=by decide)
 (hcd:(x==("__classdict__" : Str))=false:=by decide):PE X (.Name x pos) (tVar i):=zbdh hN hv hd hcd
end
theorem iteF {A B:Prop}(h:B):if false=true then A else B:=by
 rw[if_neg xfi];exact h
theorem iteT {A B:Prop}(h:A):if true=true then A else B:=by
 rw[if_pos rfl];exact h
section
variable {X:Cx}
end
section
variable {κ:Type}[DecidableEq κ]
end
section
variable {P:Program}{w:World}{B:Around}{R:Result->Shared->Prop}{sh:Shared}
noncomputable abbrev NoX:Value->Shared->Prop:=fun _ _=>False
noncomputable abbrev testsOf (cs:List Expr) (ev:Env):Sem Bool :=
 forIn cs true fun d b=>if b=true then do let z ← isTrue d ev (eval d ev);pure (ForInStep.yield z) else pure (ForInStep.yield b)
noncomputable def CompStep (P:Program) (w:World) (B:Around) (tg x:Expr) (cs:List Expr) (ev:Env) (i l:Value) (K:Shared->Prop) (v:Value) (sa:Shared):Prop :=
 wpAny (model P w) B (letOwnedTupleGo tg i v) (fun _ sb=>wpAny (model P w) B (assign tg ev v) (fun _ sc=>wpAny (model P w) B (testsOf cs ev) (fun ok sd =>
  if ok=true then wpAny (model P w) B (eval x ev) (fun y se=>wpAny (model P w) B (call (.builtin "list.append") [l, y]) (fun _ sf=>K sf) NoX se) NoX sd else K sd) NoX sc) NoX sb) NoX sa
theorem zrw {tg it x:Expr}{cs:List Expr}{sc:Scope}{ps:Pos}{i l:Value}{ev:Env}(J:Nat->Shared->Prop)
  (go:∀k sk,J k sk->wpAny (model P w) B (pyNext i) (fun o sa=>match o with
   | none=>R (.ok .next) sa
   | some v=>CompStep P w B tg x cs ev i l (fun sf=>∃k',k' < k/\J k' sf) v sa) NoX sk)
  (k:Nat)(hJ:J k sh):codeAny (model P w) B (.compLoop (.ListComp x [⟨tg,it,cs,0⟩] sc ps) 0 i l ev) R sh:=by
 have none_:∀{E:Value->Shared->Prop} (e:Value) (z:Shared),NoX e z->E e z:=fun _ _ z=>z.elim
 refine codeAny_loop rfl J (fun k sk hk=>wpAny_noted (by
  rw[compTurn_list];refine xba (wpAny_standAt (xba (xea (go k sk hk) (fun o sa ho=>?_) none_)))
  match o,ho with
  | none,ho=>exact xbe ho
  | some v,ho =>
   refine xba (xea ho (fun _ sb hb=>xba (xea hb (fun _ sc' hc=>xba (xea hc (fun ok sd hd=>?_) none_)) none_)) none_)
   match ok,hd with
   | false,hd=>exact xbe (And.intro rfl hd)
   | true,hd=>exact xba (xba (xea hd (fun y se he=>xba (xea he (fun _ sf hf=>xbe (xbe (And.intro rfl hf))) none_)) none_)))) k hJ
end
theorem zjz {env:Env}:∀(names:List (Str×NameKind)) (acc:List (Str×Addr)),(∀y∈names,y.2=.free->∃c,env.cells.lookup y.1=some c)->(∀x c,acc.lookup x=some c->env.cells.lookup x=some c) ->
  ∃cl:List (Str×Addr),(forIn names acc (fun x r=>if(x.2==NameKind.free)=true then do let a ← cellOf env x.1;pure (ForInStep.yield ((x.1,a)::r)) else pure (ForInStep.yield r)):Sem (List (Str×Addr)))=pure cl /\
   (∀x c,cl.lookup x=some c->env.cells.lookup x=some c)/\(∀x c,acc.lookup x=some c->∃c',cl.lookup x=some c')/\∀x,(x,NameKind.free)∈names->∃c,cl.lookup x=some c:=by
 intro names
 induction names with
 | nil=>intro acc _ ha;exact⟨acc,rfl,ha,fun x c e=>⟨c,e⟩,fun x z=>(nomatch z)⟩
 | cons y r ih =>
  intro acc hf ha;obtain⟨n,k⟩:=y;by_cases hk:k=.free
  ·subst hk;obtain⟨c,hc⟩:=hf (n,.free) xbz rfl
   obtain⟨cl,e,h1,h2,h3⟩:=ih ((n,c)::acc) (fun y hy=>hf y (xca _ hy)) (fun x c' e=>by
    rw[xeq] at e;by_cases hx:x=n
    ·subst hx;rw[xfx] at e;cases e;exact hc
    ·rw[xfw.mpr hx] at e
     exact ha x c' e)
   refine⟨cl,?_,h1,fun x c' e'=>?_,fun x hx=>?_⟩
   ·rw[xjh];simp only[xfx,ite_true];have q:cellOf env n=pure c:=by unfold cellOf;rw[hc]
    rw[q];simp only[pure_bind];exact e
   ·by_cases hx:x=n
    ·subst hx;exact h2 x c (by rw[xeq,xfx])
    ·exact h2 x c' (by rw[xeq,xfw.mpr hx];exact e')
   ·rcases xbn.mp hx with z | z
    ·cases z;exact h2 n c (by rw[xeq,xfx])
    ·exact h3 x z
  ·obtain⟨cl,e,h1,h2,h3⟩:=ih acc (fun y hy=>hf y (xca _ hy)) ha;refine⟨cl,?_,h1,h2,fun x hx=>?_⟩
   ·rw[xjh];have hb:(k==NameKind.free)=false:=by simpa using hk
    simp only[hb,xdk,xfq,pure_bind];exact e
   ·rcases xbn.mp hx with z | z
    ·cases z;exact absurd rfl hk
    ·exact h3 x z
theorem zpb {scope:Scope}{env:Env}(h:∀y∈scope.names,y.2=.free->∃c,env.cells.lookup y.1=some c) :
  ∃cl,closureFor scope env=pure cl/\(∀x c,cl.lookup x=some c->env.cells.lookup x=some c)/\∀x,(x,NameKind.free)∈scope.names->∃c,cl.lookup x=some c:=by
 obtain⟨cl,e,h1,_,h3⟩:=zjz (env:=env) scope.names [] h (fun x c e=>(nomatch e));refine⟨cl,?_,h1,h3⟩;unfold closureFor;have e':=congrArg (fun m=>m >>= fun r=>(pure r:Sem (List (Str×Addr)))) e;simp only[pure_bind] at e';exact e'
theorem zbg {env:Env}:∀{names:List (Str×NameKind)} {x:Str} {k:NameKind},(names.map fun(n,k)=>if(k==NameKind.free&&env.scope.kind==.function&&env.kindOf n==some .cell) then(n,NameKind.cell) else(n,k)).lookup x=some k ->
  names.lookup x=some k\/(k=.cell/\names.lookup x=some .free)
 | [],_,_,h=>by simp at h
 | (n,k')::r,x,k,h=>by
  have ih:=@zbg env r x k;have h':List.lookup x ((if(k'==NameKind.free&&env.scope.kind==.function&&env.kindOf n==some .cell)=true then(n,NameKind.cell) else(n,k'))::_)=_:=h;cases hx:x==n with
  | true =>
   by_cases hc:(k'==NameKind.free&&env.scope.kind==.function&&env.kindOf n==some .cell)=true
   ·rw[if_pos hc] at h';simp only[xeq,hx] at h' ⊢;cases h';rw[xdj,xdj] at hc;exact .inr ⟨rfl,by rw[eq_of_beq hc.1.1]⟩
   ·rw[if_neg hc] at h';simp only[xeq,hx] at h' ⊢;exact .inl h'
  | false =>
   have h2:(r.map fun(n,k)=>if(k==NameKind.free&&env.scope.kind==.function&&env.kindOf n==some .cell) then(n,NameKind.cell) else(n,k)).lookup x=some k:=by
    by_cases hc:(k'==NameKind.free&&env.scope.kind==.function&&env.kindOf n==some .cell)=true
    ·rw[if_pos hc] at h';simp only[xeq,hx] at h';exact h'
    ·rw[if_neg hc] at h';simp only[xeq,hx] at h';exact h'
   simp only[xeq,hx];exact ih h2
noncomputable def cxC (X:Cx) (N:List Str) (scope:Scope) (cl:List (Str×Addr)) (C:Addr) (fp:List Addr) (s:Shared) (H:Hp):Cx :=
 {X with N:=N,s₀:=s,H₀:=H,env:=compEnvC scope cl C X.env,outer:=X.stack,ex:=fp,fn:=fun _=>false,pn:=[],xe:=fun _ _=>False}
noncomputable def startC (k:Nat) (is:List Nat) (σ:St):St:=List.replicate k none++is.map fun i=>(σ[i]?).getD none
structure CompScope (X:Cx) (N:List Str) (k:Nat) (is:List Nat) (scope:Scope):Prop where
 kind:scope.kind=.function
 nocell:∀y∈scope.names,y.2≠.cell
 names:∀y∈scope.names,y.2=.local->scope.names.lookup y.1=some .local
 frees:∀y∈scope.names,y.2=.free->X.env.kindOf y.1=some .cell\/X.env.kindOf y.1=some .free
 len:N.length=k+is.length
 own:∀j i,is[j]?=some i->∃x,N[k+j]?=some x/\X.N[i]?=some x/\scope.names.lookup x=some .free
theorem zdv {x:Str}{k:NameKind}{l:List (Str×NameKind)}(h:l.lookup x=some k):(x,k)∈l:=xfv h
section
variable {X:Cx}{aU:List (Addr×Obj)}{σ:St}{H:Hp}{s:Shared}
theorem zvh {N:List Str}{k:Nat}{is:List Nat}{scope:Scope}{cl:List (Str×Addr)}{fp:List Addr}{h1:Heap}{tk:Nat}(S:CompScope X N k is scope)(I:Inv X aU σ H s)
  (c1:∀x c,cl.lookup x=some c->X.env.cells.lookup x=some c)(c2:∀x,(x,NameKind.free)∈scope.names->∃c,cl.lookup x=some c)
  (hf:∀b∈fp,FpOk X aU H b)(hfo:∀b∈fp,∃o,s.heap.get? b=some o)(hn:h1.Ns s.heap.objs.size (fun _=>none))(hk:∀b o,s.heap.get? b=some o->h1.get? b=some o) :
  Inv (cxC X N scope cl s.heap.objs.size fp s H) [] (startC k is σ) H {s with heap:=h1,toks:=tk}:=by
 have hC:∀b o,s.heap.get? b=some o->b≠s.heap.objs.size:=fun b o e=>xcj (xbl e)
 have nfs:∀b∈fp,b∉frs X.stack:=fun b hb z=>by
  rcases xbn.mp (I.stkSub b z) with e | e
  ·exact(hf b hb).2.1 e
  ·exact(hf b hb).2.2.1 e
 refine⟨⟨I.ok.mod,S.kind,I.ok.glob,I.ok.blt,xbf _,fun x y c e1 e2=>I.ok.inj x y c (c1 x c e1) (c1 y c e2),fun x hx=>?_,fun x c z=>?_,I.ok.hd,I.ok.frames,.inl rfl,fun b hb=>⟨?_,fun x c e=>?_⟩,I.bs,xbc I.ok.bsz I.sz,fun b o e hb=>?_,nfs,I.stack,I.stkFree⟩,
  rfl,I.bare,Un.kept hk,⟨_,hn,fun i x v e1 e2 e3=>?_⟩,fun x c e=>?_,I.hok.fresh (xbf _),fun x c e=>I.freeC x c (c1 x c e),fun p hp=>(nomatch hp),I.hok.kept hk,?_,I.hnd⟩
 ·have hx':(scope.names.map fun(n,k)=>if(k==NameKind.free&&X.env.scope.kind==.function&&X.env.kindOf n==some .cell) then(n,NameKind.cell) else(n,k)).lookup x=some .cell\/(scope.names.map fun(n,k)=>if(k==NameKind.free&&X.env.scope.kind==.function&&X.env.kindOf n==some .cell) then(n,NameKind.cell) else(n,k)).lookup x=some .free:=hx;have q:scope.names.lookup x=some .free:=by
   rcases hx' with z | z
   ·rcases zbg z with q | ⟨_,q⟩
    ·exact absurd rfl (S.nocell _ (zdv q))
    ·exact q
   ·rcases zbg z with q | ⟨q,_⟩
    ·exact q
    ·cases q
  exact c2 x (zdv q)
 ·cases z
 ·obtain⟨o,e⟩:=hfo b hb;exact hC b o e
 ·exact(hf b hb).2.2.2.2.1 x c (c1 x c e)
 ·rcases(hf b hb).2.2.2.1 with z | z
  ·exact I.ok.noex b o e z
  ·exact absurd (xbg (xbl (I.ok.bs b o e).1) z) (xgl _)
 ·-- a name of the def around
  unfold startC at e2;have hi:k<=i:=by
   rcases xfe i k with z | z
   ·rw[xbv (by rw[xgg];exact z),xib,if_pos z] at e2;cases e2
   ·exact z
  rw[xco (by rw[xgg];exact hi),xgg,xcm] at e2;cases ej:is[i - k]? with
  | none=>rw[ej] at e2;cases e2
  | some j =>
   rw[ej] at e2;have e2':(σ[j]?).getD none=some v:=xck e2;obtain⟨y,y1,y2,y3⟩:=S.own (i - k) j ej;have ey:y=x:=by
    have z:N[i]?=some y:=by rw[← y1];congr 1;lia
    have e1':N[i]?=some x:=e1;rw[z] at e1';exact xck e1'
   subst ey;have e4:σ[j]?=some (some v):=by
    cases q:σ[j]? with
    | none=>rw[q] at e2';cases e2'
    | some o=>rw[q] at e2';exact congrArg some e2'
   have kd:=S.frees _ (zdv y3) rfl;have vis:Vis X.env.scope y:=.inr kd;obtain⟨m,_,hl⟩:=I.loc;obtain⟨u,r,lk⟩:=hl j y v y2 e4 vis;refine⟨u,r,?_⟩;rcases lk with⟨z,_⟩ | ⟨_,c,e5,cc⟩
   ·rcases kd with q | q<;>(rw[q] at z;cases z)
   ·obtain⟨c',e6⟩:=c2 y (zdv y3);have:c'=c:=by
     have z:=c1 y c' e6;rw[e5] at z;exact(xck z).symm
    subst this;refine .inr ⟨?_,c',e6,?_⟩
    ·rcases e3 with z | z | z
     ·exact absurd (zbg z) (by
       rw[y3];rintro(q | ⟨q,_⟩)
       ·cases q
       ·cases q)
     ·exact .inl z
     ·exact .inr z
    ·obtain⟨o,ho,hd⟩:=cc;exact⟨o,hk _ o ho,hd⟩
 ·obtain⟨v,o,ho,hd⟩:=I.cell x c (c1 x c e);exact⟨v,o,hk _ o ho,hd⟩
 ·unfold startC;rw[xbp,xgg,xbd];exact S.len.symm
theorem zvi {N:List Str}{scope:Scope}{cl:List (Str×Addr)}{fp:List Addr}{σ':St}{H':Hp}{s':Shared}{h':Heap}(I:Inv X aU σ H s)(hf:∀b∈fp,FpOk X aU H b)(J:Inv (cxC X N scope cl s.heap.objs.size fp s H) [] σ' H' s')
  (hs:Heap.SameBut s.heap.objs.size s'.heap h'):Inv X aU σ H' {s' with heap:=h'}:=by
 have hC:∀b o,s.heap.get? b=some o->b≠s.heap.objs.size:=fun b o e=>xcj (xbl e)
 have hH:H' s.heap.objs.size=none:=J.free;have B:Un (frs X.stack) fp H H' s.heap s'.heap:=J.base
 have U:Un (frs X.stack) fp H H' s.heap h':=⟨fun b o e n h1 h2=>hs.extBut b o (hC b o e) (B.keep b o e n h1 h2),fun b o e n h1 h2=>by
   obtain⟨sl,q⟩:=B.slot b o e n h1 h2;exact⟨sl,hs.extBut b _ (hC b o e) q⟩,B.free,fun b o e hx=>by
   obtain⟨o',q⟩:=B.there b o e hx
   exact⟨o',hs.extBut b o' (hC b o e) q⟩,B.tups,B.frzs,B.tbls⟩
 refine I.call' (s':={s' with heap:=h'}) J.os U (fun a o e=>?_) J.bare (fun b hb=>⟨(hf b hb).2.2.2.1,(hf b hb).2.1,(hf b hb).2.2.2.2.1,(hf b hb).2.2.2.2.2⟩);refine(J.hok a o e).stay (fun b u hb q=>hs.extBut b u ?_ q) (fun _ q=>q) fun _ _ q=>q
 rcases hb with z | z
 ·intro y;rw[z] at y;rw[y,hH] at e;cases e
 ·intro y;rw[y,hH] at z;cases z
end
structure OffC (X:Cx) (aU:List (Addr×Obj)) (H:Hp) (C:Addr):Prop where
 free:H C=none
 loc:C≠X.env.locals
 young:X.s₀.heap.objs.size<=C
 cell:∀x c,X.env.cells.lookup x=some c->c≠C
 pin:∀p∈X.pn++aU,p.1≠C
theorem OffC.back {X:Cx}{aU:List (Addr×Obj)}{σ:St}{H:Hp}{C:Addr}{s:Shared}{h':Heap}(o:OffC X aU H C)(I:Inv X aU σ H s)(hs:Heap.SameBut C s.heap h'):Inv X aU σ H {s with heap:=h'} :=
 I.turned (t':=s.toks) (fun b u hb e=>hs.extBut b u hb e) o.free o.loc (.inr o.young) o.cell o.pin
noncomputable def nxC (p:Addr) (te:TE) (tc:TT) (N:St->Hp->Prop):St->Hp->Prop:=fun σ2 H3=>tc σ2 H3 fun b H4 =>
 if b=true then te σ2 H4 fun y H5=>∃xs,H5 p=some (.lst xs)/\xs.length < sizeLine/\N σ2 (upd H5 p (.lst (xs++[y]))) else N σ2 H4
noncomputable def CompG (J:It) (g:TG) (tc:TT) (te:TE) (Q:VK) (p:Addr) (σ:St) (H:Hp):Prop:=∃W:Nat->Nat->St->Hp->Prop,(∃m,W 0 m σ H) /\
 ∀i m σ' H',W i m σ' H'->(J.stop i H'/\Q (.ref p) H')\/(J.go i H'/\∃N:St->Hp->Prop,(∀σ2 H2,N σ2 H2->∃m',m' < m/\W (i+1) m' σ2 H2)/\∀x H2,J.yld i H' x H2->g x σ' H2 (nxC p te tc N))
noncomputable def tComp (wi:TI) (k:Nat) (is:List Nat) (g:TG) (tc:TT) (te:TE):TE:=fun σ H Q=>wi σ H fun J H1=>∀p,H1 p=none->CompG J g tc te Q p (startC k is σ) (upd H1 p (.lst []))
noncomputable def tYes:TT:=fun _ H Q=>Q true H
section
variable {X:Cx}{tg iter elt:Expr}{ifs:List Expr}{wi:TI}{g:TG}{tc:TT}{te:TE}{N:List Str}{k:Nat}{is:List Nat}{scope:Scope}{pos:Pos}
noncomputable def PIf (X:Cx) (ifs:List Expr) (t:TT):Prop :=
 ∀(aU:List (Addr×Obj)) (s:Shared) (σ:St) (H:Hp) (Q:Bool->Hp->Prop),Inv X aU σ H s->t σ H Q ->
  wpAny (model X.prog X.w) X.A (forIn ifs true fun c r=>if r=true then do let ok ← isTrue c X.env (eval c X.env);pure (ForInStep.yield ok) else pure (ForInStep.yield r)) (TP X aU σ Q) X.xe s
theorem zxy:PIf X [] tYes:=fun aU s σ H Q I h=>wpAny_tests_nil ⟨H,I,h⟩
theorem zxx {c:Expr}{t:TT}(h:PT X c t):PIf X [c] t:=fun aU s σ H Q I hq=>wpAny_tests_one (h aU s σ H Q I hq)
theorem ziv (hcalm:X.calm=true)(hg:∀cl C fp s H,PG (cxC X N scope cl C fp s H) tg g)(hc:∀cl C fp s H,PIf (cxC X N scope cl C fp s H) ifs tc)(he:∀cl C fp s H,PE (cxC X N scope cl C fp s H) elt te)
  (S:CompScope X N k is scope){aU:List (Addr×Obj)}{σ:St}{H2:Hp}{s2:Shared}{cl:List (Str×Addr)}{it:Addr}{fp:List Addr}{tn:Nat->Heap->Prop}{J:It}{Q:VK}{E:Value->Shared->Prop}{RR:Value->Addr->Result->Shared->Prop}
  (I2:Inv X aU σ H2 s2)(T:Turn X.prog X.w X.K tg J fp it tn)(st2:tn 0 s2.heap)(f2:∀b∈fp,FpOk X aU H2 b)
  (c1:∀x c,cl.lookup x=some c->X.env.cells.lookup x=some c)(c2:∀x,(x,NameKind.free)∈scope.names->∃c,cl.lookup x=some c)
  (h:∀p,H2 p=none->∃W:Nat->Nat->St->Hp->Prop,(∃m,W 0 m (startC k is σ) (upd H2 p (.lst []))) /\
   ∀i m σ' H',W i m σ' H'->(J.stop i H'/\Q (.ref p) H')\/(J.go i H'/\∃N:St->Hp->Prop,(∀σ2 H2,N σ2 H2->∃m',m' < m/\W (i+1) m' σ2 H2)/\∀x H2,J.yld i H' x H2->g x σ' H2 (nxC p te tc N)))
  (hR:∀(p C:Addr) (s':Shared) (H':Hp) (m:Str->Option Value),OffC X aU H' C->s'.heap.Ns C m->Inv X aU σ H' s'->Q (.ref p) H'->RR (.ref p) C (.ok .next) s') :
  wpAny (model X.prog X.w) X.A (newList []) (fun acc s₃=>wpAny (model X.prog X.w) X.A (newFunctionEnv scope X.env.globals cl [] X.env.qual none .none (some X.env)) (fun cenv s₄ =>
   codeAny (model X.prog X.w) X.A (.compStart (.ListComp elt [⟨tg,iter,ifs,0⟩] scope pos) 0 (.ref it) acc {cenv with scope:=relabel scope X.env}) (RR acc cenv.locals) s₄) E s₃) E s2:=by
 refine xeb ?_;have fresh:H2 s2.heap.objs.size=none:=I2.fresh;have I3:Inv X aU σ (upd H2 s2.heap.objs.size (.lst [])) { s2 with heap:=s2.heap.push { cls:=.type "list", dict:=none, data:=.seq ([]:List Value).toArray } }:=I2.lnew (t':=s2.toks) (.nil) (by decide)
 generalize hs3:({ s2 with heap:=s2.heap.push { cls:=.type "list", dict:=none, data:=.seq ([]:List Value).toArray } }:Shared)=s3 at I3
 have k3:∀b o,s2.heap.get? b=some o->s3.heap.get? b=some o:=fun b o e=>by rw[← hs3];exact xbb _ e
 refine wpAny_newFunctionEnv S.nocell (by intro y hy;simp at hy) (fun h₁ hns₁ hsb₁=>?_) S.kind;have st3:tn 0 s3.heap:=T.keep _ _ _ st2 fun b _ o e=>k3 b o e
 have f3:∀b∈fp,FpOk X aU (upd H2 s2.heap.objs.size (.lst [])) b:=fun b hb=>by
  obtain⟨o,e,_⟩:=T.obj _ _ st2 b hb;exact⟨by rw[zr (xcj (xbl e))];exact(f2 b hb).1,(f2 b hb).2⟩
 have k4:∀b o,s3.heap.get? b=some o->h₁.get? b=some o:=fun b o e=>hsb₁.extBut b o (xcj (xbl e)) (xbb _ e)
 have J4:=zvh (tk:=s3.toks+([]:List (Str×Value)).length) S I3 c1 c2 f3 (fun b hb=>let ⟨o,e,_⟩:=T.obj _ _ st3 b hb;⟨o,e⟩) hns₁ k4;obtain⟨W,⟨m0,w0⟩,turn⟩:=h s2.heap.objs.size fresh;have st4:tn 0 h₁:=T.keep _ _ _ st3 fun b _ o e=>k4 b o e
 have loop:codeAny (model X.prog X.w) X.A (.compLoop (.ListComp elt [⟨tg,iter,ifs,0⟩] scope pos) 0 (.ref it) (.ref s2.heap.objs.size) (compEnvC scope cl s3.heap.objs.size X.env)) (RR (.ref s2.heap.objs.size) s3.heap.objs.size) {s3 with heap:=h₁,toks:=s3.toks+([]:List (Str×Value)).length}:=by
  have stat:∀{H':Hp},(∀b∈fp,H' b=none)->∀b∈fp,FpOk (cxC X N scope cl s3.heap.objs.size fp s3 (upd H2 s2.heap.objs.size (.lst []))) [] H' b:=fun {H'} hn b hb=>by
   obtain⟨o,e,_⟩:=T.obj _ _ st3 b hb;refine⟨hn b hb,xcj (xbl e),J4.ok.exfs b hb,.inl hb,fun x c e'=>(f3 b hb).2.2.2.2.1 x c (c1 x c e'),fun p hp=>(nomatch hp)⟩
  refine zrw (fun n s'=>∃i σ' H',Inv (cxC X N scope cl s3.heap.objs.size fp s3 (upd H2 s2.heap.objs.size (.lst []))) [] σ' H' s'/\tn i s'.heap/\(∀b∈fp,H' b=none)/\W i n σ' H') ?_ m0
   ⟨0,_,_,J4,st4,fun b hb=>(f3 b hb).1,w0⟩
  rintro n s5 ⟨i,σ5,H5,I5,st5,fr5,w5⟩;rcases turn i n σ5 H5 w5 with⟨stop,q⟩ | ⟨go,N',hN',step⟩
  ·refine thn (T.done (cxC X N scope cl s3.heap.objs.size fp s3 (upd H2 s2.heap.objs.size (.lst []))) rfl rfl rfl hcalm i [] s5 σ5 H5 _ I5 (stat fr5) st5 stop) fun r s6 hq0=>?_
   obtain⟨hr,I6⟩:=hq0;subst hr;obtain⟨m,hm,_⟩:=I6.loc;refine hR _ _ s6 H5 m ⟨I6.free,xfm I3.lt,I3.sz,fun x c e=>?_,fun p hp=>xcj (xbl (I3.pin p hp).1)⟩ hm (zvi (h':=s6.heap) I3 f3 I6 (.refl ..)) q;obtain⟨v,o,ho,_⟩:=I3.cell x c e;exact xcj (xbl ho)
  ·refine thn (T.item (cxC X N scope cl s3.heap.objs.size fp s3 (upd H2 s2.heap.objs.size (.lst []))) rfl rfl rfl hcalm i [] s5 σ5 H5 _ I5 (stat fr5) st5 go) fun r s6 hq0=>?_
   obtain⟨u,hr,h6⟩:=hq0;subst hr;refine thn h6 fun _ s7 hq0=>?_
   obtain⟨x,H7,I7,r7,y7,st7,fr7⟩:=hq0;have I7':=I7.pinned (stat fr7) (T.obj _ _ st7);refine thn (hg cl s3.heap.objs.size fp s3 _ _ s7 σ5 H7 x u _ I7' r7 (step x H7 y7)) fun _ s8 hq0=>?_
   obtain⟨σ8,H8,I8,q8⟩:=hq0;refine thn (hc cl s3.heap.objs.size fp s3 _ _ s8 σ8 H8 _ I8 q8) fun b s9 hq0=>?_
   obtain⟨H9,I9,q9⟩:=hq0;have again:∀{σ':St} {H':Hp} {s':Shared} {m':Nat},Inv (cxC X N scope cl s3.heap.objs.size fp s3 (upd H2 s2.heap.objs.size (.lst []))) ([]++pinsAt fp s7.heap) σ' H' s'->m' < n->W (i+1) m' σ' H' ->
     ∃m,m < n/\∃i σ' H',Inv (cxC X N scope cl s3.heap.objs.size fp s3 (upd H2 s2.heap.objs.size (.lst []))) [] σ' H' s'/\tn i s'.heap/\(∀b∈fp,H' b=none)/\W i m σ' H':=fun {σ' H' s' m'} I' hm w'=>by
    refine⟨m',hm,i+1,σ',H',I'.unpinned,T.keep _ _ _ st7 fun b hb o e=>(I'.pin (b,o) (xcx _ (xcx _ (zdu hb e)))).1,fun b hb=>?_,w'⟩;obtain⟨o,e,d⟩:=T.obj _ _ st7 b hb;exact(I'.pin (b,o) (xcx _ (xcx _ (zdu hb e)))).2.1
   cases b with
   | false =>
    obtain⟨m',hm,w'⟩:=hN' _ _ q9;exact again I9 hm w'
   | true =>
    refine thn (he cl s3.heap.objs.size fp s3 _ _ s9 σ8 H9 _ I9 q9) fun v s10 hq0=>?_
    obtain⟨y,H10,I10,r10,xs,hxs,hz,n10⟩:=hq0;obtain⟨m',hm,w'⟩:=hN' _ _ n10;refine thn (zks (X:=cxC X N scope cl s3.heap.objs.size fp s3 (upd H2 s2.heap.objs.size (.lst []))) _ s10 σ8 H10 (.ref s2.heap.objs.size) [y] _ [v] (fun _ H'=>H'=upd H10 s2.heap.objs.size (.lst (xs++[y]))) I10 rfl (.cons r10 .nil) ⟨_,xs,y,rfl,rfl,hxs,hz,rfl⟩) fun _ s11 hq0=>?_
    obtain⟨_,H11,I11,_,e11⟩:=hq0;subst e11;exact again I11 hm w'
 have hs3':s2.heap.push { cls:=.type "list", dict:=none, data:=.seq ([]:List Value).toArray }=s3.heap:=by rw[← hs3]
 have fin:=codeAny_compStart_list (elt:=elt) (target:=tg) (iter:=iter) (ifs:=ifs) (rest:=[]) (scope:=scope) (pos:=pos) loop (T.self X.A 0 _ _ _ st4 loop);exact fin
theorem zfv (S:CompScope X N k is scope){aU:List (Addr×Obj)}{σ:St}{H:Hp}{s:Shared}(I:Inv X aU σ H s) :
  ∃cl,closureFor scope X.env=pure cl/\(∀x c,cl.lookup x=some c->X.env.cells.lookup x=some c)/\∀x,(x,NameKind.free)∈scope.names->∃c,cl.lookup x=some c :=
 zpb fun y hy hf=>I.ok.has y.1 (S.frees y hy hf)
theorem zyi (hcalm:X.calm=true)(hi:PI X tg iter wi)(hg:∀cl C fp s H,PG (cxC X N scope cl C fp s H) tg g)(hc:∀cl C fp s H,PIf (cxC X N scope cl C fp s H) ifs tc)(he:∀cl C fp s H,PE (cxC X N scope cl C fp s H) elt te)
  (S:CompScope X N k is scope)(hs:∀x,foldedSetIterable iter X.env x=pure x:=by intro _;rfl):PE X (.ListComp elt [⟨tg,iter,ifs,0⟩] scope pos) (tComp wi k is g tc te):=by
 intro aU s σ H Q I h;obtain⟨cl,e,c1,c2⟩:=zfv S I;rw[eval_ListComp];refine wpAny_comprehension_free (use:=none) rfl hs e S.kind S.names (thn (hi aU s σ H _ I h) fun xv s1 h1=>thn h1 fun itv s2 h2=>?_);obtain⟨it,fp,tn,J,H2,e2,I2,T,st2,f2,h3⟩:=h2;subst e2;refine ziv (Q:=Q) (RR:=fun acc C=>compPost (model X.prog X.w) X.A X.xe none (EP X aU σ Q) acc C) hcalm hg hc he S I2 T st2 f2 c1 c2 h3 ?_;intro p C s' H' m off hm I' q;exact⟨m,hm,fun h' hs'=>⟨.ref p,H',off.back I' hs',rfl,q⟩⟩
theorem zsk {i:Nat}{x:Str}{pos':Pos}(hcalm:X.calm=true)(hN:X.N.Nodup)(hxi:X.N[i]?=some x)(hx:Loc X.env.scope x)(hi:PI X tg iter wi)(hg:∀cl C fp s H,PG (cxC X N scope cl C fp s H) tg g)(hc:∀cl C fp s H,PIf (cxC X N scope cl C fp s H) ifs tc)
  (he:∀cl C fp s H,PE (cxC X N scope cl C fp s H) elt te)(S:CompScope X N k is scope){spos:Pos}(hsw:swapsWith (.ListComp elt [⟨tg,iter,ifs,0⟩] scope pos) (some (.Name x pos')) spos.line X.env=pure true:=by rfl)
  (hf:X.fn x=true\/X.env.scope.names.lookup x=some .local:=by first | exact .inl rfl | exact .inr rfl | assumption)
  (hs:∀x,foldedSetIterable iter X.env x=pure x:=by intro _;rfl):PS X (.Assign [.Name x pos'] (.ListComp elt [⟨tg,iter,ifs,0⟩] scope pos) spos) (tAsg (tComp wi k is g tc te) (gName i)):=by
 intro aU s σ H D I h;obtain⟨cl,e,c1,c2⟩:=zfv S I;rw[exec_Assign_Name_used (hs:=hsw)];refine xba (wpAny_standAt (xba (?_:wpAny _ X.A _ _ _ s)));show wpAny _ X.A (do let _ ← comprehension (.ListComp elt [⟨tg,iter,ifs,0⟩] scope pos) scope X.env _ (newList []) false (eval iter X.env) (some (assign (.Name x pos') X.env))) _ _ s
 refine xba (xea (wpAny_comprehension_free (use:=some (assign (.Name x pos') X.env)) (Q:=fun _ s'=>SP X aU D .next s') rfl hs e S.kind S.names
  (thn (hi aU s σ H _ I h) fun xv s1 h1=>thn h1 fun itv s2 h2=>?_)) (fun _ s' hq=>xbe (xbe hq)) fun _ _ e=>e)
 obtain⟨it,fp,tn,J,H2,e2,I2,T,st2,f2,h3⟩:=h2;subst e2;refine ziv (Q:=fun v H'=>gName i v σ H' D.nx) (RR:=fun acc C=>compPost (model X.prog X.w) X.A X.xe (some (assign (.Name x pos') X.env)) (fun _ s'=>SP X aU D .next s') acc C) hcalm hg hc he S I2 T st2 f2 c1 c2 h3 ?_;intro p C s' H' m off hm I' q;show wpAny _ X.A (assign (.Name x pos') X.env (.ref p)) _ _ _;refine wpAny_assign_Name (zkl (v:=.ref p) I' hN hxi hx rfl (fun s'' I'' hq0=>?_) hf);obtain⟨a,hsb,ha⟩:=hq0;have hCa:C≠a:=by
  rcases ha with z | z
  ·rw[z];exact off.loc
  ·exact(off.cell x a z).symm
 exact⟨m,hm.sameBut hsb hCa,fun h' hs'=>⟨_,H',off.back I'' hs',q⟩⟩
end
section
variable {g:TG}{tc:TT}{te:TE}{Q:VK}{σ:St}{H:Hp}{p:Addr}
end
noncomputable def Callee (P:Program) (w:World) (K:Fg) (mg:Str->Option Value) (base:Heap) (x:Str) (k:Nat) (ps:List Str) (sp:Sp):Prop :=
 ∃f fd,FnOk P w K mg base CX0 k f fd ps sp/\Binds K fd ps []/\W.keepIn K (.ref f)=true/\mg x=some (.ref f)
section
variable {X:Cx}{x:Str}{k:Nat}{ps:List Str}{sp:Sp}{p pos:Pos}{e:Expr}{es:List Expr}{t:TA}
theorem zur (c:Callee X.prog X.w X.K X.mg X.base x k ps sp)(hr:Room k X.A)(hg:Gl X x)(ha:PA X (e::es) t)(hdb:(x==("__debug__" : Str))=false:=by decide)
  (he:starEach (e::es) X.env=(false,eval e X.env)::starEach es X.env:=by rfl)(hpl:(backTo pos (starEach es X.env)).any (·.1)=false:=by rfl) :
  PE X (.Call (.Name x p) (e::es) [] pos) (tCall sp [] E0 t):=by
 obtain⟨f,fd,F,b,kp,m⟩:=c;exact zyk F hr hg m kp b .nil pass0 ha hdb he hpl
end
noncomputable def TopF (K:Fg) (x:Str) (st:Stmt):Prop :=
 ∃f fd,W.nsIn K mainGlobals x=some (some (.ref f))/\Fun K x x st f fd
theorem zbr {K:Fg}{x:Str}{st:Stmt}{f:Addr}{od an:Option Addr}{sl:Array (Option Value)}{oc kV dc pm cd ct:Value}
  (a:W.nsIn K mainGlobals x=some (some (.ref f)))(l:K.lookup f=some ⟨oc,od,.func (W.fnOf x x (defArgs st) (defBody st) (defScope st) .none kV dc pm an cd ct),sl⟩)(c:W.codeIn K cd x=true)(k:W.keepIn K (.ref f)=true):TopF K x st :=
 ⟨f,_,a,zbev l c k⟩
theorem zrx {P:Program}{w:World}{K:Fg}{mg:Str->Option Value}{base h:Heap}{x:Str}{st:Stmt}{N ps:List Str}{k:Nat}{sp:Sp}(T:TopF K x st)(X:K.In h)(G:h.Ns mainGlobals mg)(S:FnScope N ps (defScope st))
  (bd:∀(kV doc pm:Value) (an:Option Addr) (cdv ct:Value) (us:List Value),us.length=ps.length->bindArgs (W.fnOf x x (defArgs st) (defBody st) (defScope st) .none kV doc pm an cdv ct) ⟨us,[]⟩=pure (ps.zip us))
  (len:∀vs H Q E,sp vs H Q E->vs.length=ps.length)
  (hbody:∀(f:Addr) (cdv:Value) (A:Around) (outer:List Env) (s:Shared) (H:Hp) (vs:List V) (Q:VK) (E:XK),Room k (A.deeper (envOfC x (defScope st) s.heap.objs.size f cdv))->sp vs H Q E ->
   ∃t,PSs (cxOf CX0 P w K mg base N x (defScope st) f cdv A outer s H E).nox (defBody st) t/\t {nx:=fun _ H'=>Q .non H',rt:=Q} (start N vs) H):Callee P w K mg base x (k+1) ps sp:=by
 obtain⟨f,fd,a,F⟩:=T;exact⟨f,fd,F.ok S len (hbody f),F.binds bd,F.kp,xgs X G a⟩
section
variable {X:Cx}
theorem zbj:CallR X (.builtin "isinstance") (fun xs H Q=>∃ x T t b, xs=[x, .ty T]/\TyOf X.K H x t/\W.kitOne X.K t (.type T)=some b/\Q (.bl b) H):=by
 intro aU s σ H xs us Q I r h;obtain⟨x,T,t,b,rfl,ty,e,q⟩:=h;obtain⟨u,w',rfl,ru,rw'⟩:=vals2 r;cases(show w'=Value.type T from rw');exact zrh I ru ty e fun tk=>⟨.bl b,H,I.tok tk,rfl,q⟩
noncomputable def CDivP (i j:Int):Prop:=0 < j/\j < 2 ^ 1000
theorem znv:OpR X (binaryOp .FloorDiv) (rI CDivP fun i j=>.int (i / j)):=opI fun i j _ _ _ _ _ hc q=>by
 have e:i.fdiv j=i / j:=Int.fdiv_eq_ediv_of_nonneg i (by have:=hc.1;lia);refine floordiv_int (by have:=hc.1;lia) (by rw[e];exact q) (.inl (PyProof.noPylong_of_log2 ?_));have h1:j.natAbs < 2 ^ 1000:=by
  have h2:=hc.1;have h3:=hc.2;have h4:(j.natAbs:Int)=j:=by lia
  have h5:(j.natAbs:Int) < ((2 ^ 1000:Nat):Int):=by
   rw[h4];exact_mod_cast h3
  exact_mod_cast h5
 have h0:j.natAbs≠0:=by have:=hc.1;lia
 have:=(Nat.log2_lt h0).mpr h1;lia
end
section
variable {X:Cx}{st:Stmt}{t:TS}
end
noncomputable def compLook (XN:List Str) (xs:List (Str×NameKind)) (N:List Str) (k:Nat) (is:List Nat) (scope:Scope):Bool :=
 (scope.kind==.function)&&scope.names.all (fun y=>y.2 != .cell)&&scope.names.all (fun y=>y.2 != .local||scope.names.lookup y.1==some .local) &&
 scope.names.all (fun y=>y.2 != .free||(xs.lookup y.1==some .cell||xs.lookup y.1==some .free))&&(N.length==k+is.length) &&
 (List.range is.length).all (fun j=>match is[j]?,N[k+j]? with
  | some i,some x=>XN[i]?==some x&&scope.names.lookup x==some .free
  | _,_=>false)
theorem zet {X:Cx}{N:List Str}{k:Nat}{is:List Nat}{scope:Scope}(h:compLook X.N X.env.scope.names N k is scope=true):CompScope X N k is scope:=by
 unfold compLook at h;simp only[xdj,xdf] at h;obtain⟨⟨⟨⟨⟨h1,h2⟩,h3⟩,h4⟩,h5⟩,h6⟩:=h;refine⟨eq_of_beq h1,fun y hy e=>?_,fun y hy e=>?_,fun y hy e=>?_,eq_of_beq h5,fun j i e=>?_⟩
 ·have:=h2 y hy;rw[e] at this;simp at this
 ·have:=h3 y hy;rw[e] at this;simp at this;exact this
 ·have:=h4 y hy;rw[e] at this;simp at this;exact this
 ·have hj:j < is.length:=(xbk.mp e).1;have:=h6 j (xfh.mpr hj);rw[e] at this;cases e2:N[k+j]? with
  | none=>rw[e2] at this;cases this
  | some x =>
   rw[e2] at this;simp only[xdj,xfz] at this;exact⟨x,rfl,this.1,this.2⟩
theorem zfw:bootBuiltins "len"=some (.builtin "len"):=by decide +kernel
theorem zbgf:bootBuiltins "abs"=some (.builtin "abs"):=by decide +kernel
theorem zbbk:bootBuiltins "min"=some (.builtin "min"):=by decide +kernel
theorem zbbl:bootBuiltins "max"=some (.builtin "max"):=by decide +kernel
theorem zbbj:bootBuiltins "sum"=some (.builtin "sum"):=by decide +kernel
theorem zsd:bootBuiltins "sorted"=some (.builtin "sorted"):=by decide +kernel
theorem zwj:bootBuiltins "all"=some (.builtin "all"):=by decide +kernel
theorem zt:bootBuiltins "isinstance"=some (.builtin "isinstance"):=by decide +kernel
theorem zms:bootBuiltins "int"=some (.type "int"):=by decide +kernel
theorem zth:bootBuiltins "bool"=some (.type "bool"):=by decide +kernel
theorem zsc:bootBuiltins "str"=some (.type "str"):=by decide +kernel
theorem zcn:bootBuiltins "tuple"=some (.type "tuple"):=by decide +kernel
theorem ztv {H:Hp}{p:Addr}{o:HO}(h:H p=some o):upd H p o=H:=by
 funext b
 unfold upd;split
 ·subst b;exact h.symm
 ·rfl
section
variable {X:Cx}{K:Fg}
end
end L2
namespace Srt
open PySem PySem.W PyProof.Rows
section
variable (r:Nat->Nat)
noncomputable def lt (i j:Nat):Bool:=decide (r i < r j)
noncomputable def At (p:Array Nat) (i:Nat):Nat:=r (p.getD i 0)
noncomputable def Up (p:Array Nat) (n:Nat):Prop:=∀i j,i<=j->j < n->At r p i<=At r p j
end
section
variable {r:Nat->Nat}{p:Array Nat}{n:Nat}
end
section
variable {n:Nat}
end
section
variable {P:Program}{w:World}{B:Around}{E:Value->Shared->Prop}{st:Shared}
noncomputable def midHeap (h:Heap) (d:Addr) (xs:List Value):Heap:=((h.update d (Obj.mapSeq fun _=>(#[]:Array Value))).push (seqObj "tuple" xs.toArray 0)).push (seqObj "list" #[] 0)
theorem zgk {h:Heap}{d b:Addr}{xs:List Value}{ob:Obj}(ne:b≠d)(e:h.get? b=some ob):(midHeap h d xs).get? b=some ob :=
 xbb _ (xbb _ ((Heap.get?_update_ne _ _ _ _ ne).trans e))
noncomputable def Answers (P:Program) (w:World) (B:Around) (r:Nat->Nat) (xs:List Value) (sg:Shared):Prop :=
 ∃κ,(∀R:SortKind->Shared->Prop,R κ sg->wpAny (model P w) B (keyKind' xs.toArray) R (fun _ _=>False) sg) /\
  ∀i j C,i < xs.length->j < xs.length->C (lt r i j) sg->kas_ask P w B κ xs i j C sg
noncomputable def outOf (xs:List Value) (p:Array Nat):Array Value:=List.toArray (p.toList.map fun i=>xs.getD i Value.none)
theorem zqh {xs:List Value}(h:xs.length < 2):(xs.toArray.zip xs.toArray).map (·.2)=outOf xs (List.toArray (List.range xs.length)):=by
 unfold outOf
 match xs,h with
 | [],_=>simp
 | [_],_=>simp[List.range_succ]
 | _::_::_,h=>exact absurd h (by simp)
end
end Srt
namespace Srt
open PySem PySem.W PyProof.Rows HT
theorem zfp:∀a:List Int,lexLt a a=false
 | []=>rfl
 | x::a=>by rw[zcq,if_pos rfl];exact zfp a
theorem zdw:∀{a b c:List Int},lexLt a b=true->lexLt b c=true->lexLt a c=true
 | _,[],[],_,h=>by rw[zdc] at h;cases h
 | _,_::_,[],_,h=>by rw[zcs] at h;cases h
 | [],[],_::_,h,_=>by rw[zdc] at h;cases h
 | _::_,[],_::_,h,_=>by rw[zcs] at h;cases h
 | [],_::_,_::_,_,_=>zca _ _
 | x::a,y::b,z::c,h1,h2=>by
  rw[zcq] at h1 h2 ⊢;by_cases e1:x=y
  ·rw[if_pos e1] at h1;subst e1;by_cases e2:x=z
   ·rw[if_pos e2] at h2 ⊢;exact zdw h1 h2
   ·rw[if_neg e2] at h2 ⊢;exact h2
  ·rw[if_neg e1] at h1;have h1':=xfa h1;by_cases e2:y=z
   ·subst e2;rw[if_neg e1];exact h1
   ·rw[if_neg e2] at h2;have h2':=xfa h2;rw[if_neg (by lia)];exact xce (by lia)
theorem zij:∀a b:List Int,lexLt a b=true\/a=b\/lexLt b a=true
 | [],[]=>.inr (.inl rfl)
 | [],_::_=>.inl (zca _ _)
 | _::_,[]=>.inr (.inr (zca _ _))
 | x::a,y::b=>by
  rw[zcq,zcq];by_cases e:x=y
  ·subst e;rw[if_pos rfl,if_pos rfl];rcases zij a b with h | h | h
   ·exact .inl h
   ·exact .inr (.inl (by rw[h]))
   ·exact .inr (.inr h)
  ·rw[if_neg e,if_neg (fun z=>e z.symm)];rcases Int.lt_or_gt_of_ne e with h | h
   ·exact .inl (xce h)
   ·exact .inr (.inr (xce h))
theorem zrb {a b:List Int}(h:lexLt a b=true):lexLt b a=false:=by
 cases e:lexLt b a with
 | false=>rfl
 | true=>have:=zdw h e;rw[zfp] at this;cases this
theorem zoz {p q:Nat->Bool}(hpq:∀x,p x=true->q x=true):∀{l:List Nat} {y:Nat},y∈l->q y=true->p y=false->l.countP p < l.countP q
 | [],_,h,_,_=>nomatch h
 | x::l,y,h,h1,h2=>by
  have mono:∀l:List Nat,l.countP p<=l.countP q:=fun l=>List.countP_mono_left fun x _=>hpq x
  rcases xbn.mp h with rfl | h
  ·rw[xgq h1,xid (by rw[h2];decide)];exact Nat.lt_succ_of_le (mono l)
  ·have ih:=zoz hpq h h1 h2;by_cases c:p x=true
   ·rw[xgq c,xgq (hpq x c)];lia
   ·rw[xid c];by_cases d:q x=true
    ·rw[xgq d];lia
    ·rw[xid d];exact ih
noncomputable def rank (ks:List (List Int)) (i:Nat):Nat:=(List.range ks.length).countP fun k=>lexLt (ks.getD k []) (ks.getD i [])
theorem znk {ks:List (List Int)}{i j:Nat}(hi:i < ks.length)(hj:j < ks.length):lt (rank ks) i j=lexLt (ks.getD i []) (ks.getD j []):=by
 have up:∀{a b:Nat},a < ks.length->lexLt (ks.getD a []) (ks.getD b [])=true->rank ks a < rank ks b:=fun {a b} ha h =>
  zoz (fun x hx=>zdw hx h) (xfh.mpr ha) h (zfp _)
 cases e:lexLt (ks.getD i []) (ks.getD j []) with
 | true=>exact xce (up hi e)
 | false =>
  refine xbt fun h=>?_
  rcases zij (ks.getD i []) (ks.getD j []) with z | z | z
  ·rw[e] at z;cases z
  ·unfold rank at h;rw[z] at h;exact absurd h (xgl _)
  ·have:=up hj z;lia
section
variable {prog:Program}{w:World}{A:Around}{s:Shared}{b:Bool}{Q:Bool->Shared->Prop}
theorem zog:∀{us ws:List Value} {ns ms:List Int} (i:Nat),IntsAre us ns->IntsAre ws ms->Q (lexLt ns ms) s->KatLex prog w A b (decide (us.length < ws.length)) Q (us.zip ws) i s
 | _,_,_,_,_,.nil,.nil,h=>h
 | _,_,_,_,_,.nil,.cons _ _ _,h=>h
 | _,_,_,_,_,.cons _ _ _,.nil,h=>h
 | _,_,_,_,i,.cons x t (vs:=us) (ns:=ns) r1,.cons y u (vs:=ws) (ns:=ms) r2,h=>by
  rw[zcq] at h;refine kat_cons (wpAny_eqBool_int (kat_go (fun e=>kat_yes ?_) fun e=>kat_no ?_))
  ·rw[if_pos (eq_of_beq e)] at h;have q:=zog (i+1) r1 r2 h;have ee:decide ((Value.int x t::us).length < (Value.int y u::ws).length)=decide (us.length < ws.length):=by
    rw[xbu,xbu,xgu];simp
   rw[ee];exact q
  ·rw[if_neg (xfw.mp e)] at h;cases hb:(b&&i==0) with
   | true=>exact oneLt_int h
   | false=>exact kat_one _ _ (PyProof.Rows.lt_int h)
end
end Srt
namespace L2
open PySem PySem.Spec PyProof.Rows PySem.W
theorem zkh:∀{as:List Addr} {us:List Value},Vals (as.map V.ref) us->us=as.map Value.ref
 | [],_,.nil=>rfl
 | a::as,_,.cons r t=>by
  rw[show _=Value.ref a from r,zkh t]
  rfl
noncomputable def TupsAt (K:Fg) (H:Hp) (ps:List (Addr×List Int)):Prop:=∀p∈ps,SqT K H p.1 (p.2.map V.int)
theorem zh {α β:Type}(f:α->β)(d:β){l:List α}{i:Nat}{x:α}(h:l[i]?=some x):(l.map f).getD i d=f x:=by
 rw[xcq,xcm,h]
 rfl
section
variable {X:Cx}
end
end L2
namespace L2
open PySem PySem.Spec PyProof.Rows
mutual
inductive DAt (K:Fg) (H:Hp):V->PyData->Prop
 | non:DAt K H .non .none
 | bl (b:Bool):DAt K H (.bl b) (.bool b)
 | int (i:Int):DAt K H (.int i) (.int i)
 | str (x:Str):DAt K H (.str x) (.str x)
 | lst {a:Addr} {xs:List V} {ds:List PyData}:SqL K H a xs->DAll K H xs ds->DAt K H (.ref a) (.list ds)
 | tup {a:Addr} {xs:List V} {ds:List PyData}:SqT K H a xs->DAll K H xs ds->DAt K H (.ref a) (.tuple ds)
inductive DAll (K:Fg) (H:Hp):List V->List PyData->Prop
 | nil:DAll K H [] []
 | cons {x:V} {xs:List V} {d:PyData} {ds:List PyData}:DAt K H x d->DAll K H xs ds->DAll K H (x::xs) (d::ds)
end
section
variable {X:Cx}{aU:List (Addr×Obj)}{σ:St}{H:Hp}{s:Shared}
mutual
theorem zfg (I:Inv X aU σ H s):∀{v:V} {d:PyData} {u:Value},DAt X.K H v d->RelV v u->∃as,Reads s.heap u d as
 | _,_,_,.non,r=>by cases r;exact⟨_,.none⟩
 | _,_,_,.bl b,r=>by cases r;exact⟨_,.bool b⟩
 | _,_,_,.int i,r=>by obtain⟨t,rfl⟩:=r;exact⟨_,.int i t⟩
 | _,_,_,.str x,r=>by obtain⟨t,rfl⟩:=r;exact⟨_,.str x t⟩
 | _,_,_,.lst h all,r=>by
  cases r;obtain⟨its,rv,⟨o,n,e,c,_,dd⟩,_⟩:=I.list h;obtain⟨as,q⟩:=zei I all rv;exact⟨_,.list e c dd q⟩
 | _,_,_,.tup h all,r=>by
  cases r;obtain⟨its,rv,⟨o,e,c,n,dd⟩,_⟩:=I.tuple h;obtain⟨as,q⟩:=zei I all rv;exact⟨_,.tuple e c dd q⟩
theorem zei (I:Inv X aU σ H s):∀{vs:List V} {ds:List PyData} {us:List Value},DAll X.K H vs ds->Vals vs us->∃as,ReadsAll s.heap us ds as
 | _,_,_,.nil,.nil=>⟨_,.nil⟩
 | _,_,_,.cons h t,.cons r rs=>by
  obtain⟨as,q⟩:=zfg I h r;obtain⟨bs,q'⟩:=zei I t rs;exact⟨_,.cons q q'⟩
end
end
noncomputable def rEqX (K:Fg) (neg:Bool):R2:=fun x y H Q=>∃dx dy,DAt K H x dx/\DAt K H y dy/\PySem.SeqAt.shaped dx=true/\PySem.SeqAt.shaped dy=true/\Q (.bl (if neg then !PyData.eqv dx dy else PyData.eqv dx dy)) H
section
variable {X:Cx}
theorem zfj (hu:X.A.units+64 < cLine):OpR X (compareOp .Eq) (rEqX X.K false):=by
 intro aU s σ H x y v u Q I r1 r2 h;obtain⟨dx,dy,a1,a2,a3,a4,q⟩:=h;obtain⟨as,ra⟩:=zfg I a1 r1;obtain⟨bs,rb⟩:=zfg I a2 r2;exact eq_dataH ra rb a3 a4 hu ⟨.bl (PyData.eqv dx dy),H,I,rfl,q⟩
theorem znt (hu:X.A.units+64 < cLine):OpR X (compareOp .NotEq) (rEqX X.K true):=by
 intro aU s σ H x y v u Q I r1 r2 h;obtain⟨dx,dy,a1,a2,a3,a4,q⟩:=h;obtain⟨as,ra⟩:=zfg I a1 r1;obtain⟨bs,rb⟩:=zfg I a2 r2;exact ne_dataH ra rb a3 a4 hu ⟨.bl (!PyData.eqv dx dy),H,I,rfl,q⟩
theorem zht:∀{bs:List Bool} {us:List Value},Vals (bs.map V.bl) us->us=bs.map Value.bool
 | [],_,.nil=>rfl
 | b::bs,_,.cons r t=>by
  rw[show _=Value.bool b from r,zht t]
  rfl
theorem zql (bs:List Bool):((List.range bs.length).all fun i=>bs.getD i false)=bs.all id:=by
 rw[xgu];simp only[xdf,xfh];constructor
 ·intro h b hb;obtain⟨i,hi,rfl⟩:=xdz hb;have:=h i hi;rw[xcq,xbi hi] at this;exact this
 ·intro h i hi;rw[xcq,xbi hi];exact h _ (xdm hi)
noncomputable def rAny (K:Fg) (al:Bool):List V->Hp->VK->Prop:=fun xs H Q=>∃(l:Addr) (bs:List Bool),xs=[.ref l]/\SqL K H l (bs.map V.bl)/\Q (.bl (if al then bs.all id else bs.any id)) H
theorem zlq {prog:Program}{w:World}{A:Around}(bs:List Bool):TruthOf prog w A (fun i v=>(bs.map Value.bool).toArray[i]?=some v) (fun i=>bs.getD i false):=fun i v s Q E hP hQ=>by
 have hP':(bs.map Value.bool)[i]?=some v:=by simpa using hP
 rw[xcm] at hP';cases e:bs[i]? with
 | none=>rw[e] at hP';cases hP'
 | some b =>
  rw[e] at hP';cases hP';dsimp only at hQ;rw[xcq,e] at hQ;exact xez hQ
theorem zwo (hc:X.calm=true){aU:List (Addr×Obj)}{σ:St}{H:Hp}{s:Shared}{l:Addr}{bs:List Bool}{R:Bool->Prop}(I:Inv X aU σ H s)(hl:SqL X.K H l (bs.map V.bl)){Q:Value->Shared->Prop}{F:(Nat->Bool)->Nat->Bool}
  (hQ:∀s',Inv X aU σ H s'->Q (.bool (F (fun i=>bs.getD i false) bs.length)) s') :
  wpAny (model X.prog X.w) X.A.in1 (pyIter (.ref l)) (fun it s₂=>∃I fp wr n P St tr,it=.ref I/\Walks X.prog X.w X.A.in1 I fp wr n P St/\St 0 s₂.heap/\TruthOf X.prog X.w X.A.in1 P tr /\
   ∀h' tk,(∀b o,b∉wr->s₂.heap.get? b=some o->h'.get? b=some o)->Q (.bool (F tr n)) {s₂ with heap:=h',toks:=tk}) X.xe s:=by
 obtain⟨its,rv,pl,hz⟩:=I.list hl;have e:=zht rv;subst e;have hlt:l < s.heap.objs.size:=by obtain⟨o,n,e,_⟩:=pl;exact xbl e
 refine xik pl.isList ?_;refine⟨s.heap.objs.size,_,[s.heap.objs.size],_,_,_,_,rfl,Walks.list (A:=X.A.in1) (I.ok.hd hc) _ l (xcj hlt) (bs.map Value.bool).toArray,⟨⟨_,xbm _ rfl,rfl,rfl⟩,pl.isList.push _⟩,zlq bs,fun h' tk hk=>?_⟩;have e2:(bs.map Value.bool).toArray.size=bs.length:=by simp
 rw[e2];refine hQ _ ?_;refine I.kept (t':=tk) fun b o e=>hk b o ?_ (xbb _ e)
 intro z;have z':b=s.heap.objs.size:=by simpa using z
 have z2:=xbl e;rw[z'] at z2;exact absurd z2 (xgl _)
theorem zkb (hc:X.calm=true):CallR X (.builtin "all") (rAny X.K true):=by
 intro aU s σ H xs us Q I r h;obtain⟨l,bs,rfl,hl,q⟩:=h;obtain⟨u,rfl,ru⟩:=vals1 r;cases ru;refine call_all_walk (zwo (R:=fun _=>True) hc I hl (F:=fun tr n=>(List.range n).all tr) fun s' I'=>⟨.bl ((List.range bs.length).all fun i=>bs.getD i false),H,I',rfl,?_⟩);rw[zql];exact q
end
end L2
namespace Dct
open PySem PySem.W PyProof.Rows
noncomputable def Raw (h:Heap) (d:Addr) (es:Array DictEntry) (ep:Nat):Prop:=∃ob,h.get? d=some ob/\ob.ExactDict/\ob.data=.dict es ep
theorem Raw.kept {h h':Heap}{d:Addr}{es:Array DictEntry}{ep:Nat}(x:Raw h d es ep)(k:∀ob,h.get? d=some ob->h'.get? d=some ob):Raw h' d es ep :=
 let ⟨ob,e,r⟩:=x;⟨ob,k ob e,r⟩
theorem Raw.lt {h:Heap}{d:Addr}{es:Array DictEntry}{ep:Nat}(x:Raw h d es ep):d < h.objs.size:=let ⟨_,e,_⟩:=x;xbl e
theorem Raw.is {st:Shared}{d:Addr}{es:Array DictEntry}{ep:Nat}(x:Raw st.heap d es ep):st.TypeIs (.ref d) "dict":=let ⟨ob, e, c, _⟩:=x; ⟨ob, e, c.1⟩
section
variable {P:Program}{w:World}{B:Around}{E:Value->Shared->Prop}{st:Shared}{d it:Addr}{es:Array DictEntry}{ep k:Nat}
noncomputable def iterObj (d:Addr) (n ep:Nat):Obj:={ cls:=.type "dict_keyiterator", data:=.fields #[.ref d, .int 0 0, .int n 0, .int ep 0] }
theorem znj {W:Value->Shared->Prop}(ns:(d==sysModules)=false)(x:Raw st.heap d es ep)(fin:W (.ref st.heap.objs.size) {st with heap:=st.heap.push (iterObj d es.size ep)}):wpAny (model P w) B (pyIter (.ref d)) W E st:=by
 obtain⟨ob,e,c,dt⟩:=id x;have ty:=x.is;refine wpAny_pyIter_slot ty F.slot_dict_iter (xdy F.slot_dict_iter ty F.entry_dict_iter ?body (F.args_dict_iter_1 _))
 case body =>
  unfold Builtin.«dict.__iter__» Builtin.Dict.dictSlotNone Builtin.Dict.showsAll;refine xba (xba (wpAny_notOrdered_dict ty (xbe ?_)));show wpAny _ _ ((if(d==sysModules)=true then _ else _) >>= _) _ _ st;rw[if_neg (fun z=>xfi (ns.symm.trans z))];refine xba (xbe (xba (xkm e dt (xba (wpAny_dictEpoch e dt (xba (xeb (xbe ⟨_, rfl, "dict_keyiterator", _,⟨_, xbm _ rfl, rfl⟩, xeu.lookup, ?_⟩))))))))
  exact fin
theorem zni {W:Option Value->Shared->Prop}{en:DictEntry}(hi:st.heap.IsKeyIter it d k es.size ep)(x:Raw st.heap d es ep)(hk:es[k]?=some en)
  (fin:∀g:Heap,g.IsKeyIter it d (k+1) es.size ep->Heap.SameBut it st.heap g->W (some en.key) {st with heap:=g}):wpAny (model P w) B (pyNext (.ref it)) W E st:=by
 obtain⟨oi,ei,ci,di⟩:=id hi;obtain⟨ob,e,c,dt⟩:=id x;have lt:k < es.size:=(Array.getElem?_eq_some_iff.mp hk).1;unfold pyNext;refine xba (xip (wpAny_callSpecial?_slot (name:=Str.ofString "__next__") hi.typeIs xeu (xdy xeu hi.typeIs F.entry_dict_keyiterator_next ?body (F.args_dict_keyiterator_next_1 _))))
 case body =>
  refine xba (xbe (xba (xba (xba (xfu hi.typeIs (xbe (xba (wpAny_fieldsOf ei di ?_))))))));simp only[show Builtin.Dict_items.ownsTuple "dict_keyiterator"=false from by decide, xdk, ite_false]
  show wpAny _ _ (if(Value.ref d==Value.none)=true then _ else _) _ _ st;have nn:¬ (Value.ref d==Value.none)=true:=xfi;rw[if_neg nn];refine xba (xbe (xba (xkm e dt ?_)));rw[if_neg (by simp)];refine xba (xbe (xba (wpAny_dictEpoch e dt ?_)));rw[if_neg (by simp)];refine xbe ?_;simp only[show ¬ ((k:Int) < 0) from by lia,ite_false,xen,hk];refine xba (xba (xfu hi.typeIs (xbe (xba (wpAny_isOneOf_keyiter hi.typeIs ?_)))));show wpAny _ _ (setField (.ref it) 1 (rawInt ((k:Int)+1)) >>= _) _ _ st;refine xba (xhl ei di (by simp) ?_);have hi':(st.heap.update it (Obj.mapFields (·.setIfInBounds 1 (rawInt ((k:Int)+1))))).IsKeyIter it d (k+1) es.size ep :=
   ⟨_,xhe _ ei (xja (xgd di _)),(xkg ..).trans ci,by rw[xgd di];simp[rawInt]⟩
  refine xba (xft (xba (wpAny_isOneOf_keyiter (s:={st with heap:=st.heap.update it (Obj.mapFields (·.setIfInBounds 1 (rawInt ((k:Int)+1))))}) hi'.typeIs ?_)));show wpAny _ _ (pure en.key) _ _ _;exact xbe (xbe ⟨_,rfl,xbe (fin _ hi' (xgn ..))⟩)
theorem zsj {W:Option Value->Shared->Prop}(hh:B.handled=none)(hi:st.heap.IsKeyIter it d k es.size ep)(x:Raw st.heap d es ep)(hk:es.size<=k)
  (fin:∀g:Heap,Heap.ExtBut it st.heap g->W none {st with heap:=g}):wpAny (model P w) B (pyNext (.ref it)) W E st:=by
 obtain⟨oi,ei,ci,di⟩:=id hi;obtain⟨ob,e,c,dt⟩:=id x;unfold pyNext;refine xba (xip (wpAny_callSpecial?_slot (name:=Str.ofString "__next__") hi.typeIs xeu (xdy xeu hi.typeIs F.entry_dict_keyiterator_next ?body (F.args_dict_keyiterator_next_1 _))))
 case body =>
  refine xba (xbe (xba (xba (xba (xfu hi.typeIs (xbe (xba (wpAny_fieldsOf ei di ?_))))))));simp only[show Builtin.Dict_items.ownsTuple "dict_keyiterator"=false from by decide, xdk, ite_false]
  show wpAny _ _ (if(Value.ref d==Value.none)=true then _ else _) _ _ st;have nn:¬ (Value.ref d==Value.none)=true:=xfi;rw[if_neg nn];refine xba (xbe (xba (xkm e dt ?_)));rw[if_neg (by simp)];refine xba (xbe (xba (wpAny_dictEpoch e dt ?_)));rw[if_neg (by simp)];refine xbe ?_;simp only[show ¬ ((k:Int) < 0) from by lia,ite_false,xen,Array.getElem?_eq_none hk];refine xba (xba (xfu hi.typeIs (xbe ?_)));show wpAny _ _ (setField (.ref it) 0 .none >>= _) _ _ st;refine xba (xhl ei di (by simp) ?_);show wpAny _ _ (newExc (.type "StopIteration") [] >>= _) _ _ _
  refine xba ?_;simp only[newExc,newTuple];refine xba (xeb (xba (m:=firstArgMember _ _) (wpAny_of_eq (a:=Value.none) (by first | rfl | (simp only[firstArgMember];rfl)) (xeb ?_ (by size_fits)))) (by size_fits));simp only[raiseNew];refine xba (wpAny_handled ?_);rw[show B.in1.handled=none from hh];refine xba (xbe (wpAny_throw ?_));refine xba (wpAny_isInstance (T:="StopIteration") (b:=true) ?_ isSubtype_stop (xbe (fin _ (((xgn ..).extBut.push _).push _))))
  exact⟨_,xbm _ rfl,rfl⟩
theorem zqk (hh:B.handled=none)(ne:d≠it)(es:Array DictEntry)(ep:Nat) :
  Walks P w B it [it,d] [it] es.size (fun i v=>∃en,es[i]?=some en/\v=en.key) (fun i h=>h.IsKeyIter it d i es.size ep/\Raw h d es ep) where
 sub:=fun b hb=>xbn.mpr (.inl (xcg.mp hb))
 frame:=fun _ _ _ z hk=>⟨z.1.at fun o e=>hk it xbz o e,z.2.kept fun o e=>hk d (xca _ (xcg.mpr rfl)) o e⟩
 item:=fun i sh W' E' hi z hQ=>by
  have hx:es[i]?=some es[i]:=xht hi;exact zni z.1 z.2 hx fun g a b=>hQ es[i].key g sh.toks ⟨_,hx,rfl⟩ ⟨a,z.2.kept fun o e=>b.extBut d o ne e⟩ fun c o hc e=>b.extBut c o (fun q=>hc (xcg.mpr q)) e
 done:=fun sh W' E' z hQ=>zsj hh z.1 z.2 (xbf _) fun g b=>hQ g sh.toks fun c o hc e=>b c o (fun q=>hc (xcg.mpr q)) e
 self:=fun _ _ _ _ z hQ=>wpAny_pyIter_keyiter z.1 hQ
theorem zxn (ns:(d==sysModules)=false)(es:Array DictEntry)(ep:Nat):KdlSrc P w "dict" d d es.size (fun i v=>∃ en, es[i]?=some en/\v=en.key) (fun h=>Raw h d es ep) where
 type:=fun _ x=>x.is
 there:=fun _ x=>⟨x.lt,x.lt⟩
 keep:=fun _ _ x hk=>x.kept fun o e=>hk d (.inl rfl) o e
 notList:=by decide
 notTuple:=by decide
 hint:=fun _ _ _ _ x hq=>kdl_hint_dict x.is hq
 iter:=fun _ sh hh x=>⟨_,_,fun _ _ hq=>znj ns x hq,zqk hh (xcj x.lt) es ep,⟨⟨_,xbm _ rfl,rfl,rfl⟩,x.kept fun o e=>xbb _ e⟩⟩
end
end Dct
namespace Srt
open PySem PySem.W PyProof.Rows
section
variable {P:Program}{w:World}{B:Around}{E:Value->Shared->Prop}{st:Shared}
end
end Srt
namespace L2
open PySem PySem.Spec PyProof.Rows
theorem ObjOk.ob {P:Program}{w:World}{H:Hp}{h:Heap}{a:Addr}{o:HO}(x:ObjOk P w H h a o):∃ob,h.get? a=some ob:=by
 cases o with
 | lst xs=>obtain⟨_,_,_,_,e⟩:=x;exact⟨_,e⟩
 | tup xs=>obtain⟨_,_,_,ob,e,_⟩:=x;exact⟨_,e⟩
 | dK kvs=>obtain⟨_,_,_,_,ob,_,_,e,_⟩:=x;exact⟨_,e⟩
 | dT kvs=>obtain⟨_,_,_,_,ob,_,_,e,_⟩:=x;exact⟨_,e⟩
 | set S n=>obtain⟨ob,_,_,_,e,_⟩:=x;exact⟨_,e⟩
 | ins C dx fs=>obtain⟨_,_,_,e,_⟩:=x;exact⟨_,e⟩
 | own y=>obtain⟨_,e⟩:=x;exact⟨_,e⟩
 | xd fs=>obtain⟨_,⟨_,_,_,e,_⟩,_⟩:=x;exact⟨_,e⟩
 | rng lo hi=>obtain⟨_,_,_,e⟩:=x;exact⟨_,e⟩
 | frz ob u=>obtain⟨e,_⟩:=x;exact⟨_,e⟩
 | tbl ps=>exact⟨_,(show h.get? a=some _ from x)⟩
 | met f y=>exact⟨_,(show h.get? a=some _ from x)⟩
 | ext φ=>obtain⟨_,⟨_,e⟩,_⟩:=x;exact⟨_,e⟩
section
variable {X:Cx}{aU:List (Addr×Obj)}{σ:St}{H:Hp}{s:Shared}
theorem Inv.away (I:Inv X aU σ H s){q:Addr}(ne:∀b ob,s.heap.get? b=some ob->b≠q):H q=none:=by
 cases e:H q with
 | none=>rfl
 | some o =>
  obtain⟨ob,z⟩:=(I.hok q o e).ob;exact absurd rfl (ne q ob z)
theorem Inv.laidN {q:Addr}{o:HO}{g:Heap}{t':Nat}(I:Inv X aU σ H s)(k:∀b u,s.heap.get? b=some u->g.get? b=some u)(ne:∀b ob,s.heap.get? b=some ob->b≠q)(new:ObjOk X.prog X.w (upd H q o) g q o) :
  Inv X aU σ (upd H q o) {s with heap:=g,toks:=t'}:=by
 have hn:=I.away ne;have off:∀{b:Addr} {u:HO},H b=some u->upd H q o b=some u:=fun {b u} e=>by rw[zr (zj e hn)];exact e
 refine I.un ⟨fun b u e _ _ _=>k b u e,fun b u e _ _ _=>⟨u.slots,k b u e⟩,fun b u e n _=>by rw[zr (ne b u e)];exact n,fun b u e _=>⟨u,k b u e⟩,fun b xs e=>off e,fun b ob u e=>off e,fun b ps e=>⟨#[],by rw[off e];simp⟩⟩ fun b u e=>?_
 by_cases hb:b=q
 ·subst hb;rw[zba] at e;cases e;exact new
 ·rw[zr hb] at e;exact(I.hok b u e).stay (fun c v _ z=>k c v z) (fun c z=>off z) fun c xs z=>off z
end
theorem zsq (ns:List Int):(ns.map (Sum.inl:Int->Key)).map kV=ns.map V.int:=by rw[xdn];rfl
theorem ziu {P:Program}{w:World}{H:Hp}{kvs:List (List Key×V)}:∀{ks:List (List Int)} {xs:List (List Key×Addr×Value)},
  Paired (fun(p:List Key×V) (q:List Key×Addr×Value)=>p.1=q.1/\H q.2.1=some (.tup (p.1.map kV))/\RelV p.2 q.2.2) kvs xs->kvs.map (·.1)=ks.map (fun ns=>ns.map Sum.inl) ->
   ∃ps:List (Addr×List Int),ps.map (·.2)=ks/\(∀p∈ps,H p.1=some (.tup (p.2.map V.int)))/\xs.map (fun q=>(entryOfKey (tupleKind (mixKind P w)) q).key)=ps.map fun p=>Value.ref p.1:=by
 induction kvs with
 | nil =>
  intro ks xs r e;cases r;cases ks with
  | nil=>exact⟨[],rfl,fun p hp=>(nomatch hp),rfl⟩
  | cons x ks=>cases e
 | cons kv kvs ih =>
  intro ks xs r e;cases r with
  | cons r rs =>
   cases ks with
   | nil=>cases e
   | cons ns ks =>
    rw[xbx,xbx] at e;injection e with e1 e2
    obtain⟨ps,a1,a2,a3⟩:=ih rs e2;rename_i b _;obtain⟨r1,r2,r3⟩:=r;refine⟨(b.2.1,ns)::ps,by rw[xbx,a1],fun p hp=>?_,by rw[xbx,xbx,a3];rfl⟩;rcases xbn.mp hp with z | z
    ·subst z;rw[e1,zsq] at r2;exact r2
    ·exact a2 p z
open PySem.W in
theorem zwp {P:Program}{w:World}{B:Around}{sg:Shared}{ps:List (Addr×List Int)}(h2:2<=ps.length)
  (tup:∀(i:Nat) (p:Addr×List Int), ps[i]?=some p->∃(us:List Value) (o:Obj) (n:Nat), IntsAre us p.2/\sg.heap.get? p.1=some o/\o.cls=.type "tuple"/\o.data=.seq us.toArray n/\p.2≠[]) :
  Srt.Answers P w B (Srt.rank (ps.map (·.2))) (ps.map fun p=>Value.ref p.1) sg:=by
 refine⟨tuples' true,fun R hq=>?_,fun i j C hi hj hC=>?_⟩
 ·have kt:∀(l:List (Addr×List Int)),(∀p∈l,∃i:Nat,ps[i]?=some p)->∃fs:List Value,KatTups sg.heap (l.map fun p=>Value.ref p.1) fs/\fs.length=l.length/\∀v∈fs,∃i t,v=Value.int i t:=fun l=>by
   induction l with
   | nil=>intro _;exact⟨[],KatTups.nil,rfl,fun v hv=>(nomatch hv)⟩
   | cons p l ih =>
    intro hp;obtain⟨fs,b1,b2,b3⟩:=ih fun p' hp'=>hp p' (xca _ hp')
    obtain⟨i,hi⟩:=hp p xbz;obtain⟨us,o,n,a1,a2,a3,a4,a5⟩:=tup i p hi;obtain⟨pa,pn⟩:=p;dsimp only at a1 a2 a3 a4 a5;cases a1 with
    | nil=>exact absurd rfl a5
    | cons x t r=>exact⟨Value.int x t::fs,KatTups.cons a2 a3 a4 rfl b1,by rw[xbu,xbu,b2],fun v hv=>(xbn.mp hv).elim (fun z=>⟨x,t,z⟩) (b3 v)⟩
  obtain⟨fs,b1,b2,b3⟩:=kt ps fun p hp=>List.mem_iff_getElem?.mp hp
  exact kat_kind (T:=.type "int") b1 (by lia) (fun v hv=>by
   obtain⟨i,t,rfl⟩:=b3 v hv
   exact Looks.of_pure rfl) rfl hq
 ·rw[xbd] at hi hj;have ei:ps[i]?=some ps[i]:=xbi hi;have ej:ps[j]?=some ps[j]:=xbi hj;obtain⟨us,o,n,a1,a2,a3,a4,a5⟩:=tup i _ ei;obtain⟨us2,o2,n2,c1,c2,c3,c4,c5⟩:=tup j _ ej;unfold kas_ask;rw[zh (fun p:Addr×List Int=>Value.ref p.1) _ ei,zh (fun p:Addr×List Int=>Value.ref p.1) _ ej];refine kat_lt a2 a4 c2 c4 (Srt.zog 0 a1 c1 ?_);rw[Srt.znk (by rw[xbd];exact hi) (by rw[xbd];exact hj),zh (fun p:Addr×List Int=>p.2) _ ei,zh (fun p:Addr×List Int=>p.2) _ ej] at hC;exact hC
theorem zns {ps:List (Addr×List Int)}{p:Array Nat}(p1:p.Perm (List.toArray (List.range ps.length)))(p2:Srt.Up (Srt.rank (ps.map (·.2))) p ps.length) :
  ∃qs:List (Addr×List Int),qs.Perm ps/\(qs.map (·.2)).Pairwise (fun x y=>HT.lexLt y x=false)/\Srt.outOf (ps.map fun p=>Value.ref p.1) p=(qs.map fun p=>Value.ref p.1).toArray:=by
 have hps:p.size=ps.length:=by rw[p1.size_eq];simp
 have sm:∀i∈p.toList,i < ps.length:=fun i hi=>by
  have h3:=(p1.mem_iff (a:=i)).mp (by rw[← Array.mem_toList_iff];exact hi);exact xfh.mp (List.mem_toArray.mp h3)
 refine⟨p.toList.map fun i=>ps.getD i (0,[]),?_,?_,?_⟩
 ·have e1:p.toList.Perm (List.range ps.length):=by
   have:=xff.mp p1
   simpa using this
  have e2:=e1.map fun i=>ps.getD i (0,[])
  have e3:((List.range ps.length).map fun i=>ps.getD i (0,[]))=ps:=by
   apply List.ext_getElem
   ·simp
   ·intro i h1 h2;simp[xcq,h2]
  rw[e3] at e2;exact e2
 ·rw[xdn,xhu];intro i j hi hj hij;rw[List.getElem_map,List.getElem_map];rw[xbd] at hi hj;have hi':i < p.size:=by simpa using hi
  have hj':j < p.size:=by simpa using hj
  have hu:=p2 i j (xbq hij) (by lia);have g:∀k,(hk:k < p.toList.length)->p.getD k 0=p.toList[k]:=fun k hk=>by
   have hk':k < p.size:=by simpa using hk
   rw[Array.getD_eq_getD_getElem?,xht hk'];simp
  have si:=sm _ (xdm hi);have sj:=sm _ (xdm hj);have lk:=Srt.znk (ks:=ps.map (·.2)) (i:=p.toList[j]) (j:=p.toList[i]) (by rw[xbd];exact sj) (by rw[xbd];exact si);have hno:Srt.lt (Srt.rank (ps.map (·.2))) p.toList[j] p.toList[i]=false:=by
   refine xbt fun z=>?_
   unfold Srt.At at hu;rw[g i hi,g j hj] at hu;lia
  rw[hno] at lk;have v:∀k,k < ps.length->(ps.map (·.2)).getD k []=(ps.getD k (0,[])).2:=fun k hk=>by
   have ek:ps[k]?=some ps[k]:=xbi hk;rw[zh (fun p:Addr×List Int=>p.2) _ ek,xcq,ek]
   rfl
  rw[v _ sj,v _ si] at lk;exact lk.symm
 ·unfold Srt.outOf;rw[xdn]
  congr 1
  refine List.map_congr_left fun i hi=>?_
  have hi2:=sm i hi;have ei:ps[i]?=some ps[i]:=xbi hi2;rw[zh (fun p:Addr×List Int=>Value.ref p.1) _ ei];show _=Value.ref (ps.getD i (0,[])).1;rw[xcq,ei]
  rfl
section
variable {X:Cx}
end
section
variable {X:Cx}{aU:List (Addr×Obj)}{σ:St}{H:Hp}{s:Shared}
theorem Inv.freeze {a:Addr}{kvs:List (List Key×V)}{ob:Obj}(I:Inv X aU σ H s)(h:H a=some (.dT kvs))(e:s.heap.get? a=some ob):Inv X aU σ (upd H a (.frz ob (.dT kvs))) s:=by
 have off:∀{b:Addr} {u:HO},H b=some u->(∀l,u≠.dT l)->upd H a (.frz ob (.dT kvs)) b=some u:=fun {b u} q n=>by
  rw[zr (by rintro rfl;rw[h] at q;cases q;exact n _ rfl)];exact q
 have z:=I.un (h':=s.heap) (t':=s.toks) (H':=upd H a (.frz ob (.dT kvs))) ⟨fun b u q _ _ _=>q,fun b u q _ _ _=>⟨u.slots,q⟩,fun b u q n _=>by
   rw[zr (by rintro rfl;rw[h] at n;cases n)];exact n,fun b u q _=>⟨u,q⟩,fun b xs q=>off q (fun l z=>by cases z),fun b o u q=>off q (fun l z=>by cases z),fun b ps q=>⟨#[],by rw[off q (fun l z=>by cases z)];simp⟩⟩ (fun b u q=>by
   by_cases hb:b=a
   ·subst hb;rw[zba] at q;cases q;exact⟨e,(I.hok b _ h).stay (fun c v _ r=>r) (fun c r=>off r (fun l z=>by cases z)) fun c xs r=>off r (fun l z=>by cases z)⟩
   ·rw[zr hb] at q
    exact(I.hok b u q).stay (fun c v _ r=>r) (fun c r=>off r (fun l z=>by cases z)) fun c xs r=>off r (fun l z=>by cases z))
 exact z
end
noncomputable def Itd (a:Addr) (ob:Obj) (kvs:List (List Key×V)) (ps:List (Addr×List Int)):It :=
 ⟨fun i H=>i < ps.length/\H a=some (.frz ob (.dT kvs)),fun i H x H'=>H'=H/\∃p,ps[i]?=some p/\x=.ref p.1,fun i H=>ps.length<=i/\H a=some (.frz ob (.dT kvs))⟩
theorem zqg {P:Program}{w:World}{K:Fg}{tg:Expr}{a it:Addr}{ob:Obj}{kvs:List (List Key×V)}{ps:List (Addr×List Int)}{es:Array DictEntry}{ep:Nat}(ex:ob.ExactDict)(dt:ob.data=.dict es ep)
  (hk:es.toList.map (·.key)=ps.map fun p=>Value.ref p.1):Turn P w K tg (Itd a ob kvs ps) [it] it (fun i h=>h.IsKeyIter it a i es.size ep) where
 mem:=xcg.mpr rfl
 obj:=fun i h st b hb=>by
  have e:b=it:=xcg.mp hb;subst e;obtain⟨o,e,c,d⟩:=st;exact⟨o,e,fun v z=>by rw[d] at z;cases z⟩
 keep:=fun i h h' st k=>st.at fun o e=>k it (xcg.mpr rfl) o e
 item:=by
  intro Y hP hw hK hc i aU s σ H E I hf st hg;subst hP hw hK;obtain⟨hi,hz⟩:=hg;have hsz:es.size=ps.length:=by
   have:=congrArg List.length hk
   rwa [xbd,xbd,xcb] at this
  obtain⟨eo,_⟩:=(show ObjOk Y.prog Y.w H s.heap a (.frz ob (.dT kvs)) from I.hok a _ hz)
  obtain⟨f0,f1,f2,f3,f4,f5⟩:=hf it (xcg.mpr rfl);have hen:es[i]?=some es[i]:=xht (by lia);have hpi:ps[i]?=some ps[i]:=xbi hi;have hkey:es[i].key=Value.ref ps[i].1:=by
   have q:=congrArg (fun l=>l[i]?) hk;simp only[xcm,xby,hen,hpi] at q;exact xck q
  refine Dct.zni st ⟨ob,eo,ex,dt⟩ hen fun g st' sb=>?_
  have I1:Inv Y aU σ H {s with heap:=g}:=I.turned (t':=s.toks) (fun b o hb e=>sb.extBut b o hb e) f0 f1 f3 f4 f5;obtain⟨o,e,c,d⟩:=id st';exact⟨_,rfl,zzn (s:={s with heap:=g}) e c d (by decide) ⟨.ref ps[i].1,H,I1,hkey,⟨rfl,ps[i],hpi,rfl⟩,st',fun b hb=>(hf b hb).1⟩⟩
 done:=by
  intro Y hP hw hK hc i aU s σ H E I hf st hg;subst hP hw hK;obtain⟨hi,hz⟩:=hg;have hsz:es.size=ps.length:=by
   have:=congrArg List.length hk
   rwa [xbd,xbd,xcb] at this
  obtain⟨eo,_⟩:=(show ObjOk Y.prog Y.w H s.heap a (.frz ob (.dT kvs)) from I.hok a _ hz)
  obtain⟨f0,f1,f2,f3,f4,f5⟩:=hf it (xcg.mpr rfl);exact Dct.zsj (I.ok.hd hc) st ⟨ob,eo,ex,dt⟩ (by lia) fun g eb=>⟨rfl,I.turned (t':=s.toks) (fun b o hb e=>eb b o hb e) f0 f1 f3 f4 f5⟩
 self:=fun _ _ _ _ _ st h=>wpAny_pyIter_keyiter st h
noncomputable def iDct (td:TE):TI:=fun σ H R=>td σ H fun x H1=>∃(a:Addr) (kvs:List (List Key×V)) (ks:List (List Int)),x=.ref a/\H1 a=some (.dT kvs)/\kvs.map (·.1)=ks.map (fun ns=>ns.map Sum.inl) /\
 ∀(ob:Obj) (ps:List (Addr×List Int)),ps.map (·.2)=ks->(∀p∈ps,H1 p.1=some (.tup (p.2.map V.int)))->R (Itd a ob kvs ps) (upd H1 a (.frz ob (.dT kvs)))
theorem zyc {X:Cx}{tg l:Expr}{td:TE}(hl:PE X l td):PI X tg l (iDct td):=by
 intro aU s σ H R I h;refine thn (hl aU s σ H _ I h) fun v s1 hq0=>?_
 obtain⟨x,H1,I1,r1,q1⟩:=hq0;obtain⟨a,kvs,ks,rfl,hd,ek,q⟩:=q1;cases r1;obtain⟨z,ns,ys,rel,ob,es,ep,e1,e2,e3,e4,e5⟩:=(show ObjOk X.prog X.w H1 s1.heap a (.dT kvs) from I1.hok a _ hd)
 obtain⟨ps,a1,a2,a3⟩:=ziu (P:=X.prog) (w:=X.w) rel ek;have hes:es.toList.map (·.key)=ps.map fun p=>Value.ref p.1:=by rw[e4,xdn];exact a3
 refine Dct.znj ns ⟨ob,e1,e2,e3⟩ ?_;have I2:=I1.freeze hd e1;refine⟨s1.heap.objs.size,[s1.heap.objs.size],_,_,_,rfl,I2.kept (t':=s1.toks) fun b o e=>xbb _ e,zqg e2 e3 hes,⟨_,xbm _ rfl,rfl,rfl⟩,fun b hb=>?_,q ob ps a1 a2⟩;have e:b=s1.heap.objs.size:=xcg.mp hb;subst e;exact I2.fpOk (xbf _) (I2.hok.fresh (xbf _))
section
variable {g:TG}{tc:TT}{te:TE}{Q:VK}{σ:St}{H:Hp}{p:Addr}
end
end L2
namespace L2
open PySem PySem.Spec PyProof.Rows PySem.W
noncomputable def TupsG (g:Heap) (ps:List (Addr×List Int)):Prop:=∀ p∈ps, ∃(us:List Value) (o:Obj) (n:Nat), IntsAre us p.2/\g.get? p.1=some o/\o.cls=.type "tuple"/\o.data=.seq us.toArray n
section
variable {P:Program}{w:World}{B:Around}{E:Value->Shared->Prop}{sg:Shared}
theorem zkx:∀{ps:List (Addr×List Int)},TupsG sg.heap ps->∃fs:List (Option Value),fs.map Option.isSome=ps.map (fun p=>!p.2.isEmpty)/\∀(W:List (Option Value)->Shared->Prop),W fs sg->wpAny (model P w) B ((ps.map fun p=>Value.ref p.1).mapM firstOfTuple') W E sg
 | [],_=>⟨[],rfl,fun W h=>by rw[xkn,List.mapM_nil];exact xbe h⟩
 | p::ps,h=>by
  obtain⟨fs,f1,f2⟩:=zkx (ps:=ps) fun q hq=>h q (xca _ hq)
  obtain⟨us,o,n,a1,a2,a3,a4⟩:=h p xbz;refine⟨us.toArray[0]?::fs,?_,fun W hW=>?_⟩
  ·rw[xbx,xbx,f1]
   congr 1
   obtain⟨pa,pn⟩:=p;dsimp only at a1 ⊢;cases a1 with
   | nil=>rfl
   | cons x t r=>rfl
  ·rw[xbx,List.mapM_cons];have ty:Looks (model P w) sg.heap (typeOf (.ref p.1)) o.cls:=(Looks.ld a2).andThen .now;refine xba ?_;rw[kas_first_eq];refine xba (Looks.here ty ?_);rw[a3,if_neg (by first | decide | simp)];exact xba (listItems_at a2 a4 (xbe (xba (f2 _ (xbe hW)))))
theorem zod (x y:Value):keyLt' general' x y=oneLt' false x y:=rfl
theorem zwn {κ:SortKind}(hκ:κ=general'\/κ=oneType')(hu:B.units < cLine){a b:Addr×List Int}(ha:TupsG sg.heap [a])(hb:TupsG sg.heap [b]){C:Bool->Shared->Prop}(hC:C (HT.lexLt a.2 b.2) sg) :
  wpAny (model P w) B (keyLt' κ (.ref a.1) (.ref b.1)) C E sg:=by
 obtain⟨us,o,n,a1,a2,a3,a4⟩:=ha a xbz;obtain⟨us2,o2,n2,b1,b2,b3,b4⟩:=hb b xbz;rcases hκ with rfl | rfl
 ·rw[zod];exact kat_one _ _ (HT.zii (items:=us.toArray) (items2:=us2.toArray) ⟨o,a2,a3,n,a4⟩ ⟨o2,b2,b3,n2,b4⟩ a1 b1 hu hC)
 ·rw[keyLt'_oneType,oneLt'_eq];simp only[ite_true];refine xba (wpAny_cRoomFor hu (xba (wpAny_callSpecialIfBound?_slot (T:="tuple") ⟨o, a2, a3⟩ xiy ?_)))
  obtain⟨cls,dd,data,sl⟩:=o;obtain⟨cls2,dd2,data2,sl2⟩:=o2;dsimp only at a3 a4 b3 b4;subst a3 a4 b3 b4;exact xgz xiy ⟨_,a2,rfl⟩ F.entry_tuple_lt (F.args_tuple_lt_2 _ _) (HT.zep a.1 b.1 us.toArray us2.toArray n n2 dd dd2 sl sl2 a.2 b.2 a1 b1) ⟨a2,b2,xez hC⟩
theorem zwq {ps:List (Addr×List Int)}(hu:B.units < cLine)(tup:TupsG sg.heap ps)(emp:∃p∈ps,p.2=[]):Srt.Answers P w B (Srt.rank (ps.map (·.2))) (ps.map fun p=>Value.ref p.1) sg:=by
 obtain⟨fs,f1,f2⟩:=zkx (P:=P) (w:=w) (B:=B) (E:=fun _ _=>False) tup;have notAll:¬ (fs.toArray.all fun x=>x.isSome)=true:=fun z=>by
  have z':fs.all (fun x=>x.isSome)=true:=by simpa using z
  obtain⟨p,hp,he⟩:=emp;have m:(!p.2.isEmpty)∈fs.map Option.isSome:=by rw[f1];exact List.mem_map_of_mem (f:=fun p:Addr×List Int=>!p.2.isEmpty) hp
  obtain⟨o,ho,e⟩:=xdb.mp m;have:=xdf.mp z' o ho;rw[e,he] at this;cases this
 have cmp:∀{κ:SortKind},κ=general'\/κ=oneType'->∀i j C,i < (ps.map fun p=>Value.ref p.1).length->j < (ps.map fun p=>Value.ref p.1).length->C (Srt.lt (Srt.rank (ps.map (·.2))) i j) sg->kas_ask P w B κ (ps.map fun p=>Value.ref p.1) i j C sg:=fun {κ} hκ i j C hi hj hC=>by
  rw[xbd] at hi hj;have ei:ps[i]?=some ps[i]:=xbi hi;have ej:ps[j]?=some ps[j]:=xbi hj;unfold kas_ask;rw[zh (fun p:Addr×List Int=>Value.ref p.1) _ ei,zh (fun p:Addr×List Int=>Value.ref p.1) _ ej];rw[Srt.znk (by rw[xbd];exact hi) (by rw[xbd];exact hj),zh (fun p:Addr×List Int=>p.2) _ ei,zh (fun p:Addr×List Int=>p.2) _ ej] at hC;have one:∀k,(hk:k < ps.length)->TupsG sg.heap [ps[k]]:=fun k hk q hq=>by
   rw[xcg.mp hq];exact tup _ (xdm hk)
  exact zwn hκ hu (one i hi) (one j hj) hC
 by_cases fst:(fs.toArray[0]?.bind id).isSome=true
 ·refine⟨general',fun R hR=>?_,cmp (.inl rfl)⟩;rw[kat_kind_eq,xkh,xkq];refine xba (xba (f2 _ (xbe ?_)));rw[if_neg notAll,if_pos fst];exact xbe hR
 ·refine⟨oneType',fun R hR=>?_,cmp (.inr rfl)⟩;rw[kat_kind_eq,xkh,xkq];refine xba (xba (f2 _ (xbe ?_)));rw[if_neg notAll,if_neg fst,oneTypeOnly'_eq,xkh,xkq];have ty:∀ v∈(ps.map fun p=>Value.ref p.1), ∀ W:Value->Shared->Prop, W (.type "tuple") sg->wpAny (model P w) B (typeOf v) W (fun _ _=>False) sg:=fun v hv W hW=>by
   obtain⟨p,hp,rfl⟩:=xdb.mp hv;obtain⟨us,o,n,a1,a2,a3,a4⟩:=tup p hp;have lk:Looks (model P w) sg.heap (typeOf (.ref p.1)) o.cls:=(Looks.ld a2).andThen .now;rw[a3] at lk;exact lk.here hW
  refine xba (xba (xba (kas_mapM (r:=Value.type "tuple") _ ty (xbe ?_))))
  obtain⟨p,hp,_⟩:=emp;obtain⟨p0,rest,rfl⟩:∃p0 rest,ps=p0::rest:=by
   cases ps with
   | nil=>exact nomatch hp
   | cons p0 rest=>exact⟨p0,rest,rfl⟩
  have all:((List.map (fun _=>Value.type "tuple") ((p0::rest).map fun p=>Value.ref p.1)).toArray.all fun x=>x==Value.type "tuple")=true:=by
   rw[List.all_toArray,xdf];intro x hx;obtain⟨_,_,rfl⟩:=xdb.mp hx
   rfl
  have zero:(List.map (fun _=>Value.type "tuple") ((p0::rest).map fun p=>Value.ref p.1)).toArray[0]?=some (Value.type "tuple"):=by simp
  rw[zero];simp only[all,ite_true];exact xbe (xbe hR)
theorem ztn {ps:List (Addr×List Int)}(hu:B.units < cLine)(h2:2<=ps.length)(tup:TupsG sg.heap ps):Srt.Answers P w B (Srt.rank (ps.map (·.2))) (ps.map fun p=>Value.ref p.1) sg:=by
 by_cases c:∃p∈ps,p.2=[]
 ·exact zwq hu tup c
 ·refine zwp h2 fun i p hi=>?_
  have hp:=xcc hi;obtain⟨us,o,n,a1,a2,a3,a4⟩:=tup p hp;exact⟨us,o,n,a1,a2,a3,a4,fun z=>c ⟨p,hp,z⟩⟩
end
theorem zfc (z:List (Addr×List Int)):Vals (z.map fun p=>V.ref p.1) (z.map fun p=>Value.ref p.1):=by
 induction z with
 | nil=>exact .nil
 | cons x z ih=>exact .cons rfl ih
section
variable {X:Cx}
end
end L2
namespace TS
open PySem PyProof.Rows
noncomputable def kA (R:Keyed->Nat) (xs:Array Keyed) (i:Nat):Nat:=match xs[i]? with
 | some p=>R p
 | none=>0
theorem zct {R:Keyed->Nat}{xs ys:Array Keyed}{i j:Nat}(h:xs[i]?=ys[j]?):kA R xs i=kA R ys j:=by unfold kA;rw[h]
theorem zcx {R:Keyed->Nat}{xs:Array Keyed}{i:Nat}{x:Keyed}(h:xs[i]?=some x):kA R xs i=R x:=by unfold kA;rw[h]
noncomputable def UpA (R:Keyed->Nat) (xs:Array Keyed) (a b:Nat):Prop:=∀i j,a<=i->i<=j->j < b->kA R xs i<=kA R xs j
noncomputable def DnA (R:Keyed->Nat) (xs:Array Keyed) (a b:Nat):Prop:=∀i j,a<=i->i<=j->j < b->kA R xs j<=kA R xs i
section
variable {prog:Program}{w:World}{A:Around}{E:Value->Shared->Prop}{s:Shared}{κ:SortKind}{a₀:Array Keyed}{R:Keyed->Nat}
noncomputable def Orc (prog:Program) (w:World) (A:Around) (s:Shared) (κ:SortKind) (a₀:Array Keyed) (R:Keyed->Nat):Prop :=
 ∀x,x∈a₀.toList->∀y,y∈a₀.toList->∀(C:Bool->Shared->Prop),C (decide (R x < R y)) s->wpAny (model prog w) A (keyLt' κ x.1 y.1) C (fun _ _=>False) s
structure B (κ:SortKind) (a₀:Array Keyed) (st:SortSt):Prop where
 perm:(arrOf st).Perm a₀
 kind:kindOf st=κ
 failed:failedOf st=none
theorem B.size {st:SortSt}(h:B κ a₀ st):(arrOf st).size=a₀.size:=h.perm.size_eq
theorem B.set {st:SortSt}(h:B κ a₀ st){xs:Array Keyed}(hp:xs.Perm (arrOf st)):B κ a₀ (setArr st xs):=⟨hp.trans h.perm,h.kind,h.failed⟩
theorem B.mem {st:SortSt}(h:B κ a₀ st){i:Nat}(hi:i < a₀.size):∃x,(arrOf st)[i]?=some x/\x∈a₀.toList:=by
 have hi':i < (arrOf st).size:=by rw[h.size];exact hi
 exact⟨_,getElem?_pos _ i hi',(xff.mp h.perm).mem_iff.mp (by simp)⟩
theorem w_lt {x y:Keyed}{st:SortSt}{Q:Option Bool->SortSt->Prop}(O:Orc prog w A s κ a₀ R)(hk:kindOf st=κ)(hx:x∈a₀.toList)(hy:y∈a₀.toList)(h:Q (some (decide (R x < R y))) st):wpS (model prog w) A E s (lt' x y) Q st:=by
 rw[lt'_eq];refine xbh (xgt ?_);rw[hk];refine xbh (xiv (xip (xea (O x hx y hy (fun b s'=>s'=s/\b=decide (R x < R y)) ⟨rfl,rfl⟩) (fun b s' hb=>?_) fun _ _ f=>f.elim)));obtain⟨rfl,rfl⟩:=hb;exact⟨rfl,xbj h⟩
theorem zhr {arr:Array Keyed}{i:Nat}{x:Keyed}{st:SortSt}{Q:Keyed->SortSt->Prop}(e:arr[i]?=some x)(h:Q x st):wpS (model prog w) A E s (elem' arr i) Q st:=by
 rw[elem'_eq,e];exact xbj h
theorem zjf {i j:Nat}{st:SortSt}{Q:Option Bool->SortSt->Prop}(O:Orc prog w A s κ a₀ R)(b:B κ a₀ st)(hi:i < a₀.size)(hj:j < a₀.size)(h:Q (some (decide (kA R (arrOf st) i < kA R (arrOf st) j))) st):wpS (model prog w) A E s (ltAt' i j) Q st:=by
 obtain⟨x,e1,m1⟩:=b.mem hi;obtain⟨y,e2,m2⟩:=b.mem hj;rw[zcx e1,zcx e2] at h;rw[ltAt'_eq];exact xbh (xgt (xbh (zhr e1 (xbh (zhr e2 (w_lt O b.kind m1 m2 h))))))
theorem zpz {i j:Nat}{st:SortSt}{Q:Unit->SortSt->Prop}(h:Q () (setArr st (mirror (arrOf st) i j ((j - i) / 2)))):wpS (model prog w) A E s (reverseSlice' i j) Q st:=by
 rw[reverseSlice'_eq];exact xga h
theorem zbcd {i j:Nat}{st:SortSt}{Q:Unit->SortSt->Prop}(h:Q () (setArr st (bubble (arrOf st) i (i - j)))):wpS (model prog w) A E s (moveDown' i j) Q st:=by
 rw[moveDown'_eq];exact xga h
theorem zwu {lo x n N:Nat}(h:x < n)(hn:lo+n<=N):lo+x < N:=xbg (xdp h lo) hn
theorem zwt {lo x n N:Nat}(h:x < n)(hn:lo+n<=N):lo+x - 1 < N:=xcp (xfy _ _) (zwu h hn)
theorem zoi {lo n:Nat}(h:1<=n):lo+n - 1 < lo+n:=xgv (xbg h (xks _ _)) Nat.one_pos
theorem zbby {j lo n:Nat}(h:j < lo+(n+1))(e:¬j=lo+n):j < lo+n:=xcu (xct h) e
theorem zza {i j k:Nat}(c2:k < j):i<=i+j - 1 - k:=Nat.le_sub_of_add_le (xcv (xdp c2 i))
theorem zzb {i j k:Nat}(c1:i<=k)(c2:k < j):i+j - 1 - k < j:=xcp (xgo c1 _) (by rw[Nat.sub_right_comm,xcs];exact xgv (xih c2) Nat.one_pos)
theorem zhf {xs:Array Keyed}{i j:Nat}(hj:j<=xs.size)(k:Nat):kA R (mirror xs i j ((j - i) / 2)) k=if i<=k/\k < j then kA R xs (i+j - 1 - k) else kA R xs k:=by
 have e:=getElem?_mirror_all (i:=i) hj k;split
 ·rename_i c;rw[if_pos c] at e;exact zct e
 ·rename_i c;rw[if_neg c] at e;exact zct e
noncomputable def Out (xs ys:Array Keyed) (a b:Nat):Prop:=∀k,k < a\/b<=k->xs[k]?=ys[k]?
theorem Out.refl (xs:Array Keyed)(a b:Nat):Out xs xs a b:=fun _ _=>rfl
theorem Out.trans {xs ys zs:Array Keyed}{a b:Nat}(h1:Out xs ys a b)(h2:Out ys zs a b):Out xs zs a b:=fun k hk=>(h1 k hk).trans (h2 k hk)
theorem Out.mirror {xs:Array Keyed}{i j a b:Nat}(hj:j<=xs.size)(hi:a<=i)(hb:j<=b):Out (mirror xs i j ((j - i) / 2)) xs a b:=fun k hk=>by
 rw[getElem?_mirror_all (i:=i) hj k,if_neg fun z=>hk.elim (fun h=>xdw (xbc hi z.1) h) fun h=>xdw (xbc hb h) z.2]
theorem Out.bubble {xs:Array Keyed}{src d a b:Nat}(hs:src < xs.size)(hd:d<=src)(ha:a<=src - d)(hb:src < b):Out (bubble xs src d) xs a b:=fun k hk=>by
 rw[getElem?_bubble hs d hd k,if_neg fun z=>hk.elim (fun h=>xdw (xbc ha (xcy z.symm)) h) fun h=>xdw h (xcp (xbc (xcy z) (xfy _ _)) hb),if_neg fun z=>hk.elim (fun h=>xdw (xbc ha (xbq z.1)) h) fun h=>xdw h (xcp z.2 hb)]
structure Sm (st st':SortSt) (a b:Nat):Prop where
 out:Out (arrOf st') (arrOf st) a b
 pend:pendingOf st'=pendingOf st
theorem zxb {lo a nrem:Nat}{st:SortSt}{Q:Option (Option Nat)×Nat->SortSt->Prop}(O:Orc prog w A s κ a₀ R)(b:B κ a₀ st)(hn:lo+nrem<=a₀.size)(ha:1<=a)(han:a<=nrem)(hs:UpA R (arrOf st) lo (lo+a))
  (h:∀n,a<=n->n<=nrem->UpA R (arrOf st) lo (lo+n)->(n=nrem\/kA R (arrOf st) (lo+n) < kA R (arrOf st) (lo+n - 1))->Q (none,n) st) :
  wpS (model prog w) A E s (forIn [a:nrem] ((none,a):Option (Option Nat)×Nat) fun _ r=>do
   let x ← ltAt' (lo+r.2) (lo+r.2 - 1)
   match x with
   | some smaller=>if smaller=true then pure (ForInStep.done (none,r.2)) else pure (ForInStep.yield (none,r.2+1))
   | _=>pure (ForInStep.done (some none,r.2))) Q st:=by
 refine xdc (I:=fun x c st'=>st'=st/\c=(none,x)/\UpA R (arrOf st) lo (lo+x)) ?_ ?_ ⟨rfl,rfl,hs⟩
 ·rintro x c st' h1 h2 ⟨rfl,rfl,h3⟩;dsimp only;refine xbh (zjf O b (zwu h2 hn) (zwt h2 hn) ?_);by_cases c:kA R (arrOf st') (lo+x) < kA R (arrOf st') (lo+x - 1)
  ·simp only[c,xhc,xew];exact xbj (h x h1 (xbq h2) h3 (.inr c))
  ·simp only[c,xhm,xdk,xfq];refine xbj ⟨rfl,rfl,fun i j hi hij hj=>?_⟩;by_cases e:j=lo+x
   ·subst e;by_cases e2:i=lo+x
    ·rw[e2];exact xbf _
    ·exact xbc (h3 i (lo+x - 1) hi (xcv (xcu hij e2)) (zoi (xbc ha h1))) (xbw c)
   ·exact h3 i j hi hij (zbby hj e)
 ·rintro c st' ⟨rfl,rfl,h3⟩;rw[xko han] at h3 ⊢;exact h nrem han (xbf _) h3 (.inl rfl)
theorem zfq {xs:Array Keyed}{i j:Nat}(hj:j<=xs.size)(he:∀k,i<=k->k < j->kA R xs k=kA R xs (j - 1))(k:Nat):kA R (mirror xs i j ((j - i) / 2)) k=kA R xs k:=by
 rw[zhf hj];split
 ·rename_i c;rw[he _ (zza c.2) (zzb c.1 c.2),he k c.1 c.2]
 ·rfl
structure Fl (κ:SortKind) (a₀:Array Keyed) (R:Keyed->Nat) (st₀ st:SortSt) (lo n neq b:Nat):Prop where
 base:B κ a₀ st
 same:Sm st₀ st lo b
 dn:DnA R (arrOf st) lo (lo+n)
 hq:neq+1<=n
 eqs:∀i,lo+n - (neq+1)<=i->i < lo+n->kA R (arrOf st) i=kA R (arrOf st) (lo+n - 1)
theorem Fl.turn {st₀ st:SortSt}{lo n neq b:Nat}(h:Fl κ a₀ R st₀ st lo n neq b)(hb:lo+n<=b)(hs:b<=a₀.size) :
  Fl κ a₀ R st₀ (setArr st (mirror (arrOf st) (lo+n - (neq+1)) (lo+n) ((lo+n - (lo+n - (neq+1))) / 2))) lo n neq b/\∀k,kA R (mirror (arrOf st) (lo+n - (neq+1)) (lo+n) ((lo+n - (lo+n - (neq+1))) / 2)) k=kA R (arrOf st) k:=by
 have hz:=h.base.size;have hq:=h.hq;have hle:lo+n<=(arrOf st).size:=by rw[hz];exact xbc hb hs
 have e:=zfq (R:=R) (xs:=arrOf st) (i:=lo+n - (neq+1)) (j:=lo+n) hle h.eqs;refine⟨⟨h.base.set (mirror_perm _ _ _ _),⟨(Out.mirror hle (Nat.le_sub_of_add_le (xcd hq lo)) hb).trans h.same.out,h.same.pend⟩,fun i j a1 a2 a3=>?_,h.hq,fun i a1 a2=>?_⟩,e⟩
 ·show kA R (mirror _ _ _ _) j<=kA R (mirror _ _ _ _) i;rw[e,e];exact h.dn i j a1 a2 a3
 ·show kA R (mirror _ _ _ _) i=kA R (mirror _ _ _ _) _;rw[e,e];exact h.eqs i a1 a2
theorem Fl.less {st₀ st:SortSt}{lo n neq b:Nat}(h:Fl κ a₀ R st₀ st lo n neq b)(c:kA R (arrOf st) (lo+n)<=kA R (arrOf st) (lo+n - 1)):DnA R (arrOf st) lo (lo+(n+1)):=fun i j a1 a2 a3=>by
 have hq:=h.hq;by_cases e:j=lo+n
 ·subst e;by_cases e2:i=lo+n
  ·rw[e2];exact xbf _
  ·exact xbc c (h.dn i (lo+n - 1) a1 (xcv (xcu a2 e2)) (zoi (xbc (xks 1 neq) hq)))
 ·exact h.dn i j a1 a2 (zbby a3 e)
theorem Fl.fresh {st₀ st:SortSt}{lo n neq b:Nat}(h:Fl κ a₀ R st₀ st lo n neq b)(c:kA R (arrOf st) (lo+n)<=kA R (arrOf st) (lo+n - 1)):Fl κ a₀ R st₀ st lo (n+1) 0 b:=⟨h.base,h.same,h.less c,xej (xdg _),fun i g1 g2=>by
 have:i=lo+(n+1) - 1:=xdh (xct g2) g1
 rw[this]⟩
theorem Fl.more {st₀ st:SortSt}{lo n neq b:Nat}(h:Fl κ a₀ R st₀ st lo n neq b)(c:kA R (arrOf st) (lo+n)=kA R (arrOf st) (lo+n - 1)):Fl κ a₀ R st₀ st lo (n+1) (neq+1) b:=by
 have hq:=h.hq;refine⟨h.base,h.same,h.less (xcy c),xej hq,fun i g1 g2=>?_⟩;rw[show lo+(n+1) - 1=lo+n from rfl];by_cases e:i=lo+n
 ·rw[e]
 ·rw[c];exact h.eqs i (xbc (xcy (Nat.succ_sub_succ (lo+n) (neq+1)).symm) g1) (zbby g2 e)
theorem zxa {lo nrem:Nat}{st:SortSt}{Q:Option Nat->SortSt->Prop}(O:Orc prog w A s κ a₀ R)(b:B κ a₀ st)(hn:lo+nrem<=a₀.size)(h1:1<=nrem)
  (h:∀m st',1<=m->m<=nrem->B κ a₀ st'->Sm st st' lo (lo+nrem)->UpA R (arrOf st') lo (lo+m)->Q (some m) st'):wpS (model prog w) A E s (countRun' lo nrem) Q st:=by
 have sm0:Sm st st lo (lo+nrem):=⟨Out.refl _ _ _,rfl⟩
 have one:∀xs:Array Keyed,UpA R xs lo (lo+1):=fun xs i j a1 a2 a3=>by
  have:i=j:=xdh a2 (xbc (xct a3) a1);subst this;exact xbf _
 have oneD:∀xs:Array Keyed,DnA R xs lo (lo+1):=fun xs i j a1 a2 a3=>by
  have:i=j:=xdh a2 (xbc (xct a3) a1);subst this;exact xbf _
 rw[countRun'_eq];dsimp only;refine xbh (zxb O b hn (xbf _) h1 (one _) fun n n1 n2 hu hlast=>?_);dsimp only;split
 ·exact xbj (h n st n1 n2 b sm0 hu)
 rename_i hne;have hne':n≠nrem:=fun z=>hne (by simp[z])
 have hlt:n < nrem:=xcu n2 hne';have hl:kA R (arrOf st) (lo+n) < kA R (arrOf st) (lo+n - 1):=by
  rcases hlast with z | z
  ·exact absurd z hne'
  ·exact z
 have hz:=b.size;have fin:∀(n:Nat) (st1:SortSt),B κ a₀ st1->Sm st st1 lo (lo+nrem)->1<=n->n<=nrem->DnA R (arrOf st1) lo (lo+n) ->
   B κ a₀ (setArr st1 (mirror (arrOf st1) lo (lo+n) ((lo+n - lo) / 2)))/\Sm st (setArr st1 (mirror (arrOf st1) lo (lo+n) ((lo+n - lo) / 2))) lo (lo+nrem)/\UpA R (mirror (arrOf st1) lo (lo+n) ((lo+n - lo) / 2)) lo (lo+n):=fun n st1 b1 sm1 m1 m2 dn1=>by
  have hz:=b1.size;have hm:=xcd m2 lo;have hle:lo+n<=(arrOf st1).size:=by rw[hz];exact xbc hm hn
  refine⟨b1.set (mirror_perm _ _ _ _),⟨(Out.mirror hle (xbf _) hm).trans sm1.out,sm1.pend⟩,fun i j a1 a2 a3=>?_⟩;have hi:=xcp a2 a3;rw[zhf hle,zhf hle,if_pos ⟨a1,hi⟩,if_pos ⟨xbc a1 a2,a3⟩];exact dn1 _ _ (zza a3) (xgo a2 _) (zzb a1 hi)
 have eqs:¬ kA R (arrOf st) lo < kA R (arrOf st) (lo+n - 1)->∀k,lo<=k->k < lo+n->kA R (arrOf st) k=kA R (arrOf st) (lo+n - 1):=fun c k k1 k2=>by
  have g1:=hu lo k (xbf _) k1 k2;have g2:=hu k (lo+n - 1) k1 (xcv k2) (zoi n1);exact xdh g2 (xbc (xbw c) g1)
 have dnx:∀xs:Array Keyed,(∀k,kA R xs k=kA R (arrOf st) k)->¬ kA R (arrOf st) lo < kA R (arrOf st) (lo+n - 1)->DnA R xs lo (lo+(n+1)):=fun xs e c i j a1 a2 a3=>by
  rw[e,e];by_cases e2:j=lo+n
  ·subst e2;by_cases e3:i=lo+n
   ·rw[e3];exact xbf _
   ·rw[eqs c i a1 (xcu a2 e3)];exact xbq hl
  ·have jn:=zbby a3 e2;rw[eqs c i a1 (xcp a2 jn),eqs c j (xbc a1 a2) jn];exact xbf _
 split
 ·have hle:lo+n<=(arrOf st).size:=by rw[hz];exact xbc (xcd n2 lo) hn
  refine xbh (zjf O b (xbg (xgr h1) hn) (zwt hlt hn) ?_);by_cases c:kA R (arrOf st) lo < kA R (arrOf st) (lo+n - 1)
  ·simp only[c,xhc,xew];exact xbj (h n st n1 n2 b sm0 hu)
  ·simp only[c,xhm,xdk,xfq];refine xbh (zpz ?_);have b1:B κ a₀ (setArr st (mirror (arrOf st) lo (lo+n) ((lo+n - lo) / 2))):=b.set (mirror_perm _ _ _ _);have sm1:Sm st (setArr st (mirror (arrOf st) lo (lo+n) ((lo+n - lo) / 2))) lo (lo+nrem):=⟨Out.mirror hle (xbf _) (xcd n2 lo),rfl⟩
   have dn1:DnA R (arrOf (setArr st (mirror (arrOf st) lo (lo+n) ((lo+n - lo) / 2)))) lo (lo+(n+1)):=dnx _ (zfq hle (eqs c)) c;generalize (setArr st (mirror (arrOf st) lo (lo+n) ((lo+n - lo) / 2)))=st1 at b1 sm1 dn1 ⊢;refine xbh (xiv (xgb ⟨rfl,?_⟩));refine xbh (xes (xdc (I:=fun x c st'=>∃neq,c=(none,x,neq)/\Fl κ a₀ R st st' lo x neq (lo+nrem)) (Q:=fun c st'=>∃m neq,c=(none,m,neq)/\n+1<=m/\m<=nrem/\Fl κ a₀ R st st' lo m neq (lo+nrem)) ?_ ?_ ?_) ?_)
   ·rintro x c st' a1 a2 ⟨neq,rfl,f⟩;dsimp only;refine xbh (zjf O f.base (zwu a2 hn) (zwt a2 hn) ?_);by_cases c:kA R (arrOf st') (lo+x) < kA R (arrOf st') (lo+x - 1)
    ·simp only[c,xhc,xew];split
     ·obtain⟨f2,e⟩:=f.turn (xcd (xbq a2) lo) hn;refine xbh (zpz (xbj ⟨0,rfl,f2.fresh ?_⟩));refine xbq (?_:kA R (mirror _ _ _ _) _ < kA R (mirror _ _ _ _) _);rw[e,e];exact c
     ·exact xbj ⟨0,rfl,f.fresh (xbq c)⟩
    ·simp only[c,xhm,xdk,xfq];refine xbh (zjf O f.base (zwt a2 hn) (zwu a2 hn) ?_);by_cases c2:kA R (arrOf st') (lo+x - 1) < kA R (arrOf st') (lo+x)
     ·simp only[c2,xhc,xew];exact xbj ⟨x,neq,rfl,a1,xbq a2,f⟩
     ·simp only[c2,xhm,xdk,xfq];exact xbj ⟨neq+1,rfl,f.more (xdh (xbw c2) (xbw c))⟩
   ·rintro c st' ⟨neq,rfl,f⟩;rw[xko hlt] at f ⊢;exact⟨nrem,neq,rfl,hlt,xbf _,f⟩
   ·exact⟨0,rfl,b1,sm1,dn1,xej (xdg _),fun i g1 g2=>by
     have:i=lo+(n+1) - 1:=xdh (xct g2) g1
     rw[this]⟩
   ·rintro c st' ⟨m,neq,rfl,a1,a2,f⟩;dsimp only;split
    ·obtain⟨f2,e⟩:=f.turn (xcd a2 lo) hn;refine xbh (zpz (xbh (zpz ?_)));obtain⟨b3,s3,u3⟩:=fin m _ f2.base f2.same (xcz a1) a2 f2.dn;exact xbh (zxb O b3 hn (xcz a1) a2 u3 fun m' m1 m2 hu' _=>xbj (h m' _ (xbc (xcz a1) m1) m2 b3 s3 hu'))
    ·refine xbh (zpz ?_);obtain⟨b3,s3,u3⟩:=fin m _ f.base f.same (xcz a1) a2 f.dn;exact xbh (zxb O b3 hn (xcz a1) a2 u3 fun m' m1 m2 hu' _=>xbj (h m' _ (xbc (xcz a1) m1) m2 b3 s3 hu'))
 ·rename_i hn1;have b1:=b;have sm1:=sm0
  have dn1:DnA R (arrOf st) lo (lo+(n+1)):=dnx _ (fun _=>rfl) (by
   have:n=1:=xdh (xbw hn1) n1;subst this
   simp)
  refine xbh (xiv (xgb ⟨rfl,?_⟩));refine xbh (xes (xdc (I:=fun x c st'=>∃neq,c=(none,x,neq)/\Fl κ a₀ R st st' lo x neq (lo+nrem)) (Q:=fun c st'=>∃m neq,c=(none,m,neq)/\n+1<=m/\m<=nrem/\Fl κ a₀ R st st' lo m neq (lo+nrem)) ?_ ?_ ?_) ?_)
  ·rintro x c st' a1 a2 ⟨neq,rfl,f⟩;dsimp only;refine xbh (zjf O f.base (zwu a2 hn) (zwt a2 hn) ?_);by_cases c:kA R (arrOf st') (lo+x) < kA R (arrOf st') (lo+x - 1)
   ·simp only[c,xhc,xew];split
    ·obtain⟨f2,e⟩:=f.turn (xcd (xbq a2) lo) hn;refine xbh (zpz (xbj ⟨0,rfl,f2.fresh ?_⟩));refine xbq (?_:kA R (mirror _ _ _ _) _ < kA R (mirror _ _ _ _) _);rw[e,e];exact c
    ·exact xbj ⟨0,rfl,f.fresh (xbq c)⟩
   ·simp only[c,xhm,xdk,xfq];refine xbh (zjf O f.base (zwt a2 hn) (zwu a2 hn) ?_);by_cases c2:kA R (arrOf st') (lo+x - 1) < kA R (arrOf st') (lo+x)
    ·simp only[c2,xhc,xew];exact xbj ⟨x,neq,rfl,a1,xbq a2,f⟩
    ·simp only[c2,xhm,xdk,xfq];exact xbj ⟨neq+1,rfl,f.more (xdh (xbw c2) (xbw c))⟩
  ·rintro c st' ⟨neq,rfl,f⟩;rw[xko hlt] at f ⊢;exact⟨nrem,neq,rfl,hlt,xbf _,f⟩
  ·exact⟨0,rfl,b1,sm1,dn1,xej (xdg _),fun i g1 g2=>by
    have:i=lo+(n+1) - 1:=xdh (xct g2) g1
    rw[this]⟩
  ·rintro c st' ⟨m,neq,rfl,a1,a2,f⟩;dsimp only;split
   ·obtain⟨f2,e⟩:=f.turn (xcd a2 lo) hn;refine xbh (zpz (xbh (zpz ?_)));obtain⟨b3,s3,u3⟩:=fin m _ f2.base f2.same (xcz a1) a2 f2.dn;exact xbh (zxb O b3 hn (xcz a1) a2 u3 fun m' m1 m2 hu' _=>xbj (h m' _ (xbc (xcz a1) m1) m2 b3 s3 hu'))
   ·refine xbh (zpz ?_);obtain⟨b3,s3,u3⟩:=fin m _ f.base f.same (xcz a1) a2 f.dn;exact xbh (zxb O b3 hn (xcz a1) a2 u3 fun m' m1 m2 hu' _=>xbj (h m' _ (xbc (xcz a1) m1) m2 b3 s3 hu'))
end
section
variable {prog:Program}{w:World}{A:Around}{E:Value->Shared->Prop}{s:Shared}{κ:SortKind}{a₀:Array Keyed}{R:Keyed->Nat}
theorem zkv {xs:Array Keyed}{src d:Nat}(hs:src < xs.size)(hd:d<=src)(k:Nat):kA R (bubble xs src d) k=if k=src - d then kA R xs src else if src - d < k/\k<=src then kA R xs (k - 1) else kA R xs k:=by
 have e:=getElem?_bubble hs d hd k;split
 ·rename_i c;rw[if_pos c] at e;exact zct e
 ·rename_i c;rw[if_neg c] at e;split
  ·rename_i c2;rw[if_pos c2] at e;exact zct e
  ·rename_i c2;rw[if_neg c2] at e;exact zct e
theorem zhc {a b n:Nat}(h1:a<=b)(h:b - a<=n - max 0 n):b=a:=by
 rw[Nat.zero_max,xhw] at h;exact xdh (Nat.le_of_sub_eq_zero (Nat.le_zero.mp h)) h1
theorem zbeu {l r:Nat}(h:¬l ≥ r):l<=(l+r) / 2:=(Nat.le_div_iff_mul_le xkv).mpr (by rw[Nat.mul_two];exact xcd (xbq (xfg h)) l)
theorem zbbz {l r:Nat}(h:¬l ≥ r):(l+r) / 2 < r:=(Nat.div_lt_iff_lt_mul xkv).mpr (by rw[Nat.mul_two];exact Nat.add_lt_add_right (xfg h) r)
theorem hf_l {l r k x:Nat}(h:¬l ≥ r)(g:r - l<=k - x):(l+r) / 2 - l<=k - (x+1):=xbc (xcv (xdr (zbeu h) (zbbz h))) (xev g 1)
theorem hf_r {l r k x:Nat}(h:¬l ≥ r)(g:r - l<=k - x):r - ((l+r) / 2+1)<=k - (x+1):=xbc (xgo (xej (zbeu h)) r) (xev g 1)
theorem zuk {p j q:Nat}(h:p < j)(h2:j<=q):j - 1 < q:=xbg (xgv (xih h) Nat.one_pos) h2
theorem zbhn {lo n ok:Nat}{st:SortSt}{Q:Bool->SortSt->Prop}(O:Orc prog w A s κ a₀ R)(b:B κ a₀ st)(hn:lo+n<=a₀.size)(h1:1<=ok)(h2:ok<=n)(up:UpA R (arrOf st) lo (lo+ok))
  (h:∀st',B κ a₀ st'->Sm st st' lo (lo+n)->UpA R (arrOf st') lo (lo+n)->Q true st'):wpS (model prog w) A E s (binarySort' lo n ok) Q st:=by
 rw[binarySort'_eq]
 refine xbh (xes (xdc (I:=fun k c st'=>c=(none,())/\B κ a₀ st'/\Sm st st' lo (lo+n)/\UpA R (arrOf st') lo (lo+min k n))
  (Q:=fun c st'=>c=(none,())/\B κ a₀ st'/\Sm st st' lo (lo+n)/\UpA R (arrOf st') lo (lo+n)) ?_ ?_ ?_) ?_)
 ·rintro k c st' k1 k2 ⟨rfl,b1,sm1,up1⟩;rw[xeg (xbq k2)] at up1;have hz:=b1.size;have hk:lo+k < a₀.size:=xbg (xdp k2 lo) hn
  refine xbh (xes (xdc (I:=fun x c st2=>st2=st'/\∃l r,c=(none,l,r)/\l<=r/\r<=k/\r - l<=k - x/\(∀i,i < l->kA R (arrOf st') (lo+i)<=kA R (arrOf st') (lo+k))/\(∀i,r<=i->i < k->kA R (arrOf st') (lo+k)<=kA R (arrOf st') (lo+i)))
   (Q:=fun c st2=>st2=st'/\∃l r,c=(none,l,r)/\l<=k/\(∀i,i < l->kA R (arrOf st') (lo+i)<=kA R (arrOf st') (lo+k))/\(∀i,l<=i->i < k->kA R (arrOf st') (lo+k)<=kA R (arrOf st') (lo+i))) ?_ ?_ ?_) ?_)
  ·rintro x c st2 x1 x2 ⟨rfl,l,r,rfl,g1,g2,g3,g4,g5⟩;dsimp only;by_cases hge:l ≥ r
   ·rw[if_pos hge];have e:l=r:=xdh g1 hge;subst e;exact xbj ⟨rfl,l,l,rfl,g2,g4,g5⟩
   ·have hm:lo+(l+r) / 2 < lo+k:=xdp (xbg (zbbz hge) g2) lo;rw[if_neg hge];refine xbh (zjf O b1 hk (xhf hm hk) ?_);by_cases c:kA R (arrOf st2) (lo+k) < kA R (arrOf st2) (lo+(l+r) / 2)
    ·simp only[c,xhc,xew];exact xbj ⟨rfl,l,(l+r) / 2,rfl,zbeu hge,xbc (xbq (zbbz hge)) g2,hf_l hge g3,g4,fun i a1 a2=>xbc (xbq c) (up1 _ _ (xbr _ _) (xcd a1 lo) (xdp a2 lo))⟩
    ·simp only[c,xhm,xdk,xfq];exact xbj ⟨rfl,(l+r) / 2+1,r,rfl,zbbz hge,g2,hf_r hge g3,fun i a1=>xbc (up1 (lo+i) (lo+(l+r) / 2) (xbr _ _) (xcd (xct a1) lo) hm) (xbw c),g5⟩
  ·rintro c st2 ⟨rfl,l,r,rfl,g1,g2,g3,g4,g5⟩;have e:=zhc g1 g3;subst e;exact⟨rfl,_,_,rfl,g2,g4,g5⟩
  ·exact⟨rfl,0,k,rfl,xdg _,xbf _,xbf _,fun i hi=>absurd hi (Nat.not_lt_zero _),fun i a1 a2=>absurd a2 (xdw a1)⟩
  ·rintro c st2 ⟨rfl,l,r,rfl,g1,g2,g3⟩;dsimp only;have hd:lo+k - (lo+k - (lo+l))=lo+l:=Nat.sub_sub_self (xcd g1 lo);have hs:lo+k < (arrOf st2).size:=by rw[hz];exact hk
   refine xbh (zbcd (xbj ⟨rfl,b1.set (bubble_perm _ _ _),⟨(Out.bubble hs (xfy _ _) (by rw[hd];exact xbr _ _) (xdp k2 lo)).trans sm1.out,sm1.pend⟩,fun i j a1 a2 a3=>?_⟩));show kA R (bubble (arrOf st2) (lo+k) (lo+k - (lo+l))) i<=kA R (bubble (arrOf st2) (lo+k) (lo+k - (lo+l))) j;rw[zkv hs (xfy _ _),zkv hs (xfy _ _),hd];rw[xeg k2] at a3;have hj:j<=lo+k:=xct a3;have low:∀q,lo<=q->q < lo+l->kA R (arrOf st2) q<=kA R (arrOf st2) (lo+k):=fun q q1 q2=>by
    have:=g2 (q - lo) (xdd q1 q2);rw[xcf q1] at this;exact this
   have hig:∀q,lo+l<=q->q < lo+k->kA R (arrOf st2) (lo+k)<=kA R (arrOf st2) q:=fun q q1 q2=>by
    have q0:=xbc (xbr _ _) q1;have:=g3 (q - lo) (xec q1) (xdd q0 q2);rw[xcf q0] at this;exact this
   by_cases i1:i=lo+l
   ·rw[if_pos i1];by_cases j1:j=lo+l
    ·rw[if_pos j1];exact xbf _
    ·have jj:=xcu (i1 ▸ a2) (xci j1);rw[if_neg j1,if_pos ⟨jj,hj⟩];exact hig _ (xcv jj) (zuk jj hj)
   ·rw[if_neg i1];by_cases i2:lo+l < i/\i<=lo+k
    ·have jj:=xbg i2.1 a2;rw[if_pos i2,if_neg (xfm jj),if_pos ⟨jj,hj⟩];exact up1 _ _ (xbc (xbr lo l) (xcv i2.1)) (xev a2 1) (zuk jj hj)
    ·have il:i < lo+l:=xcu (xbw fun z=>i2 ⟨z,xbc a2 hj⟩) i1;rw[if_neg i2];by_cases j1:j=lo+l
     ·rw[if_pos j1];exact low i a1 il
     ·rw[if_neg j1];by_cases j2:lo+l < j/\j<=lo+k
      ·rw[if_pos j2];exact up1 _ _ a1 (xcv (xhf il j2.1)) (zuk j2.1 hj)
      ·rw[if_neg j2];exact up1 _ _ a1 a2 (xbg (xcu (xbw fun z=>j2 ⟨z,hj⟩) j1) (xcd g1 lo))
 ·rintro c st' ⟨rfl,b1,sm1,up1⟩;rw[xir (Nat.le_max_right _ _)] at up1;exact⟨rfl,b1,sm1,up1⟩
 ·refine⟨rfl,b,⟨Out.refl _ _ _,rfl⟩,fun i j a1 a2 a3=>up i j a1 a2 (xbg a3 (xcd (xbc (xgw _ _) (xcy (Nat.max_eq_left h1))) lo))⟩
 ·rintro c st' ⟨rfl,b1,sm1,up1⟩;exact xbj (h st' b1 sm1 up1)
noncomputable def gallop':Bool->Keyed->Array Keyed->Nat->Nat->Nat->StateT SortSt Sem (Option Nat):=sortPriv% PySem.Builtin.gallop
noncomputable def Cut (left:Bool) (R:Keyed->Nat) (key:Keyed) (arr:Array Keyed) (base n h:Nat):Prop:=h<=n/\(∀i,i < h->if left then kA R arr (base+i) < R key else kA R arr (base+i)<=R key)/\(∀i,h<=i->i < n->if left then R key<=kA R arr (base+i) else R key < kA R arr (base+i))
noncomputable def ahead (left:Bool) (R:Keyed->Nat) (key:Keyed) (arr:Array Keyed) (base i:Nat):Bool:=if left then decide (kA R arr (base+i) < R key) else decide (kA R arr (base+i)<=R key)
theorem zhs {left:Bool}{key:Keyed}{arr:Array Keyed}{base i:Nat}{st:SortSt}{Q:Option Bool->SortSt->Prop}(O:Orc prog w A s κ a₀ R)(hk:kindOf st=κ)(mk:key∈a₀.toList)(ma:∃x,arr[base+i]?=some x/\x∈a₀.toList)(h:Q (some (ahead left R key arr base i)) st) :
  wpS (model prog w) A E s (do
   let x ← elem' arr (base+i)
   if left=true then lt' x key else do
    let y ← lt' key x
    pure (Option.map (fun x=>!x) y)) Q st:=by
 obtain⟨x,e,m⟩:=ma;refine xbh (zhr e ?_);unfold ahead at h;rw[zcx e] at h;cases left with
 | true =>
  rw[if_pos rfl] at h ⊢;exact w_lt O hk m mk h
 | false =>
  rw[if_neg (by decide)] at h ⊢;refine xbh (w_lt O hk mk m (xbj ?_));have q:(!decide (R key < R x))=decide (R x<=R key):=by
   by_cases c:R key < R x
   ·rw[xce c,xbt (Nat.not_le_of_lt c)];rfl
   ·rw[xbt c,xce (xbw c)];rfl
  show Q (some (!decide (R key < R x))) st;rw[q];exact h
theorem zpm {left:Bool}{key:Keyed}{arr:Array Keyed}{base n i j:Nat}(up:UpA R arr base (base+n))(hij:i<=j)(hj:j < n)(h:ahead left R key arr base j=true):ahead left R key arr base i=true:=by
 have:=up (base+i) (base+j) (xbr _ _) (xcd hij _) (xdp hj _);unfold ahead at h ⊢;cases left with
 | true=>rw[if_pos rfl] at h ⊢;exact xce (xcp this (xfa h))
 | false=>rw[if_neg (by decide)] at h ⊢;exact xce (xbc this (xfa h))
theorem zbaz {left:Bool}{key:Keyed}{arr:Array Keyed}{base n h:Nat}(h0:h<=n)(h1:∀i,i < h->ahead left R key arr base i=true)(h2:∀i,h<=i->i < n->ahead left R key arr base i=false):Cut left R key arr base n h:=by
 refine⟨h0,fun i hi=>?_,fun i a1 a2=>?_⟩
 ·have:=h1 i hi;unfold ahead at this;cases left with
  | true=>rw[if_pos rfl] at this ⊢;exact xfa this
  | false=>rw[if_neg (by decide)] at this ⊢;exact xfa this
 ·have:=h2 i a1 a2;unfold ahead at this;cases left with
  | true=>rw[if_pos rfl] at this ⊢;exact xbw (of_decide_eq_false this)
  | false=>rw[if_neg (by decide)] at this ⊢;exact xfg (of_decide_eq_false this)
theorem zsu {a b:Nat}(c:¬a ≥ b):(b - a) / 2 < b - a:=Nat.div_lt_self (xex (xfg c)) (xbf 2)
theorem zbec {a b:Nat}(c:¬a ≥ b):a+(b - a) / 2 < b:=xdi (zsu c)
theorem zws {a b n:Nat}(c:¬a ≥ b)(h:b<=n):a+(b - a) / 2 < n:=xbg (zbec c) h
theorem zzd {a b n x:Nat}(h:b - a<=n - x):b - (a+(b - a) / 2+1)<=n - (x+1):=xbc (xgo (xej (xbr a _)) b) (xev h 1)
theorem zzc {a b n x:Nat}(c:¬a ≥ b)(h:b - a<=n - x):a+(b - a) / 2 - a<=n - (x+1):=by
 rw[xcs];exact xbc (xcv (zsu c)) (xev h 1)
theorem zban (o:Nat):o < 2 * o+1:=Nat.lt_succ_of_le (Nat.le_mul_of_pos_left o xkv)
theorem zbao {x o:Nat}(h:x+1<=o):x+1+1<=2 * o+1:=xej (xbc h (Nat.le_mul_of_pos_left o xkv))
theorem zxf {a b n:Nat}(h:a+b < n):b < n - a:=Nat.lt_sub_of_add_lt (Nat.add_comm a b ▸ h)
inductive GI (f:Nat->Bool) (n:Nat) (st:SortSt) (x:Nat):Option (Option Nat)×Nat×Nat->SortSt->Prop where
 | mk {a b:Nat} (q1:a<=b) (q2:b<=n) (q3:b - a<=n - x) (q4:∀i,i < a->f i=true) (q5:∀i,b<=i->i < n->f i=false):GI f n st x (none,a,b) st
inductive GE (f:Nat->Bool) (n:Nat) (st:SortSt):Option (Option Nat)×Nat×Nat->SortSt->Prop where
 | mk {b:Nat} (q2:b<=n) (q4:∀i,i < b->f i=true) (q5:∀i,b<=i->i < n->f i=false):GE f n st (none,b,b) st
inductive GU (f:Nat->Bool) (n hint:Nat) (P:Nat->Prop) (st:SortSt):Option (Option Nat)×Nat×Nat->SortSt->Prop where
 | mk {l o:Nat} (g1:l < o) (g2:hint+l < n) (g3:f (hint+l)=true) (g4:P o):GU f n hint P st (none,l,o) st
inductive GD (f:Nat->Bool) (hint:Nat) (P:Nat->Prop) (st:SortSt):Option (Option Nat)×Nat×Nat->SortSt->Prop where
 | mk {l o:Nat} (g1:l < o) (g2:l<=hint) (g3:f (hint - l)=false) (g4:P o):GD f hint P st (none,l,o) st
theorem zeg {left:Bool}{key:Keyed}{arr:Array Keyed}{base n hint:Nat}{st:SortSt}{Q:Option Nat->SortSt->Prop}(O:Orc prog w A s κ a₀ R)(hk:kindOf st=κ)(mk:key∈a₀.toList)(ma:∀i,i < n->∃x,arr[base+i]?=some x/\x∈a₀.toList)(hh:hint < n)
  (up:UpA R arr base (base+n))(h:∀k,Cut left R key arr base n k->Q (some k) st):wpS (model prog w) A E s (gallop' left key arr base n hint) Q st:=by
 have mono:∀i j,i<=j->j < n->ahead left R key arr base j=true->ahead left R key arr base i=true:=fun i j a1 a2=>zpm up a1 a2
 have monoF:∀i j,i<=j->j < n->ahead left R key arr base i=false->ahead left R key arr base j=false:=fun i j a1 a2 e=>by
  cases c:ahead left R key arr base j with
  | false=>rfl
  | true=>rw[mono i j a1 a2 c] at e;cases e
 refine xbh (zhs O hk mk (ma hint hh) ?_);dsimp only;cases hr:ahead left R key arr base hint with
 | true =>
  rw[if_pos rfl];refine xbh (xes (xdc (I:=fun x=>GU (ahead left R key arr base) n hint (x+1<=·) st) (Q:=GU (ahead left R key arr base) n hint (fun o=>n - hint<=o\/(hint+o < n/\ahead left R key arr base (hint+o)=false)) st) ?_ ?_ ?_) ?_)
  ·rintro x c st' x1 x2 @⟨l,o,g1,g2,g3,g4⟩;dsimp only;by_cases c:o ≥ n - hint
   ·rw[if_pos c];exact xbj (.mk g1 g2 g3 (.inl c))
   ·have c3:hint+o < n:=xdi (xfg c);rw[if_neg c];refine xbh (zhs O hk mk (ma (hint+o) c3) ?_);dsimp only;cases c2:ahead left R key arr base (hint+o) with
    | true=>exact xbj (.mk (zban o) c3 c2 (zbao g4))
    | false=>exact xbj (.mk g1 g2 g3 (.inr ⟨c3,c2⟩))
  ·rintro c st' @⟨l,o,g1,g2,g3,g4⟩;rw[Nat.zero_max] at g4;exact .mk g1 g2 g3 (.inl (xbc (xfy _ _) (xcw g4)))
  ·exact .mk Nat.one_pos hh hr (xbf _)
  ·rintro c st' @⟨l,o,g1,g2,g3,g4⟩;dsimp only;have f1:∀i,i < hint+l+1->ahead left R key arr base i=true:=fun i hi=>mono i (hint+l) (xct hi) g2 g3
   have f2:∀i,hint+min o (n - hint)<=i->i < n->ahead left R key arr base i=false:=fun i a1 a2=>by
    rcases g4 with g | ⟨ga,gb⟩
    ·rw[xir g,xcf (xbq hh)] at a1;exact absurd a2 (xdw a1)
    ·rw[xeg (xbq (zxf ga))] at a1;exact monoF (hint+o) i a1 a2 gb
   have f3:hint+l+1<=hint+min o (n - hint):=xcd (Nat.le_min.mpr ⟨g1,zxf g2⟩) hint;have f4:hint+min o (n - hint)<=n:=xbc (xcd (xiq _ _) hint) (xcy (xcf (xbq hh)));generalize hint+l+1=lo at f1 f3 ⊢;generalize hint+min o (n - hint)=hi at f2 f3 f4 ⊢;refine xbh (xes (xdc (I:=GI (ahead left R key arr base) n st) (Q:=GE (ahead left R key arr base) n st) ?_ ?_ (.mk f3 f4 (xbc (xfy _ _) f4) f1 f2)) ?_)
   ·rintro x c st2 x1 x2 @⟨a,b,q1,q2,q3,q4,q5⟩;dsimp only;by_cases c:a ≥ b
    ·rw[if_pos c];have e:b=a:=xdh c q1;subst e;exact xbj (.mk q2 q4 q5)
    ·rw[if_neg c];refine xbh (zhs O hk mk (ma (a+(b - a) / 2) (zws c q2)) ?_);dsimp only;cases c2:ahead left R key arr base (a+(b - a) / 2) with
     | true=>exact xbj (.mk (zbec c) q2 (zzd q3) (fun i hi=>mono i (a+(b - a) / 2) (xct hi) (zws c q2) c2) q5)
     | false=>exact xbj (.mk (xbr _ _) (xbq (zws c q2)) (zzc c q3) q4 fun i a1 a2=>monoF (a+(b - a) / 2) i a1 a2 c2)
   ·rintro c st2 @⟨a,b,q1,q2,q3,q4,q5⟩;have e:=zhc q1 q3;subst e;exact .mk q2 q4 q5
   ·rintro c st2 @⟨b,q2,q4,q5⟩;exact xbj (h b (zbaz q2 q4 q5))
 | false =>
  rw[if_neg (by decide)];refine xbh (xes (xdc (I:=fun x=>GD (ahead left R key arr base) hint (x+1<=·) st) (Q:=GD (ahead left R key arr base) hint (fun o=>hint+1<=o\/(o<=hint/\ahead left R key arr base (hint - o)=true)) st) ?_ ?_ ?_) ?_)
  ·rintro x c st' x1 x2 @⟨l,o,g1,g2,g3,g4⟩;dsimp only;by_cases c:o ≥ hint+1
   ·rw[if_pos c];exact xbj (.mk g1 g2 g3 (.inl c))
   ·rw[if_neg c];refine xbh (zhs O hk mk (ma (hint - o) (xcp (xfy _ _) hh)) ?_);dsimp only;cases c2:ahead left R key arr base (hint - o) with
    | true=>exact xbj (.mk g1 g2 g3 (.inr ⟨xct (xfg c),c2⟩))
    | false=>exact xbj (.mk (zban o) (xct (xfg c)) c2 (zbao g4))
  ·rintro c st' @⟨l,o,g1,g2,g3,g4⟩;rw[Nat.zero_max] at g4;exact .mk g1 g2 g3 (.inl (xbc hh (xcw g4)))
  ·exact .mk Nat.one_pos (xdg _) hr (xbf _)
  ·rintro c st' @⟨l,o,g1,g2,g3,g4⟩;dsimp only;have f1:∀i,i < hint+1 - min o (hint+1)->ahead left R key arr base i=true:=fun i hi=>by
    rcases g4 with g | ⟨ga,gb⟩
    ·rw[xir g,xhw] at hi;exact absurd hi (Nat.not_lt_zero _)
    ·rw[xeg (xfr ga),Nat.succ_sub ga] at hi;exact mono i (hint - o) (xct hi) (xcp (xfy _ _) hh) gb
   have f2:∀i,hint - l<=i->i < n->ahead left R key arr base i=false:=fun i a1 a2=>monoF (hint - l) i a1 a2 g3
   have f3:hint+1 - min o (hint+1)<=hint - l:=xbc (xgo (Nat.le_min.mpr ⟨g1,xej g2⟩) _) (xcy (Nat.succ_sub_succ hint l));have f4:hint - l<=n:=xbc (xfy _ _) (xbq hh);generalize hint+1 - min o (hint+1)=lo at f1 f3 ⊢;generalize hint - l=hi at f2 f3 f4 ⊢;refine xbh (xes (xdc (I:=GI (ahead left R key arr base) n st) (Q:=GE (ahead left R key arr base) n st) ?_ ?_ (.mk f3 f4 (xbc (xfy _ _) f4) f1 f2)) ?_)
   ·rintro x c st2 x1 x2 @⟨a,b,q1,q2,q3,q4,q5⟩;dsimp only;by_cases c:a ≥ b
    ·rw[if_pos c];have e:b=a:=xdh c q1;subst e;exact xbj (.mk q2 q4 q5)
    ·rw[if_neg c];refine xbh (zhs O hk mk (ma (a+(b - a) / 2) (zws c q2)) ?_);dsimp only;cases c2:ahead left R key arr base (a+(b - a) / 2) with
     | true=>exact xbj (.mk (zbec c) q2 (zzd q3) (fun i hi=>mono i (a+(b - a) / 2) (xct hi) (zws c q2) c2) q5)
     | false=>exact xbj (.mk (xbr _ _) (xbq (zws c q2)) (zzc c q3) q4 fun i a1 a2=>monoF (a+(b - a) / 2) i a1 a2 c2)
   ·rintro c st2 @⟨a,b,q1,q2,q3,q4,q5⟩;have e:=zhc q1 q3;subst e;exact .mk q2 q4 q5
   ·rintro c st2 @⟨b,q2,q4,q5⟩;exact xbj (h b (zbaz q2 q4 q5))
end
section
variable {prog:Program}{w:World}{A:Around}{E:Value->Shared->Prop}{s:Shared}{κ:SortKind}{a₀:Array Keyed}{R:Keyed->Nat}
noncomputable abbrev Ord (R:Keyed->Nat) (l:List Keyed):Prop:=l.Pairwise fun x y=>R x<=R y
structure SmG (st st':SortSt):Prop where
 arr:arrOf st'=arrOf st
 pend:pendingOf st'=pendingOf st
 kind:kindOf st'=kindOf st
 failed:failedOf st'=failedOf st
theorem SmG.refl (st:SortSt):SmG st st:=⟨rfl,rfl,rfl,rfl⟩
theorem SmG.trans {a b c:SortSt}(x:SmG a b)(y:SmG b c):SmG a c:=⟨y.arr.trans x.arr,y.pend.trans x.pend,y.kind.trans x.kind,y.failed.trans x.failed⟩
noncomputable def mergeLo':Array Keyed->Array Keyed->StateT SortSt Sem (Array Keyed):=sortPriv% PySem.Builtin.mergeLo
noncomputable def mergeHi':Array Keyed->Array Keyed->StateT SortSt Sem (Array Keyed):=sortPriv% PySem.Builtin.mergeHi
structure ML (R:Keyed->Nat) (all out rest:List Keyed):Prop where
 perm:(out++rest).Perm all
 ord:Ord R out
 le:∀x∈out,∀y∈rest,R x<=R y
theorem ML.grow {all out rest xs rest':List Keyed}(m:ML R all out rest)(p:rest.Perm (xs++rest'))(o:Ord R xs)(h:∀x∈xs,∀y∈rest',R x<=R y):ML R all (out++xs) rest':=by
 refine⟨?_,xfn.mpr ⟨m.ord,o,fun x hx y hy=>m.le x hx y (p.mem_iff.mpr (xhn _ hy))⟩,fun x hx y hy=>?_⟩
 ·rw[xcn];exact(xgh out p.symm).trans m.perm
 ·rcases xbs.mp hx with hx | hx
  ·exact m.le x hx y (p.mem_iff.mpr (xcx _ hy))
  ·exact h x hx y hy
theorem ML.fin {all out rest rest':List Keyed}(m:ML R all out rest)(p:rest'.Perm rest)(o:Ord R rest'):(out++rest').Perm all/\Ord R (out++rest') :=
 ⟨(xgh out p).trans m.perm,xfn.mpr ⟨m.ord,o,fun x hx y hy=>m.le x hx y (p.mem_iff.mp hy)⟩⟩
theorem Ord.at {l:List Keyed}(h:Ord R l){i j:Nat}{x y:Keyed}(hi:l[i]?=some x)(hj:l[j]?=some y)(hij:i<=j):R x<=R y:=by
 obtain⟨h1,e1⟩:=xbk.mp hi;obtain⟨h2,e2⟩:=xbk.mp hj;by_cases c:i=j
 ·subst c;rw[← e1,← e2];exact xbf _
 ·rw[← e1,← e2];exact xhu.mp h i j h1 h2 (xcu hij c)
theorem Ord.drop {l:List Keyed}(h:Ord R l)(n:Nat):Ord R (l.drop n):=xjb (List.drop_sublist _ _) h
theorem Ord.take {l:List Keyed}(h:Ord R l)(n:Nat):Ord R (l.take n):=xjb (List.take_sublist _ _) h
theorem zbf {l:List Keyed}{n:Nat}{y:Keyed}(h:y∈l.drop n):∃j,n<=j/\l[j]?=some y:=by
 obtain⟨i,hi,e⟩:=xdz h;refine⟨n+i,xbr _ _,?_⟩;rw[← e,List.getElem_drop];exact xbi _
theorem zo {l:List Keyed}{n:Nat}{y:Keyed}(h:y∈l.take n):∃j,j < n/\l[j]?=some y:=by
 obtain⟨i,hi,e⟩:=xdz h;have hi2:i < n/\i < l.length:=by rw[xdl] at hi;exact Nat.lt_min.mp hi
 refine⟨i,hi2.1,?_⟩;rw[← e,List.getElem_take];exact xbi _
theorem zfu {l:List Keyed}{i:Nat}{x:Keyed}(h:l[i]?=some x):l.drop i=x::l.drop (i+1):=by
 obtain⟨h1,rfl⟩:=xbk.mp h;exact xfl h1
theorem zir (l:List Keyed)(i k:Nat):l.drop i=(l.drop i).take k++l.drop (i+k):=by
 rw[← xhg,xgi]
structure Two (R:Keyed->Nat) (la lb:List Keyed):Prop where
 oa:Ord R la
 ob:Ord R lb
 last:∀x,la[la.length - 1]?=some x->∀y∈lb,R y<=R x
noncomputable def Fin (R:Keyed->Nat) (la lb:List Keyed) (r:Array Keyed):Prop:=r.toList.Perm (la++lb)/\Ord R r.toList
variable {la lb:List Keyed}{out:Array Keyed}{ia ib:Nat}
theorem ML.pushB {R:Keyed->Nat}{all:List Keyed}(T:Two R la lb)(m:ML R all out.toList (la.drop ia++lb.drop ib)){y:Keyed}(hy:lb[ib]?=some y)(h:∀z∈la.drop ia,R y<=R z):ML R all (out.push y).toList (la.drop ia++lb.drop (ib+1)):=by
 rw[xey];refine m.grow ?_ (xie _ _) fun x hx z hz=>?_
 ·rw[zfu hy];exact List.perm_middle
 ·simp at hx;subst hx
  rcases xbs.mp hz with hz | hz
  ·exact h z hz
  ·obtain⟨j,hj,e⟩:=zbf hz;exact T.ob.at hy e (xcw hj)
theorem ML.pushA {R:Keyed->Nat}{all:List Keyed}(T:Two R la lb)(m:ML R all out.toList (la.drop ia++lb.drop ib)){x:Keyed}(hx:la[ia]?=some x)(h:∀z∈lb.drop ib,R x<=R z):ML R all (out.push x).toList (la.drop (ia+1)++lb.drop ib):=by
 rw[xey];refine m.grow ?_ (xie _ _) fun w hw z hz=>?_
 ·rw[zfu hx];exact .refl _
 ·simp at hw;subst hw
  rcases xbs.mp hz with hz | hz
  ·obtain⟨j,hj,e⟩:=zbf hz;exact T.oa.at hx e (xcw hj)
  ·exact h z hz
theorem zbs (xs:Array Keyed)(i j:Nat):(xs.extract i j).toList=(xs.toList.drop i).take (j - i):=by
 rw[Array.toList_extract,List.extract_eq_take_drop]
theorem zky (xs:Array Keyed)(i:Nat):(xs.extract i).toList=xs.toList.drop i:=by
 rw[zbs];exact xel (by simp)
theorem zbq {xs:Array Keyed}{i:Nat}{x:Keyed}(h:xs.toList[i]?=some x):kA R xs i=R x:=zcx (by rw[← xby];exact h)
end
section
variable {prog:Program}{w:World}{A:Around}{E:Value->Shared->Prop}{s:Shared}{κ:SortKind}{a₀:Array Keyed}{R:Keyed->Nat}{a b out:Array Keyed}{ia ib k:Nat}{y x:Keyed}{all:List Keyed}
theorem ML.galA (T:Two R a.toList b.toList)(m:ML R all out.toList (a.toList.drop ia++b.toList.drop ib))(hy:b.toList[ib]?=some y)(c:Cut false R y a ia (a.size - ia) k):ML R all (out++a.extract ia (ia+k)).toList (a.toList.drop (ia+k)++b.toList.drop ib)/\∀z∈a.toList.drop (ia+k),R y<=R z:=by
 have up:∀z∈a.toList.drop (ia+k),R y<=R z:=fun z hz=>by
  obtain⟨j,hj,e⟩:=zbf hz;have hj2:j < a.size:=by have:=(xbk.mp e).1;simpa using this
  have h0:=xbc (xbr _ _) hj;have:=c.2.2 (j - ia) (xec hj) (xdr h0 hj2);rw[xcf h0,zbq e] at this;exact xbq this
 have low:∀z∈(a.toList.drop ia).take k,R z<=R y:=fun z hz=>by
  obtain⟨j,hj,e⟩:=zo hz;rw[xds] at e;have:=c.2.1 j hj;rw[zbq e] at this;exact this
 refine⟨?_,up⟩;rw[xcl,zbs,xcs];refine m.grow ?_ ((T.oa.drop ia).take k) fun z hz v hv=>?_
 ·conv=>lhs;rw[zir a.toList ia k]
  rw[xcn]
 ·rcases xbs.mp hv with hv | hv
  ·exact xbc (low z hz) (up v hv)
  ·obtain⟨j,hj,e⟩:=zbf hv;exact xbc (low z hz) (T.ob.at hy e hj)
theorem ML.galB (T:Two R a.toList b.toList)(m:ML R all out.toList (a.toList.drop ia++b.toList.drop ib))(hx:a.toList[ia]?=some x)(c:Cut true R x b ib (b.size - ib) k):ML R all (out++b.extract ib (ib+k)).toList (a.toList.drop ia++b.toList.drop (ib+k))/\∀z∈b.toList.drop (ib+k),R x<=R z:=by
 have up:∀z∈b.toList.drop (ib+k),R x<=R z:=fun z hz=>by
  obtain⟨j,hj,e⟩:=zbf hz;have hj2:j < b.size:=by have:=(xbk.mp e).1;simpa using this
  have h0:=xbc (xbr _ _) hj;have:=c.2.2 (j - ib) (xec hj) (xdr h0 hj2);rw[xcf h0,zbq e] at this;exact this
 have low:∀z∈(b.toList.drop ib).take k,R z<=R x:=fun z hz=>by
  obtain⟨j,hj,e⟩:=zo hz;rw[xds] at e;have:=c.2.1 j hj;rw[zbq e] at this;exact xbq this
 refine⟨?_,up⟩;rw[xcl,zbs,xcs];refine m.grow ?_ ((T.ob.drop ib).take k) fun z hz v hv=>?_
 ·conv=>lhs;rw[zir b.toList ib k]
  rw[← xcn,← xcn];exact xha _ xgj
 ·rcases xbs.mp hv with hv | hv
  ·obtain⟨j,hj,e⟩:=zbf hv;exact xbc (low z hz) (T.oa.at hx e hj)
  ·exact xbc (low z hz) (up v hv)
theorem ML.done (T:Two R a.toList b.toList)(m:ML R (a.toList++b.toList) out.toList (a.toList.drop ia++b.toList.drop ib))(h:ia=a.size\/ib=b.size):Fin R a.toList b.toList (out++a.extract ia++b.extract ib):=by
 unfold Fin;rw[xcl,xcl,zky,zky,xcn];refine m.fin (.refl _) ?_;rcases h with rfl | rfl
 ·rw[xhb (by simp),xkt];exact T.ob.drop _
 ·rw[xhb (as:=b.toList) (by simp),xef];exact T.oa.drop _
theorem ML.lastA (T:Two R a.toList b.toList)(m:ML R (a.toList++b.toList) out.toList (a.toList.drop ia++b.toList.drop ib))(h:ia+1=a.size):Fin R a.toList b.toList (out++b.extract ib++a.extract ia):=by
 unfold Fin;rw[xcl,xcl,zky,zky,xcn];refine m.fin xgj (xfn.mpr ⟨T.ob.drop _,T.oa.drop _,fun v hv z hz=>?_⟩);obtain⟨j,hj,e⟩:=zbf hz;have hj2:j < a.size:=by have:=(xbk.mp e).1;simpa using this
 have:j=a.toList.length - 1:=xdh (xcv (by rw[xcb];exact hj2)) (by rw[xcb,← h];exact hj);subst this;exact T.last z e v (xdt hv)
noncomputable def setG':Nat->StateT SortSt Sem Unit:=sortPriv% PySem.Builtin.setMinGallop
theorem zpy {g:Nat}{st:SortSt}{Q:Unit->SortSt->Prop}(h:∀st',SmG st st'->Q () st'):wpS (model prog w) A E s (setG' g) Q st :=
 xga (h _ ⟨rfl,rfl,rfl,rfl⟩)
theorem zbgv {α:Type}{K:Nat->StateT SortSt Sem α}{Q:α->SortSt->Prop}{st:SortSt}(h:∀v,wpS (model prog w) A E s (K v) Q st):∀y x:Nat,wpS (model prog w) A E s (if y > 1 then K x else K y) Q st:=fun y x=>by
 by_cases e:y > 1
 ·rw[if_pos e];exact h x
 ·rw[if_neg e];exact h y
theorem zbgx {α:Type}{c c2:Prop}[Decidable c][Decidable c2]{X Y Y':StateT SortSt Sem α}{Q:α->SortSt->Prop}{st:SortSt}(hY:¬c->Y'=Y)(h1:c->c2->wpS (model prog w) A E s X Q st)(h2:(c->¬c2)->wpS (model prog w) A E s Y Q st):wpS (model prog w) A E s (if c then(if c2 then X else Y) else Y') Q st:=by
 by_cases e:c
 ·rw[if_pos e];by_cases e2:c2
  ·rw[if_pos e2];exact h1 e e2
  ·rw[if_neg e2];exact h2 fun _=>e2
 ·rw[if_neg e,hY e];exact h2 fun z=>absurd z e
theorem zwz {α:Type}{c c2 c3:Prop}[Decidable c][Decidable c2][Decidable c3]{X X3 Y Y':StateT SortSt Sem α}{Q:α->SortSt->Prop}{st:SortSt}(hY:¬c->Y'=Y)(h1:c->c2->wpS (model prog w) A E s X Q st)(h3:c->c3->wpS (model prog w) A E s X3 Q st)(h2:(c->¬c2/\¬c3)->wpS (model prog w) A E s Y Q st):wpS (model prog w) A E s (if c then(if c2 then X else if c3 then X3 else Y) else Y') Q st:=by
 by_cases e:c
 ·rw[if_pos e];by_cases e2:c2
  ·rw[if_pos e2];exact h1 e e2
  ·rw[if_neg e2];by_cases e3:c3
   ·rw[if_pos e3];exact h3 e e3
   ·rw[if_neg e3];exact h2 fun _=>⟨e2,e3⟩
 ·rw[if_neg e,hY e];exact h2 fun z=>absurd z e
theorem zbgw {α:Type}{c c2:Prop}[Decidable c][Decidable c2]{X X2 Y:StateT SortSt Sem α}{Q:α->SortSt->Prop}{st:SortSt}(h1:c->wpS (model prog w) A E s X Q st)(h2:c2->wpS (model prog w) A E s X2 Q st)(h3:¬c->¬c2->wpS (model prog w) A E s Y Q st):wpS (model prog w) A E s (if c then X else if c2 then X2 else Y) Q st:=by
 by_cases e:c
 ·rw[if_pos e];exact h1 e
 ·rw[if_neg e];by_cases e2:c2
  ·rw[if_pos e2];exact h2 e2
  ·rw[if_neg e2];exact h3 e e2
theorem w_if {α:Type}{c:Prop}[Decidable c]{X Y:StateT SortSt Sem α}{Q:α->SortSt->Prop}{st:SortSt}(h1:c->wpS (model prog w) A E s X Q st)(h2:¬c->wpS (model prog w) A E s Y Q st):wpS (model prog w) A E s (if c then X else Y) Q st:=by
 by_cases e:c
 ·rw[if_pos e];exact h1 e
 ·rw[if_neg e];exact h2 e
theorem w_el {α:Type}{arr:Array Keyed}{i:Nat}{x:Keyed}{f:Keyed->StateT SortSt Sem α}{Q:α->SortSt->Prop}{st:SortSt}(e:arr[i]?=some x)(h:wpS (model prog w) A E s (f x) Q st):wpS (model prog w) A E s (elem' arr i >>= f) Q st:=xbh (zhr e h)
theorem zwy {α:Type}{x y:Keyed}{f:Option Bool->StateT SortSt Sem α}{Q:α->SortSt->Prop}{st:SortSt}(O:Orc prog w A s κ a₀ R)(hk:kindOf st=κ)(hx:x∈a₀.toList)(hy:y∈a₀.toList)(h1:R x < R y->wpS (model prog w) A E s (f (some true)) Q st)(h2:R y<=R x->wpS (model prog w) A E s (f (some false)) Q st):wpS (model prog w) A E s (lt' x y >>= f) Q st:=by
 refine xbh (w_lt O hk hx hy ?_);by_cases c:R x < R y
 ·rw[xce c];exact h1 c
 ·rw[xbt c];exact h2 (xbw c)
inductive Dn {β:Type} (R:Keyed->Nat) (a b:Array Keyed) (st:SortSt):Option (Array Keyed)×β->SortSt->Prop where
 | mk {r:Array Keyed} {z:β} {st':SortSt} (sm:SmG st st') (f:Fin R a.toList b.toList r):Dn R a b st (some r,z) st'
inductive L1 (R:Keyed->Nat) (a b:Array Keyed) (st:SortSt) (x:Nat):Option (Array Keyed)×Array Keyed×Nat×Nat×Nat->SortSt->Prop where
 | mk {out:Array Keyed} {ia ib g:Nat} {st':SortSt} (sm:SmG st st') (m:ML R (a.toList++b.toList) out.toList (a.toList.drop ia++b.toList.drop ib)) (ha:ia+1 < a.size) (hb:ib < b.size) (hx:x < ia+ib):L1 R a b st x (none,out,ia,ib,g) st'
inductive L2' (R:Keyed->Nat) (a b:Array Keyed) (st:SortSt) (x:Nat):Option (Array Keyed)×Array Keyed×Nat×Nat×Nat×Nat->SortSt->Prop where
 | mk {out:Array Keyed} {ia ib ac bc:Nat} {st':SortSt} (sm:SmG st st') (m:ML R (a.toList++b.toList) out.toList (a.toList.drop ia++b.toList.drop ib)) (ha:ia+1 < a.size) (hb:ib < b.size) (hx:x<=ia+ib):L2' R a b st x (none,out,ia,ib,ac,bc) st'
inductive L3 (R:Keyed->Nat) (a b:Array Keyed) (st:SortSt) (x:Nat):Option (Array Keyed)×Array Keyed×Nat×Nat×Nat×Nat×Nat->SortSt->Prop where
 | mk {out:Array Keyed} {ia ib g ac bc:Nat} {st':SortSt} (sm:SmG st st') (m:ML R (a.toList++b.toList) out.toList (a.toList.drop ia++b.toList.drop ib)) (ha:ia+1 < a.size) (hb:ib < b.size) (hx:x<=ia+ib):L3 R a b st x (none,out,ia,ib,g,ac,bc) st'
theorem zqa {st:SortSt}{Q:Array Keyed->SortSt->Prop}(O:Orc prog w A s κ a₀ R)(hk:kindOf st=κ)(ma:∀x∈a.toList,x∈a₀.toList)(mb:∀x∈b.toList,x∈a₀.toList)(T:Two R a.toList b.toList)(ha:1<=a.size)(hb:1<=b.size)
  (fst:∀y,b.toList[0]?=some y->∀x∈a.toList,R y<=R x)(h:∀r st',SmG st st'->Fin R a.toList b.toList r->Q r st'):wpS (model prog w) A E s (mergeLo' a b) Q st:=by
 have atA:∀(i:Nat) (hi:i < a.size),a[i]?=some a[i]/\a.toList[i]?=some a[i]/\a[i]∈a₀.toList:=fun i hi=>⟨getElem?_pos a i hi,by rw[xby];exact getElem?_pos a i hi,ma _ (by simp)⟩
 have atB:∀(i:Nat) (hi:i < b.size),b[i]?=some b[i]/\b.toList[i]?=some b[i]/\b[i]∈a₀.toList:=fun i hi=>⟨getElem?_pos b i hi,by rw[xby];exact getElem?_pos b i hi,mb _ (by simp)⟩
 have upA:∀i,UpA R a i (i+(a.size - i)):=fun i p q a1 a2 a3=>by
  have hq:q < a.size:=by lia
  have e1:=(atA p (by lia)).2.1;have e2:=(atA q hq).2.1;rw[zbq e1,zbq e2];exact T.oa.at e1 e2 a2
 have upB:∀i,UpA R b i (i+(b.size - i)):=fun i p q a1 a2 a3=>by
  have hq:q < b.size:=by lia
  have e1:=(atB p (by lia)).2.1;have e2:=(atB q hq).2.1;rw[zbq e1,zbq e2];exact T.ob.at e1 e2 a2
 obtain⟨y0,f0,f1⟩:∃x,b[0]?=some x/\b.toList[0]?=some x:=⟨_,(atB 0 hb).1,(atB 0 hb).2.1⟩
 have start:ML R (a.toList++b.toList) (#[y0]:Array Keyed).toList (a.toList.drop 0++b.toList.drop 1):=by
  have z:ML R (a.toList++b.toList) (#[]:Array Keyed).toList (a.toList.drop 0++b.toList.drop 0):=⟨by simp,List.Pairwise.nil,by simp⟩
  exact z.pushB T f1 fun x hx=>fst y0 f1 x (xdt hx)
 refine xbh (xiv (xgb ⟨rfl,xbh (zhr f0 (zbgw (fun c1=>?_) (fun c2=>?_) fun c1 c2=>?_))⟩))
 ·exact xbj (h _ _ (.refl _) (start.done T (.inr (by simpa using c1))))
 ·exact xbj (h _ _ (.refl _) (start.lastA T (by simpa using c2)))
 simp only[xfz] at c1 c2;refine xbh (xgt ?_);refine xbh (xes (xdc (I:=L1 R a b st) (Q:=Dn R a b st) ?_ ?_ (.mk (.refl _) start (by lia) (by lia) (by lia))) ?_)
 ·rintro x c st1 x1 x2 @⟨out,ia,ib,g,st1,sm1,m,ha1,hb1,hx⟩;dsimp only;refine xbh (xes (xdc (I:=fun _=>L2' R a b st (ia+ib)) (Q:=fun c st'=>Dn R a b st c st'\/L2' R a b st (ia+ib) c st') ?_ ?_ (.mk sm1 m ha1 hb1 (xbf _))) ?_)
  ·rintro x' c st2 _ _ @⟨out,ia',ib',ac,bc,st2,sm2,m,ha2,hb2,hp⟩;dsimp only;have ea:=(atA ia' (xeo ha2)).1;have ela:=(atA ia' (xeo ha2)).2.1;have mea:=(atA ia' (xeo ha2)).2.2;have eb:=(atB ib' hb2).1;have elb:=(atB ib' hb2).2.1;have meb:=(atB ib' hb2).2.2;refine w_el eb (w_el ea (zwy O (sm2.kind.trans hk) meb mea (fun cw=>w_el eb ?_) fun cw=>w_el ea ?_))
   ·skip
    have m2:=m.pushB T elb fun z hz=>by
     obtain⟨j,hj,e⟩:=zbf hz;exact xbc (xbq cw) (T.oa.at ela e hj)
    refine w_if (fun c5=>xbj (.inl (.mk sm2 (m2.done T (.inr (eq_of_beq c5)))))) fun c5=>?_
    rw[xfz] at c5;have hb3:ib'+1 < b.size:=xcu hb2 c5;have hp3:ia+ib<=ia'+(ib'+1):=xfr hp;exact w_if (fun _=>xbj (.inr (.mk sm2 m2 ha2 hb3 hp3))) fun _=>xbj (.mk sm2 m2 ha2 hb3 hp3)
   ·skip
    have m2:=m.pushA T ela fun z hz=>by
     obtain⟨j,hj,e⟩:=zbf hz;exact xbc cw (T.ob.at elb e hj)
    refine w_if (fun c5=>xbj (.inl (.mk sm2 (m2.lastA T (eq_of_beq c5))))) fun c5=>?_
    rw[xfz] at c5;have ha3:ia'+1+1 < a.size:=xcu ha2 c5;have hp3:ia+ib<=ia'+1+ib':=Nat.succ_add ia' ib' ▸ xfr hp
    exact w_if (fun _=>xbj (.inr (.mk sm2 m2 ha3 hb2 hp3))) fun _=>xbj (.mk sm2 m2 ha3 hb2 hp3)
  ·exact fun c st2 k=>.inr k
  ·rintro c st2 (⟨sm2,f⟩ | @⟨out,ia',ib',ac,bc,st2,sm2,m,ha2,hb2,hp⟩)
   ·exact xbj (.mk sm2 f)
   ·dsimp only;refine xbh (xiv (xgb ⟨rfl,?_⟩));refine xbh (xes (xdc (I:=fun x'=>L3 R a b st (ia+ib+x')) (Q:=fun c st'=>Dn R a b st c st'\/L3 R a b st (ia+ib+1) c st') ?_ ?_ (.mk sm2 m ha2 hb2 hp)) ?_)
    ·rintro x' c st3 _ x2' @⟨out,ia',ib',g',ac,bc,st3,sm3,m,ha2,hb2,hp⟩;dsimp only;have eb:=(atB ib' hb2).1;have elb:=(atB ib' hb2).2.1;have meb:=(atB ib' hb2).2.2;generalize g' - 1=g1;generalize g'=y;revert g1;revert y
     refine zbgv ?_;intro gg;refine xbh (zpy fun st4 sg=>?_);have sm4:=sm3.trans sg;refine w_el eb (xbh (zeg O (sm4.kind.trans hk) meb (fun i hi=>⟨_,(atA (ia'+i) (xdi hi)).1,(atA (ia'+i) (xdi hi)).2.2⟩) (xex (xeo ha2)) (upA ia') fun k1 cut1=>?_));have m5:=(m.galA T elb cut1).1;have u5:=(m.galA T elb cut1).2;have hk1:=cut1.1;dsimp only;refine zwz (fun c6=>?_) (fun c6 c7=>?_) (fun c6 c8=>?_) fun hh=>?_
     ·have z:k1=0:=Nat.le_zero.mp (xbw c6);subst z;simp only[xji,xhh (xgw _ _),xjt]
     ·exact xbj (.inl (.mk sm4 (m5.lastA T (eq_of_beq c7))))
     ·exact xbj (.inl (.mk sm4 (m5.done T (.inl (eq_of_beq c8)))))
     have ha5:ia'+k1+1 < a.size:=by
      by_cases c6:k1 > 0
      ·have:=hh c6;simp at this;lia
      ·lia
     have hp5:ia+ib+x'<=ia'+k1+ib':=xbc hp (Nat.add_le_add_right (xbr _ _) _);clear hh;generalize ia'+k1=ia5 at m5 u5 ha5 hp5 ⊢;generalize out++a.extract ia' ia5=out5 at m5 ⊢;have m6:=m5.pushB T elb u5;have ea:=(atA _ (xeo ha5)).1;have ela:=(atA _ (xeo ha5)).2.1;have mea:=(atA _ (xeo ha5)).2.2;refine w_el eb (w_if (fun c9=>xbj (.inl (.mk sm4 (m6.done T (.inr (eq_of_beq c9)))))) fun c9=>w_el ea ?_);rw[xfz] at c9;refine xbh (zeg O (sm4.kind.trans hk) mea (fun i hi=>⟨_,(atB (ib'+1+i) (xdi hi)).1,(atB (ib'+1+i) (xdi hi)).2.2⟩) (xex (xcu hb2 c9)) (upB (ib'+1)) fun k2 cut2=>?_);have m7:=(m6.galB T ela cut2).1;have u7:=(m6.galB T ela cut2).2;have hk2:=cut2.1;dsimp only;refine zbgx (fun d6=>?_) (fun d6 d7=>?_) fun hh=>?_
     ·have z2:k2=0:=Nat.le_zero.mp (xbw d6);subst z2;simp only[xji,xhh (xgw _ _),xjt]
     ·exact xbj (.inl (.mk sm4 (m7.done T (.inr (eq_of_beq d7)))))
     have h20:ib'+1+k2≠b.size:=by
      by_cases d6:k2 > 0
      ·have:=hh d6;simp at this;lia
      ·lia
     have m8:=m7.pushA T ela u7;refine w_el ea (w_if (fun d8=>xbj (.inl (.mk sm4 (m8.lastA T (eq_of_beq d8))))) fun d8=>?_);rw[xfz] at d8;have ha9:ia5+1+1 < a.size:=xcu ha5 d8;have hb9:ib'+1+k2 < b.size:=by lia
     have hp9:ia+ib+(x'+1)<=ia5+1+(ib'+1+k2):=by lia
     exact w_if (fun _=>xbj (.inr (.mk sm4 m8 ha9 hb9 (xbc (xcd (xks 1 x') _) hp9)))) fun _=>xbj (.mk sm4 m8 ha9 hb9 hp9)
    ·rintro c st3 ⟨sm3,m,ha2,hb2,hp⟩;exact .inr (.mk sm3 m ha2 hb2 (by lia))
    ·rintro c st3 (⟨sm3,f⟩ | ⟨sm3,m,ha2,hb2,hp⟩)
     ·exact xbj (.mk sm3 f)
     ·exact xbh (zpy fun st4 sg=>xbj (.mk (sm3.trans sg) m ha2 hb2 (xbg (Nat.succ_lt_succ hx) hp)))
 ·rintro c st1 ⟨sm1,m,ha1,hb1,hx⟩;lia
 ·rintro c st1 ⟨sm1,f⟩;exact xbj (h _ st1 sm1 f)
end
structure MH (R:Keyed->Nat) (all out rest:List Keyed):Prop where
 perm:(rest++out.reverse).Perm all
 ord:Ord R out.reverse
 le:∀x∈rest,∀y∈out,R x<=R y
section
variable {R:Keyed->Nat}
theorem MH.grow {all out rest xs rest':List Keyed}(m:MH R all out rest)(p:rest.Perm (rest'++xs.reverse))(o:Ord R xs.reverse)(h:∀x∈rest',∀y∈xs,R x<=R y):MH R all (out++xs) rest':=by
 refine⟨?_,?_,fun x hx y hy=>?_⟩
 ·rw[List.reverse_append,← xcn];exact(xha _ p.symm).trans m.perm
 ·rw[List.reverse_append];exact xfn.mpr ⟨o,m.ord,fun x hx y hy=>m.le x (p.mem_iff.mpr (xcx _ hx)) y (xis.mp hy)⟩
 ·rcases xbs.mp hy with hy | hy
  ·exact m.le x (p.mem_iff.mpr (xhn _ hx)) y hy
  ·exact h x hx y hy
theorem MH.fin {all out rest rest':List Keyed}(m:MH R all out rest)(p:rest'.Perm rest)(o:Ord R rest'):(rest'++out.reverse).Perm all/\Ord R (rest'++out.reverse) :=
 ⟨(xha _ p).trans m.perm,xfn.mpr ⟨o,m.ord,fun x hx y hy=>m.le x (p.mem_iff.mp hx) y (xis.mp hy)⟩⟩
theorem zfd {l:List Keyed}{i:Nat}{x:Keyed}(h:l[i]?=some x):l.take (i+1)=l.take i++[x]:=by
 obtain⟨h1,rfl⟩:=xbk.mp h;exact xgm h1
structure TwoH (R:Keyed->Nat) (la lb:List Keyed):Prop where
 oa:Ord R la
 ob:Ord R lb
 first:∀y,lb[0]?=some y->∀x∈la,R y<=R x
variable {la lb all:List Keyed}{out:Array Keyed}{na nb:Nat}
theorem MH.pushB (T:TwoH R la lb)(m:MH R all out.toList (la.take na++lb.take (nb+1))){y:Keyed}(hy:lb[nb]?=some y)(h:∀z∈la.take na,R z<=R y):MH R all (out.push y).toList (la.take na++lb.take nb):=by
 rw[xey];refine m.grow ?_ (by simp) fun z hz w hw=>?_
 ·rw[zfd hy];simp
 ·simp at hw;subst hw
  rcases xbs.mp hz with hz | hz
  ·exact h z hz
  ·obtain⟨j,hj,e⟩:=zo hz;exact T.ob.at e hy (by lia)
theorem MH.pushA (T:TwoH R la lb)(m:MH R all out.toList (la.take (na+1)++lb.take nb)){x:Keyed}(hx:la[na]?=some x)(h:∀z∈lb.take nb,R z<=R x):MH R all (out.push x).toList (la.take na++lb.take nb):=by
 rw[xey];refine m.grow ?_ (by simp) fun z hz w hw=>?_
 ·rw[zfd hx];simp only[List.reverse_singleton,xcn];exact xgh _ xgj
 ·simp at hw;subst hw
  rcases xbs.mp hz with hz | hz
  ·obtain⟨j,hj,e⟩:=zo hz;exact T.oa.at e hx (by lia)
  ·exact h z hz
end
section
variable {prog:Program}{w:World}{A:Around}{E:Value->Shared->Prop}{s:Shared}{κ:SortKind}{a₀:Array Keyed}{R:Keyed->Nat}{a b out:Array Keyed}{na nb k:Nat}{y x:Keyed}{all:List Keyed}
theorem zox (l:List Keyed){k n:Nat}(h:k<=n):l.take n=l.take k++(l.drop k).take (n - k):=by
 conv=>lhs;rw[show n=k+(n - k) by lia,List.take_add]
theorem MH.galA (T:TwoH R a.toList b.toList)(m:MH R all out.toList (a.toList.take na++b.toList.take (nb+1)))(hy:b.toList[nb]?=some y)(hn:na<=a.size)(c:Cut false R y a 0 na k):MH R all (out++(a.extract k na).reverse).toList (a.toList.take k++b.toList.take (nb+1))/\∀z∈a.toList.take k,R z<=R y:=by
 have low:∀z∈a.toList.take k,R z<=R y:=fun z hz=>by
  obtain⟨j,hj,e⟩:=zo hz;have:=c.2.1 j hj;rw[xdo,zbq e] at this;exact this
 have up:∀z∈(a.toList.drop k).take (na - k),R y<=R z:=fun z hz=>by
  obtain⟨j,hj,e⟩:=zo hz;rw[xds] at e;have:=c.2.2 (k+j) (by lia) (by lia);rw[xdo,zbq e] at this;exact xbq this
 refine⟨?_,low⟩;rw[xcl,xho,zbs];refine m.grow ?_ (by rw[xhp];exact(T.oa.drop k).take _) fun v hv z hz=>?_
 ·rw[xhp,zox a.toList c.1,xcn,xcn];exact xgh _ xgj
 ·have hz:=up z (xis.mp hz);rcases xbs.mp hv with hv | hv
  ·exact xbc (low v hv) hz
  ·obtain⟨j,hj,e⟩:=zo hv;exact xbc (T.ob.at e hy (by lia)) hz
theorem MH.galB (T:TwoH R a.toList b.toList)(m:MH R all out.toList (a.toList.take (na+1)++b.toList.take nb))(hx:a.toList[na]?=some x)(hn:nb<=b.size)(c:Cut true R x b 0 nb k):MH R all (out++(b.extract k nb).reverse).toList (a.toList.take (na+1)++b.toList.take k)/\∀z∈b.toList.take k,R z<=R x:=by
 have low:∀z∈b.toList.take k,R z<=R x:=fun z hz=>by
  obtain⟨j,hj,e⟩:=zo hz;have:=c.2.1 j hj;rw[xdo,zbq e] at this;exact xbq this
 have up:∀z∈(b.toList.drop k).take (nb - k),R x<=R z:=fun z hz=>by
  obtain⟨j,hj,e⟩:=zo hz;rw[xds] at e;have:=c.2.2 (k+j) (by lia) (by lia);rw[xdo,zbq e] at this;exact this
 refine⟨?_,low⟩;rw[xcl,xho,zbs];refine m.grow ?_ (by rw[xhp];exact(T.ob.drop k).take _) fun v hv z hz=>?_
 ·rw[xhp,zox b.toList c.1,xcn]
 ·have hz:=up z (xis.mp hz);rcases xbs.mp hv with hv | hv
  ·obtain⟨j,hj,e⟩:=zo hv;exact xbc (T.oa.at e hx (by lia)) hz
  ·exact xbc (low v hv) hz
theorem zhj (xs:Array Keyed)(n:Nat):(xs.extract 0 n).toList=xs.toList.take n:=by
 rw[zbs,List.drop_zero,Nat.sub_zero]
theorem MH.done (T:TwoH R a.toList b.toList)(m:MH R (a.toList++b.toList) out.toList (a.toList.take na++b.toList.take nb))(h:na=0\/nb=0):Fin R a.toList b.toList (a.extract 0 na++b.extract 0 nb++out.reverse):=by
 unfold Fin;rw[xcl,xcl,zhj,zhj,xho];refine m.fin (.refl _) ?_;rcases h with rfl | rfl
 ·rw[List.take_zero,xkt];exact T.ob.take _
 ·rw[List.take_zero,xef];exact T.oa.take _
theorem MH.firstB (T:TwoH R a.toList b.toList)(m:MH R (a.toList++b.toList) out.toList (a.toList.take na++b.toList.take nb))(h:nb=1):Fin R a.toList b.toList (b.extract 0 nb++a.extract 0 na++out.reverse):=by
 unfold Fin;rw[xcl,xcl,zhj,zhj,xho];refine m.fin xgj (xfn.mpr ⟨T.ob.take _,T.oa.take _,fun v hv z hz=>?_⟩);obtain⟨j,hj,e⟩:=zo hv;have:j=0:=by lia
 subst this;exact T.first v e z (xjj hz)
inductive H1 (R:Keyed->Nat) (a b:Array Keyed) (st:SortSt) (x:Nat):Option (Array Keyed)×Nat×Nat×Array Keyed×Nat->SortSt->Prop where
 | mk {na nb:Nat} {out:Array Keyed} {g:Nat} {st':SortSt} (sm:SmG st st') (m:MH R (a.toList++b.toList) out.toList (a.toList.take na++b.toList.take nb)) (a1:1<=na) (a2:na<=a.size) (b1:2<=nb) (b2:nb<=b.size) (hx:x+na+nb < a.size+b.size):H1 R a b st x (none,na,nb,out,g) st'
inductive H2 (R:Keyed->Nat) (a b:Array Keyed) (st:SortSt) (x:Nat):Option (Array Keyed)×Nat×Nat×Array Keyed×Nat×Nat->SortSt->Prop where
 | mk {na nb:Nat} {out:Array Keyed} {ac bc:Nat} {st':SortSt} (sm:SmG st st') (m:MH R (a.toList++b.toList) out.toList (a.toList.take na++b.toList.take nb)) (a1:1<=na) (a2:na<=a.size) (b1:2<=nb) (b2:nb<=b.size) (hx:na+nb<=x):H2 R a b st x (none,na,nb,out,ac,bc) st'
inductive H3 (R:Keyed->Nat) (a b:Array Keyed) (st:SortSt) (x y:Nat):Option (Array Keyed)×Nat×Nat×Array Keyed×Nat×Nat×Nat->SortSt->Prop where
 | mk {na nb:Nat} {out:Array Keyed} {g ac bc:Nat} {st':SortSt} (sm:SmG st st') (m:MH R (a.toList++b.toList) out.toList (a.toList.take na++b.toList.take nb)) (a1:1<=na) (a2:na<=a.size) (b1:2<=nb) (b2:nb<=b.size) (hx:y+na+nb<=x):H3 R a b st x y (none,na,nb,out,g,ac,bc) st'
theorem zqb {st:SortSt}{Q:Array Keyed->SortSt->Prop}(O:Orc prog w A s κ a₀ R)(hk:kindOf st=κ)(ma:∀x∈a.toList,x∈a₀.toList)(mb:∀x∈b.toList,x∈a₀.toList)(T:TwoH R a.toList b.toList)(ha:1<=a.size)(hb:1<=b.size)
  (lst:∀x,a.toList[a.size - 1]?=some x->∀y∈b.toList,R y<=R x)(h:∀r st',SmG st st'->Fin R a.toList b.toList r->Q r st'):wpS (model prog w) A E s (mergeHi' a b) Q st:=by
 have atA:∀(i:Nat) (hi:i < a.size),a[i]?=some a[i]/\a.toList[i]?=some a[i]/\a[i]∈a₀.toList:=fun i hi=>⟨getElem?_pos a i hi,by rw[xby];exact getElem?_pos a i hi,ma _ (by simp)⟩
 have atB:∀(i:Nat) (hi:i < b.size),b[i]?=some b[i]/\b.toList[i]?=some b[i]/\b[i]∈a₀.toList:=fun i hi=>⟨getElem?_pos b i hi,by rw[xby];exact getElem?_pos b i hi,mb _ (by simp)⟩
 have upA:∀n,n<=a.size->UpA R a 0 (0+n):=fun n hn p q a1 a2 a3=>by
  have hq:q < a.size:=xbg a3 (xbc (xcy (xdo n)) hn);have e1:=(atA p (xcp a2 hq)).2.1;have e2:=(atA q hq).2.1;rw[zbq e1,zbq e2];exact T.oa.at e1 e2 a2
 have upB:∀n,n<=b.size->UpA R b 0 (0+n):=fun n hn p q a1 a2 a3=>by
  have hq:q < b.size:=xbg a3 (xbc (xcy (xdo n)) hn);have e1:=(atB p (xcp a2 hq)).2.1;have e2:=(atB q hq).2.1;rw[zbq e1,zbq e2];exact T.ob.at e1 e2 a2
 obtain⟨x0,f0,f1⟩:∃x,a[a.size - 1]?=some x/\a.toList[a.size - 1]?=some x:=⟨_,(atA (a.size - 1) (xgv ha Nat.one_pos)).1,(atA (a.size - 1) (xgv ha Nat.one_pos)).2.1⟩
 have start:MH R (a.toList++b.toList) (#[x0]:Array Keyed).toList (a.toList.take (a.size - 1)++b.toList.take b.size):=by
  have z:MH R (a.toList++b.toList) (#[]:Array Keyed).toList (a.toList.take (a.size - 1+1)++b.toList.take b.size):=by
   refine⟨?_,List.Pairwise.nil,by simp⟩;rw[xge ha,xel (by simp),xel (by simp)];simp
  exact z.pushA T f1 fun y hy=>lst x0 f1 y (xjj hy)
 refine xbh (xiv (xgb ⟨rfl,xbh (zhr f0 (zbgw (fun c1=>?_) (fun c2=>?_) fun c1 c2=>?_))⟩))
 ·exact xbj (h _ _ (.refl _) (start.done T (.inl (by simpa using c1))))
 ·exact xbj (h _ _ (.refl _) (start.firstB T (by simpa using c2)))
 simp only[xfz] at c1 c2;refine xbh (xgt ?_);refine xbh (xes (xdc (I:=H1 R a b st) (Q:=Dn R a b st) ?_ ?_ (.mk (.refl _) start (by lia) (by lia) (by lia) (xbf _) (by lia))) ?_)
 ·rintro x c st1 x1 x2 @⟨na,nb,out,g,st1,sm1,m,a1,a2,b1,b2,hx⟩;dsimp only;refine xbh (xes (xdc (I:=fun _=>H2 R a b st (na+nb)) (Q:=fun c st'=>Dn R a b st c st'\/H2 R a b st (na+nb) c st') ?_ ?_ (.mk sm1 m a1 a2 b1 b2 (xbf _))) ?_)
  ·rintro x' c st2 _ _ @⟨na',nb',out,ac,bc,st2,sm2,m,g1,g2,g3,g4,hp⟩;obtain⟨p,rfl⟩:∃p,na'=p+1:=⟨na' - 1,(xge g1).symm⟩
   obtain⟨q,rfl⟩:∃q,nb'=q+1:=⟨nb' - 1,(xge (xcw g3)).symm⟩
   dsimp only;have ea:=(atA p g2).1;have ela:=(atA p g2).2.1;have mea:=(atA p g2).2.2;have eb:=(atB q g4).1;have elb:=(atB q g4).2.1;have meb:=(atB q g4).2.2;refine w_el eb (w_el ea (zwy O (sm2.kind.trans hk) meb mea (fun cw=>w_el ea ?_) fun cw=>w_el eb ?_))
   ·skip
    have m2:=m.pushA T ela fun z hz=>by
     obtain⟨j,hj,e⟩:=zo hz;exact xbc (T.ob.at e elb (xct hj)) (xbq cw)
    refine w_if (fun c5=>xbj (.inl (.mk sm2 (m2.done T (.inl (eq_of_beq c5)))))) fun c5=>?_
    rw[xfz] at c5;have a3:1<=p:=xju c5;have a4:p<=a.size:=xcw g2;have a5:p+(q+1)<=na+nb:=xbc (Nat.add_le_add_right (Nat.le_succ p) _) hp;exact w_if (fun _=>xbj (.inr (.mk sm2 m2 a3 a4 g3 g4 a5))) fun _=>xbj (.mk sm2 m2 a3 a4 g3 g4 a5)
   ·skip
    have m2:=m.pushB T elb fun z hz=>by
     obtain⟨j,hj,e⟩:=zo hz;exact xbc (T.oa.at e ela (xct hj)) cw
    refine w_if (fun c5=>xbj (.inl (.mk sm2 (m2.firstB T (eq_of_beq c5))))) fun c5=>?_
    rw[xfz] at c5;have a3:2<=q:=xcu (Nat.le_of_succ_le_succ g3) (xci c5);have a4:q<=b.size:=xcw g4;have a5:p+1+q<=na+nb:=xcw hp;exact w_if (fun _=>xbj (.inr (.mk sm2 m2 g1 g2 a3 a4 a5))) fun _=>xbj (.mk sm2 m2 g1 g2 a3 a4 a5)
  ·exact fun c st2 k=>.inr k
  ·rintro c st2 (⟨sm2,f⟩ | @⟨na',nb',out,ac,bc,st2,sm2,m,g1,g2,g3,g4,hp⟩)
   ·exact xbj (.mk sm2 f)
   ·dsimp only;refine xbh (xiv (xgb ⟨rfl,?_⟩));refine xbh (xes (xdc (I:=H3 R a b st (na+nb)) (Q:=fun c st'=>Dn R a b st c st'\/H3 R a b st (na+nb) 1 c st') ?_ ?_ (.mk sm2 m g1 g2 g3 g4 (by rw[xdo];exact hp))) ?_)
    ·rintro x' c st3 _ x2' @⟨na',nb',out,g',ac,bc,st3,sm3,m,g1,g2,g3,g4,hp⟩;obtain⟨q,rfl⟩:∃q,nb'=q+1:=⟨nb' - 1,(xge (xcw g3)).symm⟩
     dsimp only;have eb:=(atB q g4).1;have elb:=(atB q g4).2.1;have meb:=(atB q g4).2.2;generalize g' - 1=g1;generalize g'=y;revert g1;revert y
     refine zbgv ?_;intro gg;refine xbh (zpy fun st4 sg=>?_);have sm4:=sm3.trans sg;refine w_el eb (xbh (zeg O (sm4.kind.trans hk) meb (fun i hi=>⟨_,(atA (0+i) (by lia)).1,(atA (0+i) (by lia)).2.2⟩) (by lia) (upA na' g2) fun k1 cut1=>?_));have m5:=(m.galA T elb g2 cut1).1;have u5:=(m.galA T elb g2 cut1).2;have hk1:=cut1.1;dsimp only;refine zbgx (fun c6=>?_) (fun c6 c7=>?_) fun hh=>?_
     ·have z:k1=na':=by lia
      subst z;rw[show out++(a.extract k1 k1).reverse=out by simp[xgw]]
     ·exact xbj (.inl (.mk sm4 (m5.done T (.inl (eq_of_beq c7)))))
     have g5:1<=k1:=by
      by_cases c6:na' - k1 > 0
      ·have:=hh c6;simp at this;lia
      ·lia
     have g6:k1<=a.size:=xbc hk1 g2;have hp5:x'+k1+(q+1)<=na+nb:=by lia
     clear hh hk1 cut1;generalize out++(a.extract k1 na').reverse=out5 at m5 ⊢;obtain⟨p,rfl⟩:∃p,k1=p+1:=⟨k1 - 1,(xge g5).symm⟩
     simp only[Nat.add_sub_cancel];have m6:=m5.pushB T elb u5;have ea:=(atA p g6).1;have ela:=(atA p g6).2.1;have mea:=(atA p g6).2.2;refine w_el eb (w_if (fun c9=>xbj (.inl (.mk sm4 (m6.firstB T (eq_of_beq c9))))) fun c9=>w_el ea ?_);rw[xfz] at c9;refine xbh (zeg O (sm4.kind.trans hk) mea (fun i hi=>⟨_,(atB (0+i) (by lia)).1,(atB (0+i) (by lia)).2.2⟩) (by lia) (upB q (xcw g4)) fun k2 cut2=>?_);have m7:=(m6.galB T ela (xcw g4) cut2).1;have u7:=(m6.galB T ela (xcw g4) cut2).2;have hk2:=cut2.1;dsimp only;refine zwz (fun d6=>?_) (fun d6 d7=>?_) (fun d6 d9=>?_) fun hh=>?_
     ·have z2:k2=q:=by lia
      subst z2;simp only[xhh (xbc (xgw _ _) (xbf _)),Array.reverse_empty,xjt]
     ·exact xbj (.inl (.mk sm4 (m7.firstB T (eq_of_beq d7))))
     ·exact xbj (.inl (.mk sm4 (m7.done T (.inr (eq_of_beq d9)))))
     have h20:2<=k2:=by
      by_cases d6:q - k2 > 0
      ·have:=hh d6;simp at this;lia
      ·lia
     have m8:=m7.pushA T ela u7;refine w_el ea (w_if (fun d8=>xbj (.inl (.mk sm4 (m8.done T (.inl (eq_of_beq d8)))))) fun d8=>?_);rw[xfz] at d8;have a3:1<=p:=xju d8;have a4:p<=a.size:=xcw g6;have a5:k2<=b.size:=xbc hk2 (xcw g4);have a6:x'+1+p+k2<=na+nb:=by lia
     exact w_if (fun _=>xbj (.inr (.mk sm4 m8 a3 a4 h20 a5 (by lia)))) fun _=>xbj (.mk sm4 m8 a3 a4 h20 a5 a6)
    ·rintro c st3 ⟨sm3,m,g1,g2,g3,g4,hp⟩;exact .inr (.mk sm3 m g1 g2 g3 g4 (by lia))
    ·rintro c st3 (⟨sm3,f⟩ | @⟨na',nb',out,g',ac,bc,st3,sm3,m,g1,g2,g3,g4,hp⟩)
     ·exact xbj (.mk sm3 f)
     ·have h9:x+1+na'+nb' < a.size+b.size:=by lia
      exact xbh (zpy fun st4 sg=>xbj (.mk (sm3.trans sg) m g1 g2 g3 g4 h9))
 ·rintro c st1 ⟨sm1,m,a1,a2,b1,b2,hx⟩;lia
 ·rintro c st1 ⟨sm1,f⟩;exact xbj (h _ st1 sm1 f)
end
theorem znl:∀(l:List Keyed) (n off:Nat) (xs:Array Keyed),off+n+l.length<=xs.size->∀i,((l.zipIdx n).foldl (fun a p=>a.setIfInBounds (off+p.2) p.1) xs)[i]?=if off+n<=i/\i < off+n+l.length then l[i - (off+n)]? else xs[i]?
 | [],n,off,xs,h,i=>by
  rw[if_neg (by simp)]
  rfl
 | x::l,n,off,xs,h,i=>by
  rw[xkp,xjk];rw[xbu] at h;have e1:off+(n+1)+l.length=off+n+(l.length+1):=Nat.succ_add_eq_add_succ (off+n) l.length;rw[znl l (n+1) off _ (by rw[Array.size_setIfInBounds];exact xbc (xcy e1) h) i];rw[xbu];by_cases c:off+(n+1)<=i/\i < off+(n+1)+l.length
  ·rw[if_pos c,if_pos ⟨xcw c.1,xfj c.2 e1⟩,show i - (off+n)=i - (off+(n+1))+1 from(xge (xex c.1)).symm,xif]
  ·rw[if_neg c];by_cases c2:i=off+n
   ·rw[if_pos ⟨xcy c2.symm,xcp (xcy c2) (xgr (Nat.succ_pos _))⟩,c2,xhw,List.getElem?_cons_zero];exact Array.getElem?_setIfInBounds_self_of_lt (xbg (xgr (Nat.succ_pos l.length)) h)
   ·rw[if_neg fun z=>c ⟨xcu z.1 (xci c2),xfj z.2 e1.symm⟩];exact Array.getElem?_setIfInBounds_ne (fun z=>c2 z.symm)
theorem zuf {m xs:Array Keyed}{off:Nat}(h:off+m.size<=xs.size):(m.toList.zipIdx.foldl (fun a p=>a.setIfInBounds (off+p.2) p.1) xs).toList=xs.toList.take off++m.toList++xs.toList.drop (off+m.size):=by
 apply xki;intro i;rw[xby,znl m.toList 0 off xs (by simpa using h) i];simp only[xji,xcb];have l1:(xs.toList.take off).length=off:=by rw[xdl,xcb];exact xeg (xbc (xbr _ _) h)
 by_cases c:off<=i/\i < off+m.size
 ·rw[if_pos c,xcn,xco (xbc (xcy l1) c.1),l1,xbv (by rw[xcb];exact xdd c.1 c.2)]
 ·rw[if_neg c];by_cases c2:i < off
  ·rw[xcn,xbv (xfj c2 l1.symm),xjv,if_pos c2,xby]
  ·have h3:off+m.size<=i:=xbw fun z=>c ⟨xbw c2,z⟩
   rw[xco (by rw[xbp,l1,xcb];exact h3),xds];simp only[xbp,l1,xcb];rw[xcf h3,xby]
section
variable {prog:Program}{w:World}{A:Around}{E:Value->Shared->Prop}{s:Shared}{κ:SortKind}{a₀:Array Keyed}{R:Keyed->Nat}
theorem zsn {xs:Array Keyed}{i j:Nat}(up:UpA R xs i j)(hj:j<=xs.size):Ord R (xs.extract i j).toList:=by
 rw[zbs];refine xhu.mpr fun p q hp hq hpq=>?_
 simp only[xdl,xde,xcb] at hp hq;simp only[List.getElem_take,List.getElem_drop,Array.getElem_toList];have:=up (i+p) (i+q) (xbr _ _) (xcd (xbq hpq) i) (xdi (xbg hq (xgw _ _)));rw[zcx (getElem?_pos xs (i+p) (xdi (xbg hp (xiq _ _)))),zcx (getElem?_pos xs (i+q) (xdi (xbg hq (xiq _ _))))] at this;exact this
theorem zgl {xs:Array Keyed}{i j:Nat}{x:Keyed}(h:x∈(xs.extract i j).toList):∃q,i<=q/\q < j/\xs[q]?=some x:=by
 rw[zbs] at h;obtain⟨q,hq,e⟩:=zo h;rw[xds,xby] at e;exact⟨i+q,xbr _ _,xdi hq,e⟩
theorem zzt {xs:Array Keyed}{i j q:Nat}(h:q < j - i):(xs.extract i j).toList[q]?=xs[i+q]?:=by
 rw[zbs,xjv,if_pos h,xds,xby]
structure Mg (R:Keyed->Nat) (xs ys:Array Keyed) (lo hi:Nat):Prop where
 perm:ys.Perm xs
 out:Out ys xs lo hi
 up:UpA R ys lo hi
theorem zqz {xs m:Array Keyed}{sa sb ea k nb':Nat}{y0 xl:Keyed}(hsb:sb<=ea)(hea:ea<=xs.size)(hk:sa+k < sb)(hnb:sb+nb'<=ea)(hnb1:1<=nb')(upA:UpA R xs sa sb)(upB:UpA R xs sb ea)
  (e0:xs[sb]?=some y0)(el:xs[sb - 1]?=some xl)(c1:Cut false R y0 xs sa (sb - sa) k)(c2:Cut true R xl xs sb (ea - sb) nb')
  (f:Fin R (xs.extract (sa+k) sb).toList (xs.extract sb (sb+nb')).toList m):Mg R xs (m.toList.zipIdx.foldl (fun a p=>a.setIfInBounds (sa+k+p.2) p.1) xs) sa ea:=by
 have lx:(xs.extract (sa+k) sb).toList.length=sb - (sa+k):=by rw[zbs,xdl,xde,xcb];exact xeg (xev (xbc hsb hea) _)
 have ly:(xs.extract sb (sb+nb')).toList.length=nb':=by rw[zbs,xdl,xde,xcb,xcs];exact xeg (xec (xbc hnb hea))
 have lm:m.size=sb+nb' - (sa+k):=by
  have:=f.1.length_eq;rw[xbp,lx,ly,xcb] at this;exact this.trans (Nat.sub_add_comm (xbq hk)).symm
 have he:sa+k+m.size=sb+nb':=by rw[lm];exact xcf (xbc (xbq hk) (xbr _ _))
 have hsz:sa+k+m.size<=xs.size:=by rw[he];exact xbc hnb hea
 have hs1:=xcv hk;have s1:sb - 1 < sb:=xgv (xih hk) Nat.one_pos;have g:∀i,(m.toList.zipIdx.foldl (fun a p=>a.setIfInBounds (sa+k+p.2) p.1) xs)[i]?=if sa+k<=i/\i < sb+nb' then m.toList[i - (sa+k)]? else xs[i]?:=fun i=>by
  have:=znl m.toList 0 (sa+k) xs (by simpa using hsz) i;simp only[xji,xcb] at this;rw[he] at this;exact this
 have mid:∀v∈m.toList,R y0<=R v/\R v<=R xl:=fun v hv=>by
  rcases xbs.mp (f.1.mem_iff.mp hv) with hv | hv
  ·obtain⟨q,q1,q2,e⟩:=zgl hv;have q0:=xbc (xbr _ _) q1;have h1:=c1.2.2 (q - sa) (xec q1) (xdr q0 q2);rw[xcf q0,zcx e] at h1;have h2:=upA q (sb - 1) q0 (xcv q2) s1;rw[zcx e,zcx el] at h2;have h1':R y0 < R v:=h1;exact⟨xbq h1',h2⟩
  ·obtain⟨q,q1,q2,e⟩:=zgl hv;have h1:=upB sb q (xbf _) q1 (xbg q2 hnb);rw[zcx e,zcx e0] at h1;have h2:=c2.2.1 (q - sb) (xdd q1 q2);rw[xcf q1,zcx e] at h2;have h2':R v < R xl:=h2;exact⟨h1,xbq h2'⟩
 have low:∀i,sa<=i->i < sa+k->kA R xs i<=R y0:=fun i a1 a2=>by
  have:=c1.2.1 (i - sa) (xdd a1 a2);rw[xcf a1] at this;exact this
 have hig:∀i,sb+nb'<=i->i < ea->R xl<=kA R xs i:=fun i a1 a2=>by
  have i0:=xbc (xbr _ _) a1;have:=c2.2.2 (i - sb) (xec a1) (xdr i0 a2);rw[xcf i0] at this;exact this
 have kk:∀i,kA R (m.toList.zipIdx.foldl (fun a p=>a.setIfInBounds (sa+k+p.2) p.1) xs) i=if sa+k<=i/\i < sb+nb' then kA R m (i - (sa+k)) else kA R xs i:=fun i=>by
  have:=g i;split
  ·rename_i c;rw[if_pos c,xby] at this;exact zct this
  ·rename_i c;rw[if_neg c] at this;exact zct this
 have mm:∀i,i < m.size->∃v,m.toList[i]?=some v/\v∈m.toList:=fun i hi=>⟨m.toList[i]'(by simpa using hi),xbi _,xdm _⟩
 refine⟨?_,fun i hi=>?_,fun i j a1 a2 a3=>?_⟩
 ·refine xff.mpr ?_;rw[zuf hsz,he];have split:xs.toList=xs.toList.take (sa+k)++((xs.extract (sa+k) sb).toList++(xs.extract sb (sb+nb')).toList)++xs.toList.drop (sb+nb'):=by
   rw[zbs,zbs];rw[xcs]
   conv=>lhs;rw[← xgi (sa+k) xs.toList,← xgi (sb - (sa+k)) (xs.toList.drop (sa+k)),xhg,xcf (xbq hk),← xgi nb' (xs.toList.drop sb),xhg]
   simp only[xcn]
  conv=>rhs;rw[split]
  exact xha _ (xgh _ f.1)
 ·rw[g i,if_neg fun z=>hi.elim (fun h=>xdw (xbc (xbr sa k) z.1) h) fun h=>xdw h (xbg z.2 hnb)]
 ·rw[kk,kk];by_cases ci:sa+k<=i/\i < sb+nb'
  ·rw[if_pos ci];obtain⟨v,ev,mv⟩:=mm (i - (sa+k)) (by rw[lm];exact xdr ci.1 ci.2);rw[zbq ev];by_cases cj:sa+k<=j/\j < sb+nb'
   ·rw[if_pos cj];obtain⟨u,eu,mu⟩:=mm (j - (sa+k)) (by rw[lm];exact xdr cj.1 cj.2);rw[zbq eu];exact f.2.at ev eu (xev a2 _)
   ·rw[if_neg cj];exact xbc (mid v mv).2 (hig j (xbw fun z=>cj ⟨xbc ci.1 a2,z⟩) a3)
  ·rw[if_neg ci];by_cases ci2:i < sa+k
   ·have h1:=low i a1 ci2;by_cases cj:sa+k<=j/\j < sb+nb'
    ·rw[if_pos cj];obtain⟨u,eu,mu⟩:=mm (j - (sa+k)) (by rw[lm];exact xdr cj.1 cj.2);rw[zbq eu];exact xbc h1 (mid u mu).1
    ·rw[if_neg cj];by_cases cj2:j < sa+k
     ·exact upA i j a1 a2 (xhf cj2 hk)
     ·have h2:=hig j (xbw fun z=>cj ⟨xbw cj2,z⟩) a3;have h3:R y0<=R xl:=by
       have s0:=xbc (xbr _ _) hs1;have h4:=c1.2.2 (sb - 1 - sa) (xec hs1) (xdr s0 s1);rw[xcf s0,zcx el] at h4;exact xbq h4
      exact xbc h1 (xbc h3 h2)
   ·have hi2:sb+nb'<=i:=xbw fun z=>ci ⟨xbw ci2,z⟩
    rw[if_neg fun z=>xdw (xbc hi2 a2) z.2];exact upB i j (xbc (xbr _ _) hi2) a2 a3
end
section
variable {prog:Program}{w:World}{A:Around}{E:Value->Shared->Prop}{s:Shared}{κ:SortKind}{a₀:Array Keyed}{R:Keyed->Nat}
theorem zbhm {x st:SortSt}{Q:Unit->SortSt->Prop}(h:Q () x):wpS (model prog w) A E s (set x:StateT SortSt Sem PUnit) Q st:=by
 unfold wpS;rw[StateT.run_set];exact xbe ⟨rfl,h⟩
theorem zqc {i sa na pw sb nb pw':Nat}{st:SortSt}{Q:Bool->SortSt->Prop}(O:Orc prog w A s κ a₀ R)(b:B κ a₀ st)(p1:(pendingOf st)[i]?=some (sa,na,pw))(p2:(pendingOf st)[i+1]?=some (sb,nb,pw'))(hsb:sb=sa+na)(hna:1<=na)(hnb:1<=nb)(hz:sb+nb<=a₀.size)
  (upA:UpA R (arrOf st) sa sb)(upB:UpA R (arrOf st) sb (sb+nb))
  (h:∀st',B κ a₀ st'->pendingOf st'=((pendingOf st).setIfInBounds i (sa,na+nb,pw)).eraseIdxIfInBounds (i+1)->Out (arrOf st') (arrOf st) sa (sb+nb)->UpA R (arrOf st') sa (sb+nb)->Q true st'):wpS (model prog w) A E s (mergeAt' i) Q st:=by
 have hsz:=b.size;have bs:sb < a₀.size:=xbg (xgr hnb) hz;refine xbh (xgt ?_);dsimp only;have q1:(sortPriv% PySem.Builtin.SortState.pending) st=pendingOf st:=rfl;rw[q1,p1,p2];dsimp only;refine xbh (zbhm ?_);obtain⟨y0,e0,my0⟩:=b.mem (i:=sb) bs;have inA:∀q,q < a₀.size->∃x,(arrOf st)[q]?=some x/\x∈a₀.toList:=fun q hq=>b.mem hq
 refine xbh (zhr e0 ?_);refine xbh (zeg O b.kind my0 (fun q hq=>inA (sa+q) (xhf (xfj (xdp hq sa) hsb.symm) bs)) hna (by rw[← hsb];exact upA) fun k c1=>?_);dsimp only;have hk:=c1.1;have c1':Cut false R y0 (arrOf st) sa (sb - sa) k:=by rw[show sb - sa=na from by rw[hsb,xcs]];exact c1
 by_cases d1:na - k=0
 ·rw[if_pos (by simpa using d1)];refine xbj (h _ ⟨b.perm,b.kind,b.failed⟩ rfl (Out.refl _ _ _) fun p q a1 a2 a3=>?_);by_cases z1:q < sb
  ·exact upA p q a1 a2 z1
  ·by_cases z2:p < sb
   ·have h1:=c1.2.1 (p - sa) (xbg (xdd a1 (xfj z2 hsb)) (Nat.le_of_sub_eq_zero d1));rw[xcf a1] at h1;have h2:=upB sb q (xbf _) (xbw z1) a3;rw[zcx e0] at h2;exact xbc h1 h2
   ·exact upB p q (xbw z2) a2 a3
 ·rw[if_neg (by simpa using d1)];have hk2:sa+k < sb:=xfj (xdp (xfg fun z=>d1 (Nat.sub_eq_zero_of_le z)) sa) hsb.symm;have s1:sb - 1 < sb:=xgv (xih hk2) Nat.one_pos;obtain⟨xl,el,mxl⟩:=inA (sb - 1) (xhf s1 bs);have el':(arrOf st)[sa+k+(na - k) - 1]?=some xl:=by rw[Nat.add_assoc,xcf hk,← hsb];exact el
  refine xbh (zhr el' ?_);refine xbh (zeg O b.kind mxl (fun q hq=>inA (sb+q) (xbg (xdp hq sb) hz)) (xgv hnb Nat.one_pos) upB fun nb' c2=>?_);dsimp only;have hn2:=c2.1;have c2':Cut true R xl (arrOf st) sb (sb+nb - sb) nb':=by rw[xcs];exact c2
  by_cases d2:nb'=0
  ·rw[if_pos (by simpa using d2)];refine xbj (h _ ⟨b.perm,b.kind,b.failed⟩ rfl (Out.refl _ _ _) fun p q a1 a2 a3=>?_);subst d2;by_cases z1:q < sb
   ·exact upA p q a1 a2 z1
   ·by_cases z2:p < sb
    ·have h1:=upA p (sb - 1) a1 (xcv z2) s1;rw[zcx el] at h1;have h2:=c2.2.2 (q - sb) (xdg _) (xdd (xbw z1) a3);rw[xcf (xbw z1)] at h2;exact xbc h1 h2
    ·exact upB p q (xbw z2) a2 a3
  ·rw[if_neg (by simpa using d2)];have hn1:1<=nb':=xju d2;have hez:sb<=(arrOf st).size:=by rw[hsz];exact xbq bs
   have hbz:sb+nb<=(arrOf st).size:=by rw[hsz];exact hz
   have hb2:sb+nb'<=sb+nb:=xcd hn2 sb;have oa:Ord R ((arrOf st).extract (sa+k) sb).toList:=zsn (fun p q a1 a2 a3=>upA p q (xbc (xbr _ _) a1) a2 a3) hez;have ob:Ord R ((arrOf st).extract sb (sb+nb')).toList:=zsn (fun p q a1 a2 a3=>upB p q a1 a2 (xbg a3 hb2)) (xbc hb2 hbz);have ma:∀x∈((arrOf st).extract (sa+k) sb).toList,x∈a₀.toList:=fun x hx=>by
    obtain⟨q,q1,q2,e⟩:=zgl hx;obtain⟨x',e',m'⟩:=inA q (xhf q2 bs);rw[e] at e';cases e';exact m'
   have mb:∀x∈((arrOf st).extract sb (sb+nb')).toList,x∈a₀.toList:=fun x hx=>by
    obtain⟨q,q1,q2,e⟩:=zgl hx;obtain⟨x',e',m'⟩:=inA q (xbg q2 (xbc hb2 hz));rw[e] at e';cases e';exact m'
   have sx:((arrOf st).extract (sa+k) sb).size=sb - (sa+k):=by rw[Array.size_extract,xeg hez]
   have sy:((arrOf st).extract sb (sb+nb')).size=nb':=by rw[Array.size_extract,xeg (xbc hb2 hbz),xcs]
   have fst:∀y,((arrOf st).extract sb (sb+nb')).toList[0]?=some y->∀x∈((arrOf st).extract (sa+k) sb).toList,R y<=R x:=fun y hy x hx=>by
    rw[zzt (by rw[xcs];exact hn1),xji,e0] at hy;cases hy;obtain⟨q,q1,q2,e⟩:=zgl hx;have q0:=xbc (xbr _ _) q1;have:=c1.2.2 (q - sa) (xec q1) (xdd q0 (xfj q2 hsb));rw[xcf q0,zcx e] at this;exact xbq this
   have lst:∀x,((arrOf st).extract (sa+k) sb).toList[sb - (sa+k) - 1]?=some x->∀y∈((arrOf st).extract sb (sb+nb')).toList,R y<=R x:=fun x hx y hy=>by
    rw[zzt (xgv (xex hk2) Nat.one_pos),show sa+k+(sb - (sa+k) - 1)=sb - 1 from by rw[← Nat.add_sub_assoc (xex hk2),xcf (xbq hk2)],el] at hx;cases hx;obtain⟨q,q1,q2,e⟩:=zgl hy;have:=c2.2.1 (q - sb) (xdd q1 q2);rw[xcf q1,zcx e] at this;exact xbq this
   have post:∀m st2,SmG st st2\/True->Fin R ((arrOf st).extract (sa+k) sb).toList ((arrOf st).extract sb (sb+nb')).toList m->Mg R (arrOf st) (m.toList.zipIdx.foldl (fun a p=>a.setIfInBounds (sa+k+p.2) p.1) (arrOf st)) sa (sb+nb):=fun m _ _ f =>
    zqz (xbr _ _) hbz hk2 hb2 hn1 upA upB e0 el c1' c2' f
   by_cases d3:na - k<=nb'
   ·rw[if_pos d3];refine xbh (zqa O b.kind ma mb ⟨oa,ob,fun x hx=>lst x (by rw[xcb,sx] at hx;exact hx)⟩ (by show 1<=((arrOf st).extract (sa+k) sb).size;rw[sx];exact xex hk2) (by show 1<=((arrOf st).extract sb (sb+nb')).size;rw[sy];exact hn1) fst fun m st2 sg f=>?_);have mg:=post m st2 (.inr trivial) f;refine xbh (xga (xbh (xgt ?_)));have a2:arrOf st2=arrOf st:=sg.arr;have f2:failedOf st2=none:=sg.failed.trans b.failed;refine xbj (?_:Q ((failedOf st2).isNone) (setArr st2 (m.toList.zipIdx.foldl (fun a p=>a.setIfInBounds (sa+k+p.2) p.1) (arrOf st2))));rw[f2,a2];exact h _ ⟨mg.perm.trans b.perm,sg.kind.trans b.kind,f2⟩ sg.pend mg.out mg.up
   ·rw[if_neg d3];refine xbh (zqb O b.kind ma mb ⟨oa,ob,fst⟩ (by show 1<=((arrOf st).extract (sa+k) sb).size;rw[sx];exact xex hk2) (by show 1<=((arrOf st).extract sb (sb+nb')).size;rw[sy];exact hn1) (fun x hx=>lst x (by rw[sx] at hx;exact hx)) fun m st2 sg f=>?_);have mg:=post m st2 (.inr trivial) f;refine xbh (xga (xbh (xgt ?_)));have a2:arrOf st2=arrOf st:=sg.arr;have f2:failedOf st2=none:=sg.failed.trans b.failed;refine xbj (?_:Q ((failedOf st2).isNone) (setArr st2 (m.toList.zipIdx.foldl (fun a p=>a.setIfInBounds (sa+k+p.2) p.1) (arrOf st2))));rw[f2,a2];exact h _ ⟨mg.perm.trans b.perm,sg.kind.trans b.kind,f2⟩ sg.pend mg.out mg.up
end
noncomputable def Segs (R:Keyed->Nat) (xs:Array Keyed):Nat->List (Nat×Nat×Nat)->Nat->Prop
 | s,[],e=>s=e
 | s,p::r,e=>p.1=s/\1<=p.2.1/\UpA R xs s (s+p.2.1)/\Segs R xs (s+p.2.1) r e
section
variable {R:Keyed->Nat}{xs ys:Array Keyed}
theorem Segs.le:∀{l:List (Nat×Nat×Nat)} {s e:Nat},Segs R xs s l e->s+l.length<=e
 | [],s,e,h=>by cases h;simp
 | p::r,s,e,h=>by
  have:=Segs.le h.2.2.2;have:=h.2.1;simp;lia
theorem Segs.append:∀{l m:List (Nat×Nat×Nat)} {s e:Nat},Segs R xs s (l++m) e↔∃k,Segs R xs s l k/\Segs R xs k m e
 | [],m,s,e=>⟨fun h=>⟨s,rfl,h⟩,fun⟨k,h1,h2⟩=>by cases h1;exact h2⟩
 | p::r,m,s,e=>by
  constructor
  ·rintro⟨h1,h2,h3,h4⟩;obtain⟨k,g1,g2⟩:=Segs.append.mp h4;exact⟨k,⟨h1,h2,h3,g1⟩,g2⟩
  ·rintro⟨k,⟨h1,h2,h3,h4⟩,g2⟩;exact⟨h1,h2,h3,Segs.append.mpr ⟨k,h4,g2⟩⟩
theorem UpA.same {a b:Nat}(h:UpA R xs a b)(e:∀i,a<=i->i < b->ys[i]?=xs[i]?):UpA R ys a b:=fun i j a1 a2 a3=>by
 rw[zct (e i a1 (xcp a2 a3)),zct (e j (xbc a1 a2) a3)];exact h i j a1 a2 a3
theorem Segs.same:∀{l:List (Nat×Nat×Nat)} {s e:Nat},Segs R xs s l e->(∀i,s<=i->i < e->ys[i]?=xs[i]?)->Segs R ys s l e
 | [],s,e,h,_=>h
 | p::r,s,e,h,k=>by
  have:=Segs.le h.2.2.2;exact⟨h.1,h.2.1,h.2.2.1.same fun i a1 a2=>k i a1 (xbg a2 (xbc (xbr _ _) this)),Segs.same h.2.2.2 fun i a1 a2=>k i (xbc (xbr _ _) a1) a2⟩
theorem Segs.power {s e:Nat}:∀{l m:List (Nat×Nat×Nat)},l.map (fun p=>(p.1,p.2.1))=m.map (fun p=>(p.1,p.2.1))->Segs R xs s l e->Segs R xs s m e:=by
 intro l
 induction l generalizing s with
 | nil=>intro m h k;cases m with
  | nil=>exact k
  | cons=>cases h
 | cons p r ih=>intro m h k;cases m with
  | nil=>cases h
  | cons q t =>
   rw[xbx,xbx] at h;obtain⟨h1,h2⟩:=List.cons.inj h;obtain⟨g1,g2⟩:=Prod.mk.inj h1;obtain⟨k1,k2,k3,k4⟩:=k;rw[g2] at k2 k3 k4;exact⟨g1.symm.trans k1,k2,k3,ih h2 k4⟩
end
section
variable {prog:Program}{w:World}{A:Around}{E:Value->Shared->Prop}{s:Shared}{κ:SortKind}{a₀:Array Keyed}{R:Keyed->Nat}
theorem zve {l:List (Nat×Nat×Nat)}{i:Nat}(h:i+1 < l.length):∃pre p q post,l=pre++p::q::post/\pre.length=i:=by
 refine⟨l.take i,l[i],l[i+1],l.drop (i+2),?_,by rw[xdl];exact xeg (xbq (xeo h))⟩
 conv=>lhs;rw[← xgi i l,xfl (xeo h),xfl h]
theorem w_at {i e:Nat}{st:SortSt}{Q:Bool->SortSt->Prop}(O:Orc prog w A s κ a₀ R)(b:B κ a₀ st)(sg:Segs R (arrOf st) 0 (pendingOf st).toList e)(he:e<=a₀.size)(hi:i+1 < (pendingOf st).size)
  (h:∀st',B κ a₀ st'->Segs R (arrOf st') 0 (pendingOf st').toList e->(pendingOf st').size+1=(pendingOf st).size->(∀k,e<=k->(arrOf st')[k]?=(arrOf st)[k]?)->Q true st'):wpS (model prog w) A E s (mergeAt' i) Q st:=by
 obtain⟨pre,p,q,post,el,hl⟩:=zve (l:=(pendingOf st).toList) (i:=i) (by simpa using hi);obtain⟨sa,na,pw⟩:=p;obtain⟨sb,nb,pw'⟩:=q;rw[el] at sg;obtain⟨k,g1,g2⟩:=Segs.append.mp sg;obtain⟨h1,h2,h3,h4,h5,h6,h7⟩:=g2;dsimp only at h1 h2 h3 h4 h5 h6 h7;subst h1;have l7:=Segs.le h7;have l1:=Segs.le g1;have p1:(pendingOf st)[i]?=some (sa,na,pw):=by rw[← xby,el,xco (xcy hl),hl,xhw];rfl
 have p2:(pendingOf st)[i+1]?=some (sb,nb,pw'):=by rw[← xby,el,xco (xbc (xcy hl) (xbr i 1)),hl,xcs];rfl
 refine zqc O b p1 p2 h4 h2 h5 (by lia) (by rw[h4];exact h3) (by rw[h4];exact h6) fun st' b' pe ou up=>?_
 have pl:(pendingOf st').toList=pre++(sa,na+nb,pw)::post:=by
  rw[pe];rw[Array.toList_eraseIdxIfInBounds,Array.toList_setIfInBounds,el];rw[List.set_append_right _ _ (xcy hl),hl,xhw,xjw,List.eraseIdx_append_of_length_le (xbc (xcy hl) (xbr i 1)),hl,xcs]
  rfl
 have keep:∀j,j < sa\/sb+nb<=j->(arrOf st')[j]?=(arrOf st)[j]?:=ou
 refine h st' b' ?_ ?_ fun j hj=>keep j (.inr (by lia))
 ·rw[pl];refine Segs.append.mpr ⟨sa,g1.same fun j a1 a2=>keep j (.inl a2),rfl,by show 1<=na+nb;lia,?_,?_⟩
  ·show UpA R (arrOf st') sa (sa+(na+nb));rw[show sa+(na+nb)=sb+nb by lia];exact up
  ·show Segs R (arrOf st') (sa+(na+nb)) post e;rw[show sa+(na+nb)=sa+na+nb by lia];exact h7.same fun j a1 a2=>keep j (.inr (by lia))
 ·have e1:(pendingOf st').size=(pendingOf st').toList.length:=by simp
  have e2:(pendingOf st).size=(pendingOf st).toList.length:=by simp
  rw[e1,e2,pl,el];simp only[xbp,xbu];lia
theorem zbee {c:Prop}[Decidable c]{a b n:Nat}(h1:a+1 < n)(h2:b+1 < n):(if c then a else b)+1 < n:=by split<;>assumption
theorem zso {g:Nat×Nat×Nat->Nat×Nat}{f:Nat×Nat×Nat->Nat×Nat×Nat}(h:∀x,g (f x)=g x):∀(l:List (Nat×Nat×Nat)) (i:Nat),(l.modify i f).map g=l.map g
 | [],i=>by simp
 | x::l,0=>by simp[h]
 | x::l,i+1=>by simp[zso h l i]
theorem Segs.mod {xs:Array Keyed}{s e:Nat}{l:List (Nat×Nat×Nat)}(h:Segs R xs s l e)(i c:Nat):Segs R xs s (l.modify i fun x=>(x.1,x.2.1,c)) e :=
 h.power (zso (g:=fun p=>(p.1,p.2.1)) (f:=fun x=>(x.1,x.2.1,c)) (fun _=>rfl) l i).symm
theorem zbcc {st:SortSt}{Q:Unit->SortSt->Prop}(O:Orc prog w A s κ a₀ R)(b:B κ a₀ st)(pe:pendingOf st=#[])(h2:2<=a₀.size)
  (h:∀st',B κ a₀ st'->UpA R (arrOf st') 0 a₀.size->Q () st'):wpS (model prog w) A E s sortRuns' Q st:=by
 have hz:=b.size;rw[sortRuns'_eq];refine xbh (xgt ?_);dsimp only;rw[hz]
 refine xbh (xes (xdc (I:=fun x c st'=>∃lo,c=(none,lo)/\B κ a₀ st'/\Segs R (arrOf st') 0 (pendingOf st').toList lo/\lo<=a₀.size/\x<=lo)
  (Q:=fun c st'=>c=(none,a₀.size)/\B κ a₀ st'/\Segs R (arrOf st') 0 (pendingOf st').toList a₀.size) ?_ ?_ ⟨0,rfl,b,by rw[pe];rfl,by lia,by lia⟩) ?_)
 ·rintro x c st1 x1 x2 ⟨lo,rfl,b1,sg1,hlo,hx⟩;dsimp only;by_cases c1:lo ≥ a₀.size
  ·rw[if_pos c1];have:lo=a₀.size:=by lia
   subst this;exact xbj ⟨rfl,b1,sg1⟩
  rw[if_neg c1];refine xbh (zxa O b1 (by lia) (by lia) fun m st2 m1 m2 b2 sm2 up2=>?_);dsimp only;have sg2:Segs R (arrOf st2) 0 (pendingOf st2).toList lo:=by
   rw[sm2.pend];exact sg1.same fun i a1 a2=>sm2.out i (.inl a2)
  by_cases c2:m < minRun' a₀.size a₀.size 0
  ·rw[if_pos c2];refine xbh (xiv (xgb ⟨rfl,?_⟩));refine xbh (zbhn O b2 (by lia) m1 (by lia) up2 fun st3 b3 sm3 up3=>?_);have sg3:Segs R (arrOf st3) 0 (pendingOf st3).toList lo:=by
    rw[sm3.pend];exact sg2.same fun i a1 a2=>sm3.out i (.inl a2)
   have hn1:1<=min (a₀.size - lo) (minRun' a₀.size a₀.size 0):=by lia
   have hn2:lo+min (a₀.size - lo) (minRun' a₀.size a₀.size 0)<=a₀.size:=by lia
   simp only[Bool.not_true,xdk,xfq];generalize min (a₀.size - lo) (minRun' a₀.size a₀.size 0)=n at up3 hn1 hn2 sm3 ⊢;refine xbh (xgt ?_);cases hb:(pendingOf st3).back? with
   | none =>
    dsimp only;refine xbh (xga (xbj ⟨lo+n,rfl,⟨b3.perm,b3.kind,b3.failed⟩,?_,hn2,by lia⟩));show Segs R (arrOf st3) 0 ((pendingOf st3).push (lo,n,0)).toList (lo+n);rw[xey];exact Segs.append.mpr ⟨lo,sg3,rfl,hn1,up3,rfl⟩
   | some p =>
    obtain⟨s1,n1,p1⟩:=p;dsimp only;refine xbh (xes (xdc (I:=fun _ c st'=>c=(none,())/\B κ a₀ st'/\Segs R (arrOf st') 0 (pendingOf st').toList lo/\UpA R (arrOf st') lo (lo+n)) (Q:=fun c st'=>c=(none,())/\B κ a₀ st'/\Segs R (arrOf st') 0 (pendingOf st').toList lo/\UpA R (arrOf st') lo (lo+n)) ?_ (fun _ _ hh=>hh) ⟨rfl,b3,sg3,up3⟩) ?_)
    ·rintro x' c st4 _ _ ⟨rfl,b4,sg4,up4⟩;refine xbh (xgt ?_);by_cases hs:(pendingOf st4).size > 1
     ·rw[if_pos hs,getElem?_pos (pendingOf st4) ((pendingOf st4).size - 2) (by lia)];obtain⟨s2,n2,p2⟩:=(pendingOf st4)[(pendingOf st4).size - 2]'(by lia);dsimp only;split
      ·exact xbj ⟨rfl,b4,sg4,up4⟩
      ·refine xbh (w_at O b4 sg4 hlo (by lia) fun st5 b5 sg5 _ k5=>?_);exact xbj ⟨rfl,b5,sg5,up4.same fun i a1 a2=>k5 i a1⟩
     ·rw[if_neg hs];exact xbj ⟨rfl,b4,sg4,up4⟩
    ·rintro c st4 ⟨rfl,b4,sg4,up4⟩;dsimp only;refine xbh (xga (xbh (xga (xbj ⟨lo+n,rfl,⟨b4.perm,b4.kind,b4.failed⟩,?_,hn2,by lia⟩))));refine(?_:Segs R (arrOf st4) 0 (((pendingOf st4).modify ((pendingOf st4).size - 1) fun x=>(x.1,x.2.1,_)).push (lo,n,0)).toList (lo+n));rw[xey,Array.toList_modify];exact Segs.append.mpr ⟨lo,sg4.mod _ _,rfl,hn1,up4,rfl⟩
  ·rw[if_neg c2];have b3:=b2;have sg3:=sg2;have up3:=up2;have hn1:=m1;have hn2:lo+m<=a₀.size:=by lia
   generalize st2=st3 at b3 sg3 up3 ⊢;generalize m=n at up3 hn1 hn2 ⊢;refine xbh (xgt ?_);cases hb:(pendingOf st3).back? with
   | none =>
    dsimp only;refine xbh (xga (xbj ⟨lo+n,rfl,⟨b3.perm,b3.kind,b3.failed⟩,?_,hn2,by lia⟩));show Segs R (arrOf st3) 0 ((pendingOf st3).push (lo,n,0)).toList (lo+n);rw[xey];exact Segs.append.mpr ⟨lo,sg3,rfl,hn1,up3,rfl⟩
   | some p =>
    obtain⟨s1,n1,p1⟩:=p;dsimp only;refine xbh (xes (xdc (I:=fun _ c st'=>c=(none,())/\B κ a₀ st'/\Segs R (arrOf st') 0 (pendingOf st').toList lo/\UpA R (arrOf st') lo (lo+n)) (Q:=fun c st'=>c=(none,())/\B κ a₀ st'/\Segs R (arrOf st') 0 (pendingOf st').toList lo/\UpA R (arrOf st') lo (lo+n)) ?_ (fun _ _ hh=>hh) ⟨rfl,b3,sg3,up3⟩) ?_)
    ·rintro x' c st4 _ _ ⟨rfl,b4,sg4,up4⟩;refine xbh (xgt ?_);by_cases hs:(pendingOf st4).size > 1
     ·rw[if_pos hs,getElem?_pos (pendingOf st4) ((pendingOf st4).size - 2) (by lia)];obtain⟨s2,n2,p2⟩:=(pendingOf st4)[(pendingOf st4).size - 2]'(by lia);dsimp only;split
      ·exact xbj ⟨rfl,b4,sg4,up4⟩
      ·refine xbh (w_at O b4 sg4 hlo (by lia) fun st5 b5 sg5 _ k5=>?_);exact xbj ⟨rfl,b5,sg5,up4.same fun i a1 a2=>k5 i a1⟩
     ·rw[if_neg hs];exact xbj ⟨rfl,b4,sg4,up4⟩
    ·rintro c st4 ⟨rfl,b4,sg4,up4⟩;dsimp only;refine xbh (xga (xbh (xga (xbj ⟨lo+n,rfl,⟨b4.perm,b4.kind,b4.failed⟩,?_,hn2,by lia⟩))));refine(?_:Segs R (arrOf st4) 0 (((pendingOf st4).modify ((pendingOf st4).size - 1) fun x=>(x.1,x.2.1,_)).push (lo,n,0)).toList (lo+n));rw[xey,Array.toList_modify];exact Segs.append.mpr ⟨lo,sg4.mod _ _,rfl,hn1,up4,rfl⟩
 ·rintro c st1 ⟨lo,rfl,b1,sg1,hlo,hx⟩;have:lo=a₀.size:=by lia
  subst this;exact⟨rfl,b1,sg1⟩
 ·rintro c st1 ⟨rfl,b1,sg1⟩;dsimp only
  refine xbh (xes (xdc (I:=fun x c st'=>c=(none,())/\B κ a₀ st'/\Segs R (arrOf st') 0 (pendingOf st').toList a₀.size/\(pendingOf st').size+x<=a₀.size)
   (Q:=fun c st'=>c=(none,())/\B κ a₀ st'/\Segs R (arrOf st') 0 (pendingOf st').toList a₀.size/\(pendingOf st').size<=1) ?_ ?_ ⟨rfl,b1,sg1,by have:=sg1.le;simp at this;lia⟩) ?_)
  ·rintro x c st2 x1 x2 ⟨rfl,b2,sg2,hp⟩;refine xbh (xgt ?_);by_cases c1:(pendingOf st2).size<=1
   ·rw[if_pos c1];exact xbj ⟨rfl,b2,sg2,c1⟩
   rw[if_neg c1];refine xbh (w_at O b2 sg2 (xbf _) ?_ fun st3 b3 sg3 p3 _=>xbj ⟨rfl,b3,sg3,by lia⟩);exact zbee (by lia) (by lia)
  ·rintro c st2 ⟨rfl,b2,sg2,hp⟩;exact⟨rfl,b2,sg2,by lia⟩
  ·rintro c st2 ⟨rfl,b2,sg2,hp⟩;refine xbj (h st2 b2 ?_);cases hl:(pendingOf st2).toList with
   | nil=>rw[hl] at sg2;have:0=a₀.size:=sg2;lia
   | cons p r =>
    have:r=[]:=by
     have e2:(pendingOf st2).size=(pendingOf st2).toList.length:=by simp
     rw[e2,hl,xbu] at hp;exact List.length_eq_zero_iff.mp (by lia)
    subst this;rw[hl] at sg2;obtain⟨_,_,g3,g4⟩:=sg2;have g4':0+p.2.1=a₀.size:=g4;rw[g4'] at g3;exact g3
end
end TS
namespace Srt
open PySem PySem.W PyProof.Rows
theorem zly {α β:Type}(f:α->β):∀{l m':List β},l.Perm m'->∀m:List α,m'=m.map f->∃p:List α,p.Perm m/\l=p.map f:=by
 intro l m' h
 induction h with
 | nil=>exact fun m e=>⟨[],by rw[List.map_eq_nil_iff.mp e.symm],rfl⟩
 | cons x _ ih =>
  intro m e;cases m with
  | nil=>cases e
  | cons y m =>
   rw[xbx] at e;injection e with e1 e2
   obtain⟨p,p1,p2⟩:=ih m e2;exact⟨y::p,p1.cons y,by rw[xbx,← p2,e1]⟩
 | swap x y l =>
  intro m e
  match m,e with
  | a::b::m,e =>
   rw[xbx,xbx] at e;injection e with e1 e2
   injection e2 with e2 e3
   exact⟨b::a::m,.swap _ _ _,by rw[xbx,xbx,e1,e2,e3]⟩
 | trans _ _ ih1 ih2 =>
  intro m e;obtain⟨p,p1,p2⟩:=ih2 m e;obtain⟨q,q1,q2⟩:=ih1 p p2;exact⟨q,q1.trans p1,q2⟩
noncomputable def Coh (r:Nat->Nat) (xs:List Value):Prop:=∀i j,i < xs.length->j < xs.length->xs.getD i Value.none=xs.getD j Value.none->r i=r j
open Classical in
noncomputable def rankV (r:Nat->Nat) (xs:List Value) (x:Keyed):Nat:=if h:∃i,i < xs.length/\xs.getD i Value.none=x.1 then r h.choose else 0
theorem zjn {r:Nat->Nat}{xs:List Value}(coh:Coh r xs){x:Keyed}{i:Nat}(hi:i < xs.length)(e:xs.getD i Value.none=x.1):rankV r xs x=r i:=by
 have h:∃i,i < xs.length/\xs.getD i Value.none=x.1:=⟨i,hi,e⟩
 unfold rankV;rw[dif_pos h];exact coh _ _ h.choose_spec.1 hi (h.choose_spec.2.trans e.symm)
theorem zmv (xs:List Value):(xs.toArray.zip xs.toArray).toList=(List.range xs.length).map fun i=>((xs.getD i Value.none,xs.getD i Value.none):Keyed):=by
 rw[Array.toList_zip];apply List.ext_getElem
 ·simp
 ·intro i h1 h2;have h3:i < xs.length:=by simpa using h2
  simp[xcq,h3]
section
variable {P:Program}{w:World}{B:Around}{E:Value->Shared->Prop}{st:Shared}
theorem zvd {r:Nat->Nat}{xs:List Value}{κ:SortKind}{sg:Shared}(h2:2<=xs.length)(coh:Coh r xs)
  (cmp:∀i j C,i < xs.length->j < xs.length->C (lt r i j) sg->kas_ask P w B κ xs i j C sg) :
  wpAny (model P w) B ((sortRuns').run (SortSt.mk' κ (xs.toArray.zip xs.toArray) #[] 7 none)) (fun y z=>∃p:Array Nat,(p.Perm (List.toArray (List.range xs.length))/\Up r p xs.length)/\(arrOf y.2).map (·.2)=outOf xs p/\failedOf y.2=none/\z=sg) E sg:=by
 have sz:(xs.toArray.zip xs.toArray).size=xs.length:=by simp
 have O:TS.Orc P w B sg κ (xs.toArray.zip xs.toArray) (rankV r xs):=fun x hx y hy C hC=>by
  rw[zmv] at hx hy;obtain⟨i,hi,rfl⟩:=xdb.mp hx;obtain⟨j,hj,rfl⟩:=xdb.mp hy;rw[xfh] at hi hj;rw[zjn coh hi rfl,zjn coh hj rfl] at hC;exact cmp i j C hi hj hC
 have run:=TS.zbcc (E:=E) (Q:=fun _ y=>∃p:Array Nat,(p.Perm (List.toArray (List.range xs.length))/\Up r p xs.length)/\(arrOf y).map (·.2)=outOf xs p/\failedOf y=none) O (st:=SortSt.mk' κ (xs.toArray.zip xs.toArray) #[] 7 none) ⟨.refl _,rfl,rfl⟩ rfl (by rw[sz];exact h2) fun y b up=>by
  obtain⟨l,l1,l2⟩:=zly (fun i=>((xs.getD i Value.none,xs.getD i Value.none):Keyed)) (xff.mp b.perm) _ (zmv xs);have ll:l.length=xs.length:=by rw[l1.length_eq,xkj]
  have mem:∀k,(hk:k < l.length)->l[k] < xs.length:=fun k hk=>xfh.mp (l1.mem_iff.mp (xdm hk))
  have key:∀k,k < xs.length->TS.kA (rankV r xs) (arrOf y) k=At r l.toArray k:=fun k hk=>by
   have hk':k < l.length:=by lia
   have e:(arrOf y)[k]?=some (xs.getD l[k] Value.none,xs.getD l[k] Value.none):=by
    rw[← xby,l2,xcm,xbi hk']
    rfl
   rw[TS.zcx e,zjn coh (mem k hk') rfl];unfold At;simp[hk']
  refine⟨l.toArray,⟨?_,fun i j hij hj=>?_⟩,?_,b.failed⟩
  ·exact xff.mpr (by simpa using l1)
  ·rw[← key i (by lia),← key j hj];exact up i j (xdg _) hij (by rw[sz];exact hj)
  ·unfold outOf;apply Array.toList_inj.mp;rw[Array.toList_map,l2,xdn]
   rfl
 exact xea run (fun y z hz=>by
  obtain⟨rfl,p,a,b,c⟩:=hz
  exact⟨p,a,b,c,rfl⟩) fun _ _ x=>x
theorem zhv (r:Nat->Nat){d:Addr}{xs:List Value}{k:Nat}{W:Fin->Shared->Prop}(e0:st.heap.get? d=some (seqObj "list" xs.toArray k))(few:xs.length<=sizeLine)(coh:Coh r xs)
  (ask:2<=xs.length->Answers P w B r xs {st with heap:=midHeap st.heap d xs})
  (fin:∀p:Array Nat,p.Perm (List.toArray (List.range xs.length))->Up r p xs.length->W (.done (.ret .none)) {st with heap:=sortedHeap st.heap d xs (outOf xs p)}) :
  wpAny (model P w) B (Builtin.«list.sort» ⟨[.ref d],[]⟩) W E st:=by
 obtain⟨c, ec⟩:∃ c,(st.heap.update d (Obj.mapSeq fun _=>(#[]:Array Value))).get? d=some (seqObj "list" #[] c):=⟨_, get?_update_seq e0 fun _=>#[]⟩
 have em:(midHeap st.heap d xs).get? d=some (seqObj "list" #[] c):=xbb _ (xbb _ ec)
 have szs:xs.toArray.size=xs.length:=xbo;rw[list_sort_plain];refine xba (listItems_at e0 rfl (xba (listUpdate_at e0 rfl (xba (seqEpoch_at ec rfl (xba (wpAny_newTuple (xba (wpAny_newList (xft ?_) (xdg _))) (few))))) (by rw[szs];exact few) (xdg _))));show wpAny (model P w) B _ W E {st with heap:=midHeap st.heap d xs};dsimp only;by_cases two:xs.toArray.size < 2
 ·rw[if_pos two,if_pos two];rw[szs] at two;have eo:((arrOf (SortSt.mk' general' (xs.toArray.zip xs.toArray) #[] 7 none)).map (·.2))=outOf xs (List.toArray (List.range xs.length)):=zqh two
  refine xba (xbe (by
   rw[StateT.run_pure];refine xba (xbe (xba (seqEpoch_at em rfl (xba (listUpdate_at em rfl ?_ (xdg _) ?_)))))
   ·rw[if_neg (by simp)];refine xbe ?_;rw[eo];exact fin _ (.refl _) fun i j hij hj=>xcy (congrArg (At r _) (by lia))
   ·rw[eo];refine xfr (xbc (xcy ?_) (few));unfold outOf
    simp))
 ·rw[if_neg two,if_neg two];rw[szs] at two;obtain⟨κ,kd,cmp⟩:=ask (by lia);refine xba (xea (kd (fun κ' z=>κ'=κ/\z={st with heap:=midHeap st.heap d xs}) ⟨rfl,rfl⟩) (fun κ' z hz=>?_) fun _ _ x=>x.elim);obtain⟨rfl,rfl⟩:=hz;have run:=zvd (E:=E) (r:=r) (xs:=xs) (κ:=κ') (sg:={st with heap:=midHeap st.heap d xs}) (by lia) coh cmp;refine xba (xea run (fun yy z hz=>?_) fun _ _ x=>x);obtain⟨⟨⟩,y⟩:=yy;obtain⟨p,hp,ho,hf,rfl⟩:=hz;dsimp only at ho hf ⊢;refine xba (seqEpoch_at em rfl (xba (listUpdate_at em rfl ?_ (xdg _) ?_)))
  ·rw[hf,if_neg (by simp),ho];exact xbe (fin p hp.1 hp.2)
  ·rw[ho];refine xfr (xbc (xcy ?_) (few));unfold outOf;rw[xbo,xbd,xcb,hp.1.size_eq];simp
theorem zjh (r:Nat->Nat){d:Addr}{xs:List Value}{W:Value->Shared->Prop}(isl:st.heap.IsList d xs.toArray)(few:xs.length<=sizeLine)(coh:Coh r xs)
  (ask:2<=xs.length->∀g:Heap,(∀b ob,st.heap.get? b=some ob->g.get? b=some ob)->Answers P w B.in1.in1 r xs {st with heap:=g})
  (fin:∀p:Array Nat,p.Perm (List.toArray (List.range xs.length))->Up r p xs.length->W (.ref (st.heap.objs.size+1)) {st with heap:=sortedAll st.heap xs (outOf xs p)}) :
  wpAny (model P w) B (call (.builtin "sorted") [.ref d]) W E st:=by
 let g0:Heap:=(st.heap.push (seqObj "list" #[] 0)).update st.heap.objs.size (Obj.mapSeq (·++xs.toArray))
 have sz:g0.objs.size=st.heap.objs.size+1:=(Heap.size_update ..).trans (size_push' _ _);have new:(g0.push (seqObj "list" xs.toArray 0)).get? (st.heap.objs.size + 1)=some (seqObj "list" xs.toArray 0):=by
  have z:=xbm g0 (o:=seqObj "list" xs.toArray 0) rfl
  rw[sz] at z;exact z
 have old:∀ b ob, st.heap.get? b=some ob->(g0.push (seqObj "list" xs.toArray 0)).get? b=some ob:=fun b ob e=>by
  have lt:=xbl e;exact xbb _ ((Heap.get?_update_ne _ _ _ _ (xcj lt)).trans (xbb _ e))
 have ar:argsOk "sorted" ⟨[.ref d],[]⟩:=args_sorted1 _
 refine Calls.call_function_entry kind_sorted plain_sorted entry_sorted ar ?_;unfold Builtin.«sorted»;refine xba (m:=checkCount "sorted" 1 1 _) (xbe (xba (collect_list isl (xba (wpAny_newList ?_ (few))) (few))))
 show wpAny _ _ _ _ _ { st with heap:=g0.push (seqObj "list" xs.toArray 0) }
 have esz:(Value.ref g0.objs.size)=Value.ref (st.heap.objs.size+1):=by rw[sz]
 rw[show((st.heap.push (seqObj "list" #[] 0)).update st.heap.objs.size (Obj.mapSeq (·++xs.toArray))).objs.size=st.heap.objs.size + 1 from sz]
 refine xba (xft (xdy slot_list_sort ⟨_, new, rfl⟩ entry_list_sort (zhv r (st:={ st with heap:=g0.push (seqObj "list" xs.toArray 0) }) new few coh (fun two=>?_) fun p p1 p2=>⟨_, rfl, xbe ⟨_, rfl, fin p p1 p2⟩⟩) (args_list_sort _)))
 exact ask two _ fun b ob e=>zgk (xcj (xii (xbl e))) (old b ob e)
theorem zls {T:String}{a d:Addr}{n:Nat}{It:Nat->Value->Prop}{OK:Heap->Prop}(S:KdlSrc P w T a d n It OK)(hh:B.handled=none)(ok:OK st.heap)(few:n<=sizeLine){W:Value->Shared->Prop}
  (ask:∀xs:List Value,xs.length=n->(∀(j:Nat) (v:Value),xs[j]?=some v->It j v)->∃r:Nat->Nat,Coh r xs/\(2<=n->∀(g:Heap) (tk:Nat),(∀b ob,st.heap.get? b=some ob->g.get? b=some ob)->Answers P w B.in1.in1 r xs {st with heap:=g,toks:=tk}) /\
   ∀(p:Array Nat) (q:Addr) (g:Heap) (tk c:Nat), p.Perm (List.toArray (List.range xs.length))->Up r p xs.length->(∀ b ob, st.heap.get? b=some ob->g.get? b=some ob)->(∀ b ob, st.heap.get? b=some ob->b≠q)->g.get? q=some (seqObj "list" (outOf xs p) c)->W (.ref q) { st with heap:=g, toks:=tk }) :
  wpAny (model P w) B (call (.builtin "sorted") [.ref a]) W E st:=by
 have ar:argsOk "sorted" ⟨[.ref a],[]⟩:=args_sorted1 _
 refine Calls.call_function_entry kind_sorted plain_sorted entry_sorted ar ?_;unfold Builtin.«sorted»;refine xba (m:=checkCount "sorted" 1 1 _) (xbe (xba (kdu_collect (A:=B.in1) S hh ok (few) fun g tk acc keep items=>?_)))
 have len:acc.toList.length=n:=by rw[xcb];exact items.1
 obtain⟨r,coh,an,fin⟩:=ask acc.toList len (fun j v e=>items.2 j v (by rw[← xby];exact e));refine xba (wpAny_newList ?_ (by rw[len];exact few));have new:(g.push (seqObj "list" acc.toList.toArray 0)).get? g.objs.size=some (seqObj "list" acc.toList.toArray 0):=xbm g rfl
 have old:∀ b ob, st.heap.get? b=some ob->(g.push (seqObj "list" acc.toList.toArray 0)).get? b=some ob:=fun b ob e=>xbb _ (keep b ob e)
 have lt:∀b ob,st.heap.get? b=some ob->b≠g.objs.size:=fun b ob e=>xcj (xbl (keep b ob e))
 show wpAny _ _ _ _ _ { st with heap:=g.push (seqObj "list" acc.toList.toArray 0), toks:=tk }
 refine xba (xft (xdy slot_list_sort ⟨_, new, rfl⟩ entry_list_sort (zhv r (st:={ st with heap:=g.push (seqObj "list" acc.toList.toArray 0), toks:=tk }) new (by rw[len]; exact few) coh (fun two=>?_) fun p p1 p2=>⟨_, rfl, xbe ⟨_, rfl, ?_⟩⟩) (args_list_sort _)))
 ·exact an (by lia) _ tk fun b ob e=>zgk (lt b ob e) (old b ob e)
 ·obtain⟨c,ec⟩:=sortedHeap_at (n:=0) (vs:=acc.toList) (out:=outOf acc.toList p) new;refine fin p g.objs.size _ tk c p1 p2 (fun b ob e=>?_) ?_ ec
  ·rw[sortedHeap_old (lt b ob e) (xbl (old b ob e))];exact old b ob e
  ·exact lt
end
end Srt
namespace L2
open PySem PySem.Spec PyProof.Rows PySem.W
theorem small10000 {n:Nat}(h:n<=1000000):n<=sizeLine:=xbc h (by rw[xet];lia)
theorem zgn:∀{us:List Value} {a b:List Int},IntsAre us a->IntsAre us b->a=b
 | _,_,_,.nil,.nil=>rfl
 | _,_,_,.cons x t r,.cons _ _ r'=>by rw[zgn r r']
theorem zpa {g:Heap}{ps:List (Addr×List Int)}(tup:TupsG g ps):Srt.Coh (Srt.rank (ps.map (·.2))) (ps.map fun p=>Value.ref p.1):=fun i j hi hj e=>by
 rw[xbd] at hi hj;have ei:ps[i]?=some ps[i]:=xbi hi;have ej:ps[j]?=some ps[j]:=xbi hj;rw[zh (fun p:Addr×List Int=>Value.ref p.1) _ ei,zh (fun p:Addr×List Int=>Value.ref p.1) _ ej] at e;injection e with e
 obtain⟨us,o,n,a1,a2,a3,a4⟩:=tup _ (xdm hi);obtain⟨us2,o2,n2,b1,b2,b3,b4⟩:=tup _ (xdm hj);rw[e,b2] at a2;injection a2 with a2
 subst a2;rw[b4] at a4;injection a4 with a4 _
 have a5:us2=us:=by simpa using a4
 subst a5;have d:=zgn a1 b1;unfold Srt.rank;rw[zh (fun p:Addr×List Int=>p.2) _ ei,zh (fun p:Addr×List Int=>p.2) _ ej,d]
noncomputable def rSortedAL (K:Fg):List V->Hp->VK->Prop:=fun xs H Q=>∃(l:Addr) (ps:List (Addr×List Int)),xs=[.ref l]/\SqL K H l (ps.map fun p=>V.ref p.1)/\ps.length<=1000000/\TupsAt K H ps /\
 ∀(q:Addr) (qs:List (Addr×List Int)),H q=none->qs.Perm ps->(qs.map (·.2)).Pairwise (fun a b=>HT.lexLt b a=false)->Q (.ref q) (upd H q (.lst (qs.map fun p=>V.ref p.1)))
noncomputable def rSortedDAL:List V->Hp->VK->Prop:=fun xs H Q=>∃(a:Addr) (kvs:List (List Key×V)) (ks:List (List Int)),xs=[.ref a]/\Rd H a (.dT kvs)/\kvs.map (·.1)=ks.map (fun ns=>ns.map Sum.inl)/\ks.length<=1000000 /\
 ∀(q:Addr) (qs:List (Addr×List Int)),H q=none->(qs.map (·.2)).Perm ks->(qs.map (·.2)).Pairwise (fun x y=>HT.lexLt y x=false)->(∀p∈qs,H p.1=some (.tup (p.2.map V.int)))->Q (.ref q) (upd H q (.lst (qs.map fun p=>V.ref p.1)))
section
variable {X:Cx}
theorem ziw (hu:X.A.units + 64 < cLine):CallR X (.builtin "sorted") (rSortedAL X.K):=by
 intro aU s σ H xs us Q I r h;obtain⟨l,ps,rfl,hl,h64,ht,q⟩:=h;obtain⟨u,rfl,ru⟩:=vals1 r;cases ru;obtain⟨its,rv,pl,hz⟩:=I.list hl;have eits:its=ps.map fun p=>Value.ref p.1:=by
  have e:(ps.map fun p=>V.ref p.1)=(ps.map (·.1)).map V.ref:=by rw[xdn];rfl
  rw[e] at rv;rw[zkh rv,xdn]
  rfl
 subst eits;have tup:∀g:Heap,(∀b o,s.heap.get? b=some o->g.get? b=some o)->TupsG g ps:=fun g keep p hp=>by
  obtain⟨us,rv',⟨o,b2,b3,n,b4⟩,_⟩:=I.tuple (ht p hp);exact⟨us,o,n,zdy rv',keep _ _ b2,b3,b4⟩
 refine Srt.zjh (Srt.rank (ps.map (·.2))) pl.isList (by rw[xbd];exact small10000 h64) (zpa (tup s.heap fun _ _ z=>z)) (fun h2 g keep=>ztn (by show X.A.units+1+1 < cLine;lia) (by rw[xbd] at h2;exact h2) (tup g keep)) (fun p p1 p2=>?_);rw[xbd] at p1 p2;obtain⟨qs,q1,q2,q3⟩:=zns p1 p2;obtain⟨e,he⟩:=sortedAll_at s.heap (ps.map fun p=>Value.ref p.1) (Srt.outOf (ps.map fun p=>Value.ref p.1) p);rw[q3] at he ⊢;refine⟨.ref (s.heap.objs.size+1),_,I.laid (a:=s.heap.objs.size+1) (o:=.lst (qs.map fun p=>V.ref p.1)) (t':=s.toks) (fun _ _ z=>sortedAll_old z) (Nat.le_succ _) ⟨?_,_,e,zfc qs,he⟩,rfl,q _ _ (I.hok.fresh (Nat.le_succ _)) q1 q2⟩;rw[xbd,q1.length_eq];exact small10000 (by lia)
theorem zhm (hc:X.calm=true)(hu:X.A.units + 64 < cLine):CallR X (.builtin "sorted") rSortedDAL:=by
 intro aU s σ H xs us Q I r h;obtain⟨a,kvs,ks,rfl,hd,ek,few,q⟩:=h;obtain⟨u,rfl,ru⟩:=vals1 r;cases ru;obtain⟨z,ns,ys,rel,ob,es,ep,e1,e2,e3,e4,e5⟩:=(show ObjOk X.prog X.w H s.heap a (.dT kvs) from hd.ok I.hok)
 obtain⟨ps,a1,a2,a3⟩:=ziu (P:=X.prog) (w:=X.w) rel ek;have hpl:ps.length=ks.length:=by rw[← a1,xbd]
 have hes:es.toList.map (·.key)=ps.map fun p=>Value.ref p.1:=by rw[e4,xdn];exact a3
 have hsz:es.size=ps.length:=by
  have:=congrArg List.length hes;rw[xbd,xbd,xcb] at this;exact this
 have tup:∀g:Heap,(∀b o,s.heap.get? b=some o->g.get? b=some o)->TupsG g ps:=fun g keep p hp=>by
  obtain⟨us,rv,⟨o,b2,b3,n,b4⟩,_⟩:=I.tuple (SqT.of (a2 p hp));exact⟨us,o,n,zdy rv,keep _ _ b2,b3,b4⟩
 refine Srt.zls (Dct.zxn ns es ep) (I.ok.hd hc) ⟨ob,e1,e2,e3⟩ (small10000 (by lia)) fun vs hl hv=>?_
 have evs:vs=ps.map fun p=>Value.ref p.1:=by
  rw[← hes];apply xki;intro i;by_cases hi:i < es.size
  ·have h1:vs[i]?=some vs[i]:=xbi (by lia);obtain⟨en,h2,h3⟩:=hv i _ h1;rw[h1,h3,xcm,xby,h2]
   rfl
  ·rw[xhi (by lia),xhi (by rw[xbd,xcb];lia)]
 subst evs;refine⟨Srt.rank (ps.map (·.2)),zpa (tup s.heap fun _ _ z=>z),fun h2 g tk keep=>ztn (by show X.A.units+1+1 < cLine;lia) (by lia) (tup g keep),fun p t g tk c p1 p2 keep ne eg=>?_⟩;rw[xbd] at p1 p2;obtain⟨qs,q1,q2,q3⟩:=zns p1 p2;rw[q3] at eg;refine⟨.ref t,_,I.laidN (o:=.lst (qs.map fun p=>V.ref p.1)) keep ne ⟨?_,_,c,zfc qs,eg⟩,rfl,q t qs (I.away ne) ((q1.map _).trans (by rw[a1])) q2 fun p hp=>a2 p (q1.mem_iff.mp hp)⟩;rw[xbd,q1.length_eq];exact small10000 (by lia)
end
end L2
namespace L2
open PySem PySem.Spec PyProof.Rows
section
variable {prog:Program}{w:World}{κ:Type}[DecidableEq κ]{knd:HeapKind prog w κ}{A:Around}{E:Value->Shared->Prop}{s:Shared}{d a:Addr}{k:κ}{xs:List (κ×Addr×Value)}{p:Addr×Value}
end
section
variable {X:Cx}{aU:List (Addr×Obj)}{σ:St}{H:Hp}{s:Shared}{a b:Addr}{kvs:List (List Key×V)}{k:List Key}
end
section
variable {X:Cx}{o e:Expr}{apos cpos:Pos}{td ty:TE}
end
noncomputable def rCatA (K:Fg):R2:=fun x y H Q=>∃a b xs ys,x=.ref a/\y=.ref b/\SqT K H a xs/\SqT K H b ys/\xs.length+ys.length<=sizeLine /\
 (xs=[]->Q (.ref b) H)/\(xs≠[]->ys=[]->Q (.ref a) H)/\(xs≠[]->ys≠[]->∀p,H p=none->Q (.ref p) (upd H p (.tup (xs++ys))))
section
variable {X:Cx}
theorem zyq:OpR X (binaryOp .Add) (rCatA X.K):=by
 intro aU s σ H x y v u Q I rx ry h;obtain⟨a,b,xs,ys,rfl,rfl,ha,hb,hz,q0,q1,q2⟩:=h;by_cases hx:xs=[]
 ·cases rx;cases ry;obtain⟨its,r1,p1,_⟩:=I.tuple ha;obtain⟨its2,r2,p2,_⟩:=I.tuple hb;obtain⟨⟨cls,dd,data,sl⟩,ho,hc,n,hd⟩:=id p1;obtain⟨⟨cls2,dd2,data2,sl2⟩,ho2,hc2,n2,hd2⟩:=id p2;simp only at hc hd hc2 hd2;subst hc hd hc2 hd2;have e:its=[]:=r1.nil_iff.mpr hx;exact concat_meets ⟨_,ho,rfl⟩ ⟨_,ho2,rfl⟩ noFill_tuple_add seq_tuple_add xil xic (xhv _ _)
   (tuple_addW0 a b its.toArray its2.toArray n n2 dd dd2 sl sl2 (by simp[e])) ⟨ho,ho2,⟨.ref b,H,I,rfl,q0 hx⟩⟩
 ·exact zyp aU s σ H _ _ v u Q I rx ry ⟨a,b,xs,ys,rfl,rfl,ha,hb,hx,hz,fun z=>q1 hx z,fun z=>q2 hx z⟩
end
section
variable {prog:Program}{w:World}{A:Around}{E:Value->Shared->Prop}{s:Shared}
theorem zrv {t sl:Addr}{its:Array Value}{vl vu:Value}{lo hi:Option Int}{W:Value->Shared->Prop}(ht:IsTup s.heap t its)(hs:s.heap.IsSliceOf sl vl vu .none)(pl:IsPart vl lo)(pu:IsPart vu hi)
  (h0:HT.sIx its.size 0 lo=0)(h1:HT.sIx its.size its.size hi=its.size)(fin:W (.ref t) s):wpAny (model prog w) A (getItem (.ref t) (.ref sl)) W E s:=by
 obtain⟨os,hos,hcs,hds⟩:=id hs;unfold getItem
 try with_reducible refine xft ?_
 first | refine xba (xbe ?_) | skip
 refine xba (wpAny_sequenceKey ht.typeIs (by decide) ?_);refine xba (wpAny_callSpecial?_slot (name:=Str.ofString "__getitem__") ht.typeIs xhy (xdy xhy ht.typeIs entry_tuple_getitem ?_ (args_tuple_getitem _ _)))
 show wpAny _ _ (Builtin.Tuple.tupleItemsOf (.ref t) >>= _) _ _ s;refine xba (tupleItemsOf_ ht ?_);have hTs:s.TypeIs (.ref sl) "slice":=⟨os, hos, hcs⟩
 refine xba (wpAny_typeOf hTs ?_);rw[if_pos (by decide)];refine xba (HT.zdb hs pl pu ?_);have yes:(((HT.sIx its.size 0 lo:Nat):Int)==0&&(1:Int)==1&&(HT.sIx its.size its.size hi - HT.sIx its.size 0 lo)==its.size)=true:=by
  rw[h0,h1];simp
 show wpAny _ _ (if(((HT.sIx its.size 0 lo:Nat):Int)==0&&(1:Int)==1&&(HT.sIx its.size its.size hi - HT.sIx its.size 0 lo)==its.size)=true then _ else _) _ _ s;rw[if_pos yes];refine xba (?_:wpAny _ _ (Builtin.Tuple.tupleIsExact (.ref t)) _ _ s);unfold Builtin.Tuple.tupleIsExact;refine xba (wpAny_typeOf ht.typeIs (xbe ?_));rw[if_pos (by decide)];exact xba (xgb (xbe ⟨_,rfl,xbe fin⟩))
end
noncomputable def rSlA (K:Fg):V->Option Int->Option Int->Hp->VK->Prop:=fun x lo hi H Q=>∃a xs,x=.ref a/\SqT K H a xs/\(cutV xs lo hi=xs->Q (.ref a) H)/\∀p,H p=none->Q (.ref p) (upd H p (.tup (cutV xs lo hi)))
theorem zxh {X:Cx}:SlR X (rSlA X.K):=by
 intro aU s σ H x v vl vu lo hi sl Q I rx hs pl pu h;obtain⟨a,xs,rfl,hx,q1,q2⟩:=h;by_cases hw:HT.sIx xs.length 0 lo=0/\HT.sIx xs.length xs.length hi=xs.length
 ·cases rx;obtain⟨its,r,ht,hz⟩:=I.tuple hx;have hlen:its.toArray.size=xs.length:=by rw[xbo];exact r.length.symm
  refine⟨"tuple", _, xhy.lookup, ht.typeIs, ?_⟩
  refine zrv ht hs pl pu (by rw[hlen];exact hw.1) (by rw[hlen];exact hw.2) ⟨.ref a,H,I,rfl,q1 ?_⟩;unfold cutV;rw[hw.1,hw.2];simp
 ·exact zbck aU s σ H _ v vl vu lo hi sl Q I rx hs pl pu ⟨a,xs,rfl,hx,hw,q2⟩
theorem zgi (ns:List Int):∀k,k<=ns.length->preSum (fun i=>ns.getD i 0) k=(ns.take k).sum
 | 0,_=>rfl
 | k+1,h=>by
  show preSum (fun i=>ns.getD i 0) k+ns.getD k 0=_;rw[zgi ns k (by lia),xgm (by lia),List.sum_append,xcq,xbi (by lia)];simp
theorem zin:∀{ns:List Int} {us:List Value} {i:Nat} {v:Value},Vals (ns.map V.int) us->us[i]?=some v->∃t,v=.int (ns.getD i 0) t
 | [],_,_,_,.nil,e=>by simp at e
 | n::ns,_,0,_,.cons r _,e=>by
  simp at e;subst e
  obtain⟨t,rfl⟩:=r;exact⟨t,rfl⟩
 | n::ns,_,i+1,v,.cons _ t,e=>by
  have:=zin (i:=i) t (by simpa using e)
  simpa using this
noncomputable def rSum (K:Fg):List V->Hp->VK->Prop:=fun xs H Q=>∃(a:Addr) (ns:List Int),xs=[.ref a]/\(SqL K H a (ns.map V.int)\/SqT K H a (ns.map V.int))/\Q (.int ns.sum) H
theorem zlf {X:Cx}(hc:X.calm=true):CallR X (.builtin "sum") (rSum X.K):=by
 intro aU s σ H xs us Q I r h;obtain⟨a,ns,rfl,hs,q⟩:=h;obtain⟨u,rfl,ru⟩:=vals1 r;cases ru;have key:∀{its:List Value} (h':Heap) (tk:Nat) (t':Tok) (nn:Nat),nn=ns.length->(∀b o,b≠s.heap.objs.size->s.heap.get? b=some o->h'.get? b=some o) ->
   EP X aU σ Q (.int (preSum (fun i=>ns.getD i 0) nn) t') {s with heap:=h',toks:=tk}:=fun h' tk t' nn hn hk=>by
  subst hn;rw[zgi ns _ (xbf _),xek];exact⟨.int ns.sum,H,I.kept (t':=tk) fun b o e=>hk b o (xcj (xbl e)) e,⟨_,rfl⟩,q⟩
 refine call_sum_walkG ?_;rcases hs with hs | hs
 ·obtain⟨its,rv,pl,hz⟩:=I.list hs;have hlt:a < s.heap.objs.size:=by obtain⟨o,n,e,_⟩:=pl;exact xbl e
  have hl:=rv.length;rw[xbd] at hl;refine xik pl.isList ?_;refine⟨s.heap.objs.size,_,[s.heap.objs.size],_,_,_,fun i=>ns.getD i 0,rfl,Walks.list (A:=X.A.in1) (I.ok.hd hc) _ a (xcj hlt) its.toArray,⟨⟨_,xbm _ rfl,rfl,rfl⟩,pl.isList.push _⟩,?_,fun i v e=>zin rv (by simpa using e),fun h' tk t' hk=>?_⟩
  ·intro b hb;show b < (s.heap.push _).objs.size;rw[show ∀o:Obj,(s.heap.push o).objs.size=s.heap.objs.size+1 from fun o=>by simp[Heap.push]];rcases xbn.mp hb with rfl | hb
   ·exact xit _
   ·rcases xbn.mp hb with rfl | hb
    ·exact xii hlt
    ·cases hb
  ·exact key (its:=its) h' tk t' _ (by simp[hl]) fun b o hb e=>hk b o (by simpa using hb) (xbb _ e)
 ·obtain⟨its,rv,pl,hz⟩:=I.tuple hs;have hlt:a < s.heap.objs.size:=pl.lt;have hl:=rv.length;rw[xbd] at hl;have pt:s.heap.IsTuple a its.toArray:=pl;refine xgf pt ?_;refine⟨s.heap.objs.size,_,[s.heap.objs.size],_,_,_,fun i=>ns.getD i 0,rfl,Walks.tuple (A:=X.A.in1) (I.ok.hd hc) _ a (xcj hlt) its.toArray,⟨⟨_,xbm _ rfl,rfl,rfl⟩,pt.push _⟩,?_,fun i v e=>zin rv (by simpa using e),fun h' tk t' hk=>?_⟩
  ·intro b hb;show b < (s.heap.push _).objs.size;rw[show ∀o:Obj,(s.heap.push o).objs.size=s.heap.objs.size+1 from fun o=>by simp[Heap.push]];rcases xbn.mp hb with rfl | hb
   ·exact xit _
   ·rcases xbn.mp hb with rfl | hb
    ·exact xii hlt
    ·cases hb
  ·exact key (its:=its) h' tk t' _ (by simp[hl]) fun b o hb e=>hk b o (by simpa using hb) (xbb _ e)
theorem zjm {prog:Program}{w:World}{A:Around}{E:Value->Shared->Prop}{s:Shared}{it t:Addr}{i:Nat}{items:Array Value}{Q:Value->Shared->Prop}(hh:A.handled=none)(hit:s.heap.IsTupleIter it t i)(ht:s.heap.IsTuple t items)
  (hQ:∀x,items[i]?=some x->∀h',h'.IsTupleIter it t (i+1)->Heap.SameBut it s.heap h'->Q x {s with heap:=h'})
  (hE:items[i]?=none->∀ h' e, Heap.ExtBut it s.heap h'->(∃ o, h'.get? e=some o/\o.cls=.type "StopIteration")->E (.ref e) { s with heap:=h' }):wpAny (model prog w) A (Builtin.SmallTypes.nextOf (.ref it)) Q E s:=by
 rcases hit with⟨o,ho,hc,hd⟩
 rcases ht with⟨u,hu,_,n,hs⟩
 refine xba (wpAny_callSpecial?_slot (name:=Str.ofString "__next__") ⟨o, ho, hc⟩ F.slot_tuple_iterator_next (xdy F.slot_tuple_iterator_next ⟨o, ho, hc⟩ F.entry_tuple_iterator_next ?_ (F.args_tuple_iterator_next_1 _)))
 have f0:(#[Value.ref t,.int i 0]:Array Value)[0]?=some (.ref t):=rfl;have f1:(#[Value.ref t,.int i 0]:Array Value)[1]?=some (.int i 0):=rfl
 wp_walk using xeh ho hd f0,xeh ho hd f1,xfk hu hs
 rw[xen];cases hx:items[i]? with
 | some x =>
  exact xba (xhl ho hd (by simp) (xbe ⟨x,rfl,xbe (hQ x hx _ ⟨_,xhe _ ho (xja (xgd hd _)),(xkg ..).trans hc,by rw[xgd hd];simp[rawInt]⟩ (.update ..))⟩))
 | none =>
  have hh':A.in1.handled=none:=hh
  wp_walk using xhl ho hd (by simp)
  unfold raiseNew;refine xba (wpAny_handled ?_);rw[hh'];exact xba (xbe (wpAny_throw (hE hx _ _ ((xgn ..).extBut.push _ |>.push _) ⟨_,xbm _ rfl,rfl⟩)))
section
variable {X:Cx}{aU:List (Addr×Obj)}{σ:St}{H:Hp}{s:Shared}{h':Heap}
end
section
variable {X:Cx}
end
noncomputable def bestI (gt:Bool) (n:Int) (ns:List Int):Int:=ns.foldl (fun i j=>if(if gt then decide (j > i) else decide (j < i))=true then j else i) n
theorem zho:∀(ns:List Int) (n:Int),bestI true n ns∈n::ns/\∀a∈n::ns,a<=bestI true n ns
 | [],n=>⟨by simp[bestI],by simp[bestI]⟩
 | m::ns,n=>by
  have e:bestI true n (m::ns)=bestI true (if m > n then m else n) ns:=by simp[bestI]
  obtain⟨h1,h2⟩:=zho ns (if m > n then m else n);rw[e];refine⟨?_,fun a ha=>?_⟩
  ·rcases xbn.mp h1 with z | z
   ·rw[z];split<;>simp
   ·simp[z]
  ·have h3:=h2 _ xbz;rcases xbn.mp ha with rfl | ha
   ·refine Int.le_trans ?_ h3;split<;>lia
   ·rcases xbn.mp ha with rfl | ha
    ·refine Int.le_trans ?_ h3;split<;>lia
    ·exact h2 a (xca _ ha)
theorem zpd {n:Int}{ns:List Int}{k:Nat}(hk:k=ns.length):(n::ns).getD (argBest (fun i j=>decide ((n::ns).getD i 0 >(n::ns).getD j 0)) k) 0=bestI true n ns:=by
 subst hk;obtain⟨h1,h2⟩:=argBest_gt (fun i=>(n::ns).getD i 0) ns.length;obtain⟨g1,g2⟩:=zho ns n;have hl:argBest (fun i j=>decide ((n::ns).getD i 0 >(n::ns).getD j 0)) ns.length < (n::ns).length:=by rw[xbu];lia
 obtain⟨j,hj,ej⟩:=xdz g1;have a1:=h2 j (by simp at hj;lia);have a2:=g2 ((n::ns).getD (argBest (fun i j=>decide ((n::ns).getD i 0 >(n::ns).getD j 0)) ns.length) 0) (by rw[xcq,xbi hl];exact xdm hl);have e:(n::ns).getD j 0=bestI true n ns:=by rw[xcq,xbi hj,ej];rfl
 rw[e] at a1;lia
noncomputable def rBest (K:Fg) (gt:Bool):List V->Hp->VK->Prop:=fun xs H Q=>∃(a:Addr) (n:Int) (ns:List Int),xs=[.ref a]/\(SqL K H a ((n::ns).map V.int)\/SqT K H a ((n::ns).map V.int))/\Q (.int (bestI gt n ns)) H
section
variable {X:Cx}
theorem zpx {aU:List (Addr×Obj)}{σ:St}{H:Hp}{s:Shared}{E:Value->Shared->Prop}{a:Addr}{ns:List Int}{R:Value->Shared->Prop}(hc:X.calm=true)(I:Inv X aU σ H s)(hs:SqL X.K H a (ns.map V.int)\/SqT X.K H a (ns.map V.int))
  (h:∀I' fp wr P St s2,Walks X.prog X.w X.A.in1 I' fp wr ns.length P St->St 0 s2.heap->(∀b∈fp,b < s2.heap.objs.size)->(∀i v,P i v->∃t,v=.int (ns.getD i 0) t) ->
   (∀h' tk,(∀b o,b∉wr->s2.heap.get? b=some o->h'.get? b=some o)->Inv X aU σ H {s2 with heap:=h',toks:=tk})->R (.ref I') s2) :
  wpAny (model X.prog X.w) X.A.in1 (pyIter (.ref a)) R E s:=by
 have key:∀(o:Obj) (h':Heap) (tk:Nat),(∀b u,b∉[s.heap.objs.size]->(s.heap.push o).get? b=some u->h'.get? b=some u)->Inv X aU σ H {s with heap:=h',toks:=tk}:=fun o h' tk hk =>
  I.kept (t':=tk) fun b u e=>hk b u (by simp;exact xcj (xbl e)) (xbb _ e)
 have low:∀(o:Obj),a < s.heap.objs.size->∀b∈[s.heap.objs.size,a],b < (s.heap.push o).objs.size:=fun o hlt b hb=>by
  rw[xem];have hb':b=s.heap.objs.size\/b=a:=by simpa using hb
  rcases hb' with z | z
  ·rw[z];exact xit _
  ·rw[z];exact xii hlt
 rcases hs with hs | hs
 ·obtain⟨its,rv,pl,hz⟩:=I.list hs;have hlt:a < s.heap.objs.size:=by obtain⟨o,n,e,_⟩:=pl;exact xbl e
  have hl:=rv.length;rw[xbd] at hl;have W:=Walks.list (prog:=X.prog) (w:=X.w) (A:=X.A.in1) (I.ok.hd hc) s.heap.objs.size a (xcj hlt) its.toArray;rw[show its.toArray.size=ns.length from by rw[xbo];exact hl.symm] at W;exact xik pl.isList (h _ _ _ _ _ { s with heap:=s.heap.push { cls:=.type "list_iterator", data:=.fields #[.ref a, .int 0 0] } } W ⟨⟨_, xbm _ rfl, rfl, rfl⟩, pl.isList.push _⟩ (low _ hlt) (fun i v e=>zin rv (by simpa using e)) fun h' tk hk=>key _ h' tk hk)
 ·obtain⟨its,rv,pl,hz⟩:=I.tuple hs;have hlt:a < s.heap.objs.size:=pl.lt;have hl:=rv.length;rw[xbd] at hl;have pt:s.heap.IsTuple a its.toArray:=pl;have W:=Walks.tuple (prog:=X.prog) (w:=X.w) (A:=X.A.in1) (I.ok.hd hc) s.heap.objs.size a (xcj hlt) its.toArray;rw[show its.toArray.size=ns.length from by rw[xbo];exact hl.symm] at W;exact xgf pt (h _ _ _ _ _ { s with heap:=s.heap.push { cls:=.type "tuple_iterator", data:=.fields #[.ref a, .int 0 0] } } W ⟨⟨_, xbm _ rfl, rfl, rfl⟩, pt.push _⟩ (low _ hlt) (fun i v e=>zin rv (by simpa using e)) fun h' tk hk=>key _ h' tk hk)
theorem zsa (hc:X.calm=true):CallR X (.builtin "max") (rBest X.K true):=by
 intro aU s σ H xs us Q I r h;obtain⟨a,n,ns,rfl,hs,q⟩:=h;obtain⟨u,rfl,ru⟩:=vals1 r;cases ru;refine call_max_walk (zpx hc I hs fun I' fp wr P St s2 W st low val keep=>?_);refine⟨I',fp,wr,_,P,St,_,rfl,W,st,low,by simp,CmpOf.ints_gt (fun i=>(n::ns).getD i 0) val,fun v h' tk hP hk=>?_⟩;obtain⟨t,rfl⟩:=val _ _ hP;rw[zpd (by simp)];exact⟨.int (bestI true n ns),H,keep h' tk hk,⟨_,rfl⟩,q⟩
theorem Inv.turnedL {aU:List (Addr×Obj)}{σ:St}{H:Hp}{s:Shared}{h':Heap}{t':Nat}{ch:List Addr}(I:Inv X aU σ H s)(k:∀b o,b∉ch->s.heap.get? b=some o->h'.get? b=some o)(hf:∀b∈ch,FpOk X aU H b):Inv X aU σ H {s with heap:=h',toks:=t'}:=by
 have nit:∀b u,H b=some u->b∉ch:=fun b u e z=>by have:=(hf b z).1;rw[e] at this;cases this
 have loc:X.env.locals∉ch:=fun z=>(hf _ z).2.1 rfl
 refine I.step (g':=s.gens) (d':=s.drawn) (ch:=ch) (fun b hb=>?_) (fun b o _ _ hc e _=>k b o hc e) (fun b o _ _ hc e _=>⟨o.slots,k b o hc e⟩) (fun _ _ _ _ n=>n)
  (fun b o hc e=>⟨o,k b o hc e⟩) (fun _ _ e=>e) (fun _ _ _ e=>e) (fun b ps e=>⟨#[],by rw[e];simp⟩) (fun m hm=>?_) (fun b u e=>?_) I.bare
 ·obtain⟨f0,f1,f2,f3,f4,f5⟩:=hf b hb;exact⟨f3,f1,f4,f5⟩
 ·obtain⟨o,es,ep,ho,r⟩:=hm;exact⟨o,es,ep,k _ o loc ho,r⟩
 ·refine(I.hok b u e).stay (fun c v hc q=>k c v ?_ q) (fun _ q=>q) fun _ _ q=>q
  rcases hc with z | z
  ·rw[z];exact nit b u e
  ·exact nit c _ z
end
structure ZRec (z TI TO i1 i2 t1 t2:Addr):Prop where
 nd:[z,TI,TO,i1,i2].Nodup
 o1:t1∉[z,TI,TO,i1,i2]
 o2:t2∉[z,TI,TO,i1,i2]
structure ZAt (h:Heap) (z TI TO i1 i2 t1 t2:Addr) (f0:Value) (j:Nat):Prop where
 zip:IsZip h z TI TO f0
 its:IsPair h TI (.ref i1) (.ref i2)
 out:∃a b,IsPair h TO a b
 it1:h.IsTupleIter i1 t1 j
 it2:h.IsTupleIter i2 t2 j
section
variable {prog:Program}{w:World}{A:Around}{E:Value->Shared->Prop}{s:Shared}{z TI TO i1 i2 t1 t2:Addr}{xs ys:Array Value}{j:Nat}
theorem zke (a b c d e x:Addr)(h:[a,b,c,d,e].Nodup):a≠b/\a≠c/\a≠d/\a≠e/\b≠c/\b≠d/\b≠e/\c≠d/\c≠e/\d≠e:=by
 simp at h;obtain⟨⟨h1,h2,h3,h4⟩,⟨h5,h6,h7⟩,⟨h8,h9⟩,h10⟩:=h;exact⟨h1,h2,h3,h4,h5,h6,h7,h8,h9,h10⟩
theorem ztp {Q:Fin->Shared->Prop}(hh:A.handled=none)(R:ZRec z TI TO i1 i2 t1 t2)(Z:ZAt s.heap z TI TO i1 i2 t1 t2 .none j)(hx:s.heap.IsTuple t1 xs)(hy:s.heap.IsTuple t2 ys)
  (hQ:∀x y,xs[j]?=some x->ys[j]?=some y->∀g,ZAt g z TI TO i1 i2 t1 t2 (rawInt s.heap.objs.size) (j+1)->IsPair g s.heap.objs.size x y->g.objs.size=s.heap.objs.size+1 ->
   (∀c o,c∉[z,TO,i1,i2]->s.heap.get? c=some o->g.get? c=some o)->Q (.done (.ret (.ref s.heap.objs.size))) {s with heap:=g})
  (hE:xs[j]?=none\/ys[j]?=none->∀ g e,(∀ c o, c∉[z, TO, i1, i2]->s.heap.get? c=some o->g.get? c=some o)->(∃ o, g.get? e=some o/\o.cls=.type "StopIteration")->E (.ref e) { s with heap:=g }):wpAny (model prog w) A (Builtin.«zip.__next__» ⟨[.ref z],[]⟩) Q E s:=by
 obtain⟨n1,n2,n3,n4,n5,n6,n7,n8,n9,n10⟩:=zke z TI TO i1 i2 0 R.nd;have a1:=R.o1;have a2:=R.o2;simp only[xbn,xdx,xhd,not_or] at a1 a2;obtain⟨p1,p2,p3,p4,p5⟩:=a1;obtain⟨q1,q2,q3,q4,q5⟩:=a2;obtain⟨hz,hI,⟨a,b,hO⟩,k1,k2⟩:=Z;refine(?_:wpAny _ _ (field (.ref z) 2 >>= _) Q E s);refine xba (xeh hz rfl (x:=.bool false) rfl (?_:wpAny _ _ (field (.ref z) 3 >>= _) _ _ _));refine xba (xeh hz rfl (x:=.ref TI) rfl (xba (xfk hI rfl (?_:wpAny _ _ (Builtin.SmallTypes.ownedTupleIsFree (.ref z) >>= _) _ _ _))));refine xba (m:=Builtin.SmallTypes.ownedTupleIsFree (.ref z)) (show wpAny _ _ (field (.ref z) 0 >>= _) _ _ _ from xba (xeh hz rfl (x:=.none) rfl (xbe ?_)));simp only[xew];refine xba (xgb (xba (xeh hz rfl (x:=.ref TO) rfl (xba (xdu hz (by simp) fun g1 hz1 e1=>?_)))));have hz1':IsZip g1 z TI TO .ellipsis:=hz1;simp only[xjh,xkp,List.forIn_nil,List.zipIdx_nil];refine xba (xba (xba (xkf (?_:wpAny _ _ (Builtin.SmallTypes.nextOf (.ref i1) >>= _) _ _ _))));refine xba (zjm hh (s:={s with heap:=g1}) (k1.extBut e1.extBut (xci n3)) (hx.extBut e1.extBut p1) (fun x hx1 g2 k3 e2=>xbe ?_) fun hx1 g2 ee eb he=>?_)
 ·have hO2:IsPair g2 TO a b:=e2.extBut _ _ n8 (e1.extBut _ _ (xci n2) hO);refine xba (xfk hO2 rfl (xba (xhr (s:={s with heap:=g2}) hO2 fun g3 hO3 e3=>xba (xjq (xbe ?_)))));have hO3':IsPair g3 TO x b:=hO3;refine xba (xba (xkf (?_:wpAny _ _ (Builtin.SmallTypes.nextOf (.ref i2) >>= _) _ _ _)));refine xba (zjm hh (s:={s with heap:=g3}) (((k2.extBut e1.extBut (xci n4)).extBut e2.extBut (xci n10)).extBut e3.extBut (xci n9)) (((hy.extBut e1.extBut q1).extBut e2.extBut q4).extBut e3.extBut q3) (fun y hy1 g4 k4 e4=>xbe ?_) fun hy1 g4 ee eb he=>?_)
  ·have hO4:IsPair g4 TO x b:=e4.extBut _ _ n9 hO3';refine xba (xfk hO4 rfl (xba (xhr (s:={s with heap:=g4}) hO4 fun g5 hO5 e5=>xba (xjq (xbe (xbe ?_))))));have hO5':IsPair g5 TO x y:=hO5;refine xba (xfk hO5' rfl (xba (wpAny_newTuple ?_)));have sz:g5.objs.size=s.heap.objs.size:=by rw[e5.1,e4.1,e3.1,e2.1,e1.1]
   have hz5:IsZip g5 z TI TO .ellipsis:=e5.extBut _ _ n2 (e4.extBut _ _ n4 (e3.extBut _ _ n2 (e2.extBut _ _ n3 hz1')));have kp:∀c o,c∉[z,TO,i1,i2]->s.heap.get? c=some o->g5.get? c=some o:=fun c o hc e=>by
    simp only[xbn,xdx,xhd,not_or] at hc;exact e5.extBut _ _ hc.2.1 (e4.extBut _ _ hc.2.2.2 (e3.extBut _ _ hc.2.1 (e2.extBut _ _ hc.2.2.1 (e1.extBut _ _ hc.1 e))))
   have m1:g5.IsTupleIter i1 t1 (j+1):=((k3.extBut e3.extBut (xci n8)).extBut e4.extBut n10).extBut e5.extBut (xci n8);have m2:g5.IsTupleIter i2 t2 (j+1):=k4.extBut e5.extBut (xci n9);have lz:z < g5.objs.size:=xbl hz5;have hz6:IsZip (g5.push { cls:=.type "tuple", data:=.seq #[x, y] }) z TI TO .ellipsis:=xbb _ hz5
   refine xba (m:=Builtin.SmallTypes.ownedTupleHandOut (.ref z) (.ref g5.objs.size)) (xba (xdu hz6 (by simp) fun g7 hz7 e7=>?_));have hz7':IsZip g7 z TI TO (rawInt g5.objs.size):=hz7;refine xdu hz7' (by simp) fun g8 hz8 e8=>xbe ?_
   have hz8':IsZip g8 z TI TO (rawInt g5.objs.size):=hz8;have up:∀c o,c≠z->g5.get? c=some o->g8.get? c=some o:=fun c o hc e=>e8.extBut _ _ hc (e7.extBut _ _ hc (xbb _ e))
   have hT:IsPair g8 g5.objs.size x y:=e8.extBut _ _ (xfm lz) (e7.extBut _ _ (xfm lz) (xbm _ rfl));have s8:g8.objs.size=g5.objs.size+1:=by rw[e8.1,e7.1,xem]
   rw[sz] at hz8' hT s8;have hI5:IsPair g5 TI (.ref i1) (.ref i2):=kp _ _ (by simp[xci n1,n5,n6,n7]) hI;have fin:=hQ x y hx1 hy1 g8 ⟨hz8',up _ _ (xci n1) hI5,⟨x,y,up _ _ (xci n2) hO5'⟩,m1.at fun o e=>up _ o (xci n3) e,m2.at fun o e=>up _ o (xci n4) e⟩ hT s8 fun c o hc e=>up c o (fun q=>hc (by simp[q])) (kp c o hc e)
   show Q (.done (.ret (.ref g5.objs.size))) _;rw[sz];exact fin
  ·obtain⟨oe,he1,he2⟩:=he;have hz4:IsZip g4 z TI TO .ellipsis:=eb _ _ n4 (e3.extBut _ _ n2 (e2.extBut _ _ n3 hz1'));have nz:ee≠z:=fun q=>by rw[q,hz4] at he1;cases he1;simp at he2
   refine xdu hz4 (by simp) fun g5 _ e5=>hE (.inr hy1) g5 ee (fun c o hc e=>?_) ⟨oe,e5.extBut _ _ nz he1,he2⟩
   simp only[xbn,xdx,xhd,not_or] at hc;exact e5.extBut _ _ hc.1 (eb _ _ hc.2.2.2 (e3.extBut _ _ hc.2.1 (e2.extBut _ _ hc.2.2.1 (e1.extBut _ _ hc.1 e))))
 ·obtain⟨oe,he1,he2⟩:=he;have hz2:IsZip g2 z TI TO .ellipsis:=eb _ _ n3 hz1';have nz:ee≠z:=fun q=>by rw[q,hz2] at he1;cases he1;simp at he2
  refine xdu hz2 (by simp) fun g3 _ e3=>hE (.inl hx1) g3 ee (fun c o hc e=>?_) ⟨oe,e3.extBut _ _ nz he1,he2⟩
  simp only[xbn,xdx,xhd,not_or] at hc;exact e3.extBut _ _ hc.1 (eb _ _ hc.2.2.1 (e1.extBut _ _ hc.1 e))
end
section
variable {prog:Program}{w:World}{A:Around}{E:Value->Shared->Prop}{s:Shared}{z TI TO i1 i2 t1 t2:Addr}{xs ys:Array Value}{j:Nat}
theorem zmu {Q:Option Value->Shared->Prop}(hh:A.handled=none)(R:ZRec z TI TO i1 i2 t1 t2)(Z:ZAt s.heap z TI TO i1 i2 t1 t2 .none j)(hx:s.heap.IsTuple t1 xs)(hy:s.heap.IsTuple t2 ys)
  (hQ:∀x y,xs[j]?=some x->ys[j]?=some y->∀g,ZAt g z TI TO i1 i2 t1 t2 (rawInt s.heap.objs.size) (j+1)->IsPair g s.heap.objs.size x y->g.objs.size=s.heap.objs.size+1 ->
   (∀c o,c∉[z,TO,i1,i2]->s.heap.get? c=some o->g.get? c=some o)->Q (some (.ref s.heap.objs.size)) {s with heap:=g})
  (hE:xs[j]?=none\/ys[j]?=none->∀g,(∀c o,c∉[z,TO,i1,i2]->s.heap.get? c=some o->g.get? c=some o)->Q none {s with heap:=g}):wpAny (model prog w) A (pyNext (.ref z)) Q E s:=by
 have T:s.TypeIs (.ref z) "zip":=⟨_, Z.zip, rfl⟩
 unfold pyNext;refine xba (xip (wpAny_callSpecial?_slot (name:=Str.ofString "__next__") T xhj (xdy xhj T F.entry_zip_next (ztp hh R Z hx hy (fun x y h1 h2 g k1 k2 k3 k4=>⟨_, rfl, xbe (hQ x y h1 h2 g k1 k2 k3 k4)⟩) fun h1 g e k he=>?_) (F.args_zip_next_1 _))))
 obtain⟨o,ho,hc⟩:=he;exact xba (wpAny_isInstance (T:="StopIteration") (b:=true) ⟨o, ho, hc⟩ isSubtype_stop (xbe (hE h1 g k)))
end
noncomputable def Itz (K:Fg) (a b:Addr):It :=
 ⟨fun i H=>∃xs ys x y,SqT K H a xs/\SqT K H b ys/\xs[i]?=some x/\ys[i]?=some y,
  fun i H u H'=>∃p,H p=none/\u=.ref p/\∀xs ys x y,SqT K H a xs->SqT K H b ys->xs[i]?=some x->ys[i]?=some y->H'=upd H p (.tup [x,y]),
  fun i H=>∃xs ys,SqT K H a xs/\SqT K H b ys/\(xs.length<=i\/ys.length<=i)⟩
theorem ztw {P:Program}{w:World}{K:Fg}{elts:List Expr}{k:Nat}{tpos:Pos}{z TI TO i1 i2 a b:Addr}(R:ZRec z TI TO i1 i2 a b) :
  Turn P w K (.Tuple elts k tpos) (Itz K a b) [z,TI,TO,i1,i2] z (fun i h=>ZAt h z TI TO i1 i2 a b .none i) where
 mem:=by simp
 obj:=fun i h st c hc=>by
  obtain⟨u,v,hO⟩:=st.out;obtain⟨o1,e1,_,d1⟩:=st.it1;obtain⟨o2,e2,_,d2⟩:=st.it2;have hc':c=z\/c=TI\/c=TO\/c=i1\/c=i2:=by simpa using hc
  rcases hc' with rfl | rfl | rfl | rfl | rfl
  ·exact⟨_,st.zip,fun v q=>by cases(show Data.fields _=Data.cell v from q)⟩
  ·exact⟨_,st.its,fun v q=>by cases(show Data.seq _ _=Data.cell v from q)⟩
  ·exact⟨_,hO,fun v q=>by cases(show Data.seq _ _=Data.cell v from q)⟩
  ·exact⟨o1,e1,fun v q=>by rw[d1] at q;cases q⟩
  ·exact⟨o2,e2,fun v q=>by rw[d2] at q;cases q⟩
 keep:=fun i h h' st kk=>by
  obtain⟨u,v,hO⟩:=st.out;exact⟨kk z (by simp) _ st.zip,kk TI (by simp) _ st.its,⟨u,v,kk TO (by simp) _ hO⟩,st.it1.at fun o e=>kk i1 (by simp) o e,st.it2.at fun o e=>kk i2 (by simp) o e⟩
 item:=by
  intro X hP hw hK hc i aU s σ H E I hf st hg;subst hP hw hK;obtain⟨xs,ys,x,y,hq1,hq2,hx,hy⟩:=hg;obtain⟨its1,rv1,p1,hz1⟩:=I.tuple hq1;obtain⟨its2,rv2,p2,hz2⟩:=I.tuple hq2;obtain⟨u1,hu1,ru1⟩:=rv1.get hx;obtain⟨u2,hu2,ru2⟩:=rv2.get hy;refine zmu (I.ok.hd hc) R st (show s.heap.IsTuple a its1.toArray from p1) (show s.heap.IsTuple b its2.toArray from p2) (fun v1 v2 e1 e2 g Z hT hsz kp=>?_) fun e=>?_
  ·have f1:v1=u1:=by rw[xed,hu1] at e1;exact(xck e1).symm
   have f2:v2=u2:=by rw[xed,hu2] at e2;exact(xck e2).symm
   subst f1 f2;refine⟨_,rfl,wpAny_letOwnedTupleGo_zip Z.zip fun g2 hz' e'=>?_⟩;have low:∀c∈[z,TI,TO,i1,i2],c < s.heap.objs.size:=fun c hc'=>by
    obtain⟨uu,vv,hO⟩:=st.out;obtain⟨o1,e1,_⟩:=st.it1;obtain⟨o2,e2,_⟩:=st.it2;have hc'':c=z\/c=TI\/c=TO\/c=i1\/c=i2:=by simpa using hc'
    rcases hc'' with rfl | rfl | rfl | rfl | rfl
    ·exact xbl st.zip
    ·exact xbl st.its
    ·exact xbl hO
    ·exact xbl e1
    ·exact xbl e2
   have hzl:=low z (by simp);have I1:Inv X aU σ (upd H s.heap.objs.size (.tup [x, y])) { s with heap:=s.heap.push { cls:=.type "tuple", data:=.seq #[v1, v2] }, toks:=s.toks } :=
    I.laid (fun _ _ q=>xbb _ q) (xbf _) ⟨by simp;decide,[v1,v2],.cons ru1 (.cons ru2 .nil),⟨_,xbm _ rfl,rfl,_,rfl⟩⟩
   have hf2:∀c∈[z,TI,TO,i1,i2],FpOk X aU (upd H s.heap.objs.size (.tup [x,y])) c:=fun c hc'=>by
    obtain⟨f0,fr⟩:=hf c hc';exact⟨by rw[zr (xcj (low c hc'))];exact f0,fr⟩
   have I2:Inv X aU σ (upd H s.heap.objs.size (.tup [x,y])) {s with heap:=g2,toks:=s.toks}:=by
    refine Inv.turnedL (s:={ s with heap:=s.heap.push { cls:=.type "tuple", data:=.seq #[v1, v2] }, toks:=s.toks }) (h':=g2) (t':=s.toks) (ch:=[z, TI, TO, i1, i2]) I1 (fun c o hc' q=>?_) hf2
    have q':(s.heap.push { cls:=.type "tuple", data:=.seq #[v1, v2] }).get? c=some o:=q
    have cz:c≠z:=fun e=>hc' (by simp[e])
    rcases Heap.get?_push_cases q' with⟨e1,e2⟩ | e1
    ·rw[e1,e2];exact e'.extBut _ _ (xfm hzl) hT
    ·exact e'.extBut _ _ cz (kp c o (fun m=>hc' (by simp at m ⊢;rcases m with m | m | m | m<;>simp[m])) e1)
   obtain⟨d1,d2,d3,d4,_⟩:=zke z TI TO i1 i2 0 R.nd;obtain⟨uu,vv,hO⟩:=Z.out;refine⟨.ref s.heap.objs.size,_,I2,rfl,⟨s.heap.objs.size,I.fresh,rfl,fun as bs x' y' ha hb ex ey=>?_⟩,⟨hz',e'.extBut _ _ (xci d1) Z.its,⟨uu,vv,e'.extBut _ _ (xci d2) hO⟩,Z.it1.extBut e'.extBut (xci d3),Z.it2.extBut e'.extBut (xci d4)⟩,fun c hc'=>(hf2 c hc').1⟩;rw[I.tuple_inj ha hq1,hx] at ex;rw[I.tuple_inj hb hq2,hy] at ey;cases ex;cases ey
   rfl
  ·rcases e with e | e
   ·rw[xed,hu1] at e;cases e
   ·rw[xed,hu2] at e;cases e
 done:=by
  intro X hP hw hK hc i aU s σ H E I hf st hg;subst hP hw hK;obtain⟨xs,ys,hq1,hq2,hl⟩:=hg;obtain⟨its1,rv1,p1,hz1⟩:=I.tuple hq1;obtain⟨its2,rv2,p2,hz2⟩:=I.tuple hq2;have l1:=rv1.length;have l2:=rv2.length;refine zmu (I.ok.hd hc) R st (show s.heap.IsTuple a its1.toArray from p1) (show s.heap.IsTuple b its2.toArray from p2) (fun v1 v2 e1 e2 g Z hT hsz kp=>?_) fun _ g kp=>⟨rfl,I.turnedL (t':=s.toks) (ch:=[z,TI,TO,i1,i2]) (fun c o hc' e=>kp c o (fun m=>hc' (by simp at m ⊢;rcases m with m | m | m | m<;>simp[m])) e) hf⟩
  rw[xed] at e1 e2;have g1:=(xbk.mp e1).1;have g2:=(xbk.mp e2).1;lia
 self:=fun A i s Q E st h=>xiw st.zip h
section
variable {prog:Program}{w:World}{A:Around}{E:Value->Shared->Prop}{s:Shared}
noncomputable abbrev tupIt (l:Addr):Obj:={ cls:=.type "tuple_iterator", data:=.fields #[.ref l, .int 0 0] }
noncomputable abbrev two (a b:Value):Obj:={ cls:=.type "tuple", data:=.seq #[a, b] }
noncomputable abbrev zipOb (a b:Addr):Obj:={ cls:=.type "zip", data:=.fields #[.none, .bool false, .bool false, .ref a, .ref b] }
noncomputable abbrev lay1 (h:Heap) (l1:Addr):Heap:=h.push (tupIt l1)
noncomputable abbrev lay2 (h:Heap) (l1 l2:Addr):Heap:=(lay1 h l1).push (tupIt l2)
noncomputable abbrev lay3 (h:Heap) (l1 l2:Addr):Heap:=(lay2 h l1 l2).push (two (.ref h.objs.size) (.ref (lay1 h l1).objs.size))
noncomputable abbrev lay4 (h:Heap) (l1 l2:Addr):Heap:=(lay3 h l1 l2).push (two .none .none)
noncomputable abbrev lay5 (h:Heap) (l1 l2:Addr):Heap:=(lay4 h l1 l2).push (zipOb (lay2 h l1 l2).objs.size (lay3 h l1 l2).objs.size)
theorem ztq (l1 l2:Addr)(xs ys:Array Value) :
  Meets (Builtin.«zip.__new__» ⟨[.type "zip", .ref l1, .ref l2],[]⟩) (fun _ R s=>s.heap.IsTuple l1 xs/\s.heap.IsTuple l2 ys/\R (.ok (.ret (.ref (lay4 s.heap l1 l2).objs.size))) { s with heap:=lay5 s.heap l1 l2 }) :=
 .of_wp fun prog w A R s h=>by
  obtain⟨hp,g,d,tk,os⟩:=s;obtain⟨k1,k2,h⟩:=h;have sub:=sub_zip;have k1':Heap.IsTuple (Shared.heap ⟨hp,g,d,tk,os⟩) l1 xs:=k1;have k2':Heap.IsTuple (Shared.heap ⟨hp.push (tupIt l1),g,d,tk,os⟩) l2 ys:=k2.push _
  wp_walk using xgf k1',xgf k2'
  exact⟨_,rfl,h⟩
theorem zgw {n l1 l2:Nat}(h1:l1 < n)(h2:l2 < n):ZRec (n+4) (n+2) (n+3) n (n+1) l1 l2/\∀c∈[n+4,n+2,n+3,n,n+1],n<=c :=
 have q:∀{l:Nat},l < n->l∉[n+4,n+2,n+3,n,n+1]:=fun {l} h m=>by
  simp only[xbn,xdx,xhd] at m;lia
 ⟨⟨by simp,q h1,q h2⟩,fun c hc=>by simp at hc;lia⟩
theorem zry {l1 l2:Addr}{xs ys:Array Value}{Q:Value->Shared->Prop}(k1:s.heap.IsTuple l1 xs)(k2:s.heap.IsTuple l2 ys)
  (h:∀g z TI TO i1 i2,ZRec z TI TO i1 i2 l1 l2->ZAt g z TI TO i1 i2 l1 l2 .none 0->(∀c∈[z,TI,TO,i1,i2],s.heap.objs.size<=c) ->
   (∀ c o, s.heap.get? c=some o->g.get? c=some o)->Q (.ref z) { s with heap:=g }):wpAny (model prog w) A (call (.type "zip") [.ref l1, .ref l2]) Q E s:=by
 have lt1:l1 < s.heap.objs.size:=by obtain⟨_,e,_⟩:=k1;exact xbl e
 have lt2:l2 < s.heap.objs.size:=by obtain⟨_,e,_⟩:=k2;exact xbl e
 refine callType_new F.called_zip (by decide) (F.typeCall_zip_2 _ _) (F.newCall_zip_2 _ _) (fun obj=>xke obj _ _) F.entry_zip_new (ztq l1 l2 xs ys) ⟨k1,k2,?_⟩;have z1:(lay1 s.heap l1).objs.size=s.heap.objs.size+1:=xem ..
 have z2:(lay2 s.heap l1 l2).objs.size=s.heap.objs.size+2:=(xem ..).trans (by rw[z1]);have z3:(lay3 s.heap l1 l2).objs.size=s.heap.objs.size+3:=(xem ..).trans (by rw[z2]);have z4:(lay4 s.heap l1 l2).objs.size=s.heap.objs.size+4:=(xem ..).trans (by rw[z3]);have g5:(lay5 s.heap l1 l2).get? (lay4 s.heap l1 l2).objs.size=some _:=xbm _ rfl;have g4:(lay5 s.heap l1 l2).get? (lay3 s.heap l1 l2).objs.size=some _:=xbb _ (xbm _ rfl);have g3:(lay5 s.heap l1 l2).get? (lay2 s.heap l1 l2).objs.size=some _:=xbb _ (xbb _ (xbm _ rfl));have g2:(lay5 s.heap l1 l2).get? (lay1 s.heap l1).objs.size=some _:=xbb _ (xbb _ (xbb _ (xbm _ rfl)));have g1:(lay5 s.heap l1 l2).get? s.heap.objs.size=some _:=xbb _ (xbb _ (xbb _ (xbb _ (xbm _ rfl))));have fin:=h (lay5 s.heap l1 l2) (lay4 s.heap l1 l2).objs.size (lay2 s.heap l1 l2).objs.size (lay3 s.heap l1 l2).objs.size s.heap.objs.size (lay1 s.heap l1).objs.size
  (by rw[z4,z3,z2,z1];exact(zgw lt1 lt2).1) ⟨g5,g3,⟨_,_,g4⟩,⟨_,g1,rfl,rfl⟩,⟨_,g2,rfl,rfl⟩⟩
  (by rw[z4,z3,z2,z1];exact(zgw lt1 lt2).2) fun c o e=>xbb _ (xbb _ (xbb _ (xbb _ (xbb _ e))))
 exact⟨⟨_,g5,rfl⟩,fin⟩
end
section
variable {X:Cx}
noncomputable def iZip (K:Fg) (ta:TA):TI:=fun σ H R=>ta σ H fun vs H1=>∃a b,vs=[.ref a,.ref b]/\(∃xs,SqT K H1 a xs)/\(∃xs,SqT K H1 b xs)/\R (Itz K a b) H1
theorem zbdc {elts:List Expr}{k:Nat}{tpos p pos:Pos}{a b:Expr}{ta:TA}(hg:Gl X "zip")(hm:X.mg "zip"=none)(ha:PA X [a, b] ta)
  (hs:starEach [a,b] X.env=[(false,eval a X.env),(false,eval b X.env)]:=by rfl)(hs2:starEach [b] X.env=[(false,eval b X.env)]:=by rfl) :
  PI X (.Tuple elts k tpos) (.Call (.Name "zip" p) [a, b] [] pos) (iZip X.K ta):=by
 intro aU s σ H R I h;refine Call_ (zmm I hg hm PyProof.Rows.boot_zip (xgc (thn (ha pos aU s σ H _ I h) fun us s1 ⟨vs,H1,I1,r1,q1⟩=>?_) (by rw[hs,hs2]) (by rw[hs2];rfl)));obtain⟨a,b,e,⟨xs,hx⟩,⟨ys,hy⟩,q⟩:=q1;subst e;obtain⟨u1,u2,rfl,e1,e2⟩:=vals2 r1;cases e1;cases e2;obtain⟨its1,rv1,p1,hz1⟩:=I1.tuple hx;obtain⟨its2,rv2,p2,hz2⟩:=I1.tuple hy;refine zry (show s1.heap.IsTuple a its1.toArray from p1) (show s1.heap.IsTuple b its2.toArray from p2) fun g z TI TO i1 i2 R Z low kp=>?_
 refine xiw Z.zip ?_;exact⟨z,[z,TI,TO,i1,i2],_,_,H1,rfl,I1.kept (t':=s1.toks) kp,ztw R,Z,fun c hc=>I1.fpOk (low c hc) (I1.hok.fresh (low c hc)),q⟩
end
end L2
namespace Dd
open PySem L2
set_option genInjectivity true in
inductive D where
 | non | bl (b:Bool) | int (i:Int) | str (x:Str) | ty (n:String) | ref (n:Nat) | tup (ds:List D) | lst (ds:List D) | scr (ds:List D) | exn (c:Str) (l:List Int)
set_option genInjectivity true in
inductive O where
 /-- a list that may change;a dict by tuples of ints;one that is only read;gone -/
 | lst (xs:List D) | dT (kvs:List (List Int×D)) | fT (kvs:List (List Int×D)) | dead
 /-- a dict by ints -/
 | dI (kvs:List (Int×D))
 /-- the law's table of codes -/
 | tab
noncomputable abbrev Store:=List O
structure Exc where
 cls:Str
 at_:List Int
set_option genInjectivity true in
inductive Res (α:Type) where
 | ok (a:α) (st:Store) | exc (x:Exc) (st:Store) | stuck
noncomputable def Res.bind {α β:Type}:Res α->(α->Store->Res β)->Res β
 | .ok a st,f=>f a st
 | .exc x st,_=>.exc x st
 | .stuck,_=>.stuck
@[simp] theorem zdz {α β:Type} (a:α) (st:Store) (f:α->Store->Res β):(Res.ok a st).bind f=f a st:=rfl
@[simp] theorem zbgg {α β:Type} (x:Exc) (st:Store) (f:α->Store->Res β):(Res.exc x st:Res α).bind f=.exc x st:=rfl
@[simp] theorem zbbn {α β:Type} (f:α->Store->Res β):(Res.stuck:Res α).bind f=.stuck:=rfl
theorem za {α β:Type}{r:Res α}{f:α->Store->Res β}{b:β}{st':Store}(h:r.bind f=.ok b st'):∃a st,r=.ok a st/\f a st=.ok b st':=by
 cases r with
 | ok a st=>exact⟨a,st,rfl,h⟩
 | exc x st=>cases h
 | stuck=>cases h
noncomputable abbrev DS:=List (Option D)
noncomputable abbrev SE:=DS->Store->Res D
noncomputable abbrev ST:=DS->Store->Res Bool
noncomputable abbrev SA:=DS->Store->Res (List D)
set_option genInjectivity true in
inductive Fl where
 | nx (σ:DS) | ret (v:D) | brk (σ:DS) | ct (σ:DS)
noncomputable abbrev SS:=DS->Store->Res Fl
noncomputable abbrev DFn:=List D->Store->Res D
structure Loc where
 m:List (Option Addr)
 g:List Addr
noncomputable def Out (ρ:Loc) (a:Addr):Prop:=some a∉ρ.m/\a∉ρ.g
noncomputable def Ls (K:Fg) (ρ:Loc) (H:Hp) (a:Addr) (vs:List V):Prop:=(Rd H a (.lst vs)/\Out ρ a)\/∀H':Hp,SqL K H' a vs
noncomputable def XAt (K:Fg) (ρ:Loc) (H:Hp) (c:Str) (l:List Int) (a:Addr):Prop:=∃C o,W.nsIn K mainGlobals c=some (some (.ref C))/\(H a=some (.frz o (.ext fun _=>True))/\Out ρ a)/\o.cls=.ref C/\(∃vs,o.data=.fields vs/\vs[2]?=some .none) /\
 ((l=[]/\o.dict=none)\/∃ i dx od, l=[i]/\o.dict=some dx/\H dx=some (.frz od (.xd [("at", .int i)]))/\Out ρ dx)
theorem XAt.map {K:Fg}{ρ ρ':Loc}{H H':Hp}{c:Str}{l:List Int}{a:Addr}(h:XAt K ρ H c l a)(f:∀b ob u,H b=some (.frz ob u)->Out ρ b->H' b=some (.frz ob u)/\Out ρ' b):XAt K ρ' H' c l a:=by
 obtain⟨C,o,h1,h2,h3,h4,h5⟩:=h;refine⟨C,o,h1,f _ _ _ h2.1 h2.2,h3,h4,?_⟩;rcases h5 with h5 | ⟨i,dx,od,h6,h7,h8,h9⟩
 ·exact .inl h5
 ·exact .inr ⟨i,dx,od,h6,h7,(f _ _ _ h8 h9).1,(f _ _ _ h8 h9).2⟩
mutual
inductive At (K:Fg) (ρ:Loc) (H:Hp):D->V->Prop
 | non:At K ρ H .non .non
 | bl (b:Bool):At K ρ H (.bl b) (.bl b)
 | int (i:Int):At K ρ H (.int i) (.int i)
 | str (x:Str):At K ρ H (.str x) (.str x)
 | ty (n:String):At K ρ H (.ty n) (.ty n)
 | ref {n:Nat} {v:V}:n < ρ.m.length->(∀a,ρ.m[n]?=some (some a)->v=.ref a)->At K ρ H (.ref n) v
 | tup {a:Addr} {ds:List D} {vs:List V}:H a=some (.tup vs)->Out ρ a->AtAll K ρ H ds vs->At K ρ H (.tup ds) (.ref a)
 | lst {a:Addr} {ds:List D} {vs:List V}:H a=some (.lst vs)->Out ρ a->AtAll K ρ H ds vs->At K ρ H (.lst ds) (.ref a)
 | scr {a:Addr} {ds:List D} {vs:List V}:Ls K ρ H a vs->AtAll K ρ H ds vs->At K ρ H (.scr ds) (.ref a)
 | exn {c:Str} {l:List Int} {a:Addr}:XAt K ρ H c l a->At K ρ H (.exn c l) (.ref a)
inductive AtAll (K:Fg) (ρ:Loc) (H:Hp):List D->List V->Prop
 | nil:AtAll K ρ H [] []
 | cons {d:D} {ds:List D} {v:V} {vs:List V}:At K ρ H d v->AtAll K ρ H ds vs->AtAll K ρ H (d::ds) (v::vs)
end
structure Mv (ρ:Loc) (H:Hp) (ρ':Loc) (H':Hp):Prop where
 out:∀{a:Addr} {o:HO},H a=some o->Out ρ a->H' a=some o/\Out ρ' a
 len:ρ.m.length<=ρ'.m.length
 old:∀(n:Nat) (a:Addr),n < ρ.m.length->ρ'.m[n]?=some (some a)->ρ.m[n]?=some (some a)
theorem Ls.mv {K:Fg}{ρ ρ':Loc}{H H':Hp}{a:Addr}{vs:List V}(x:Mv ρ H ρ' H')(h:Ls K ρ H a vs):Ls K ρ' H' a vs:=by
 rcases h with⟨h | ⟨o,h⟩,n⟩ | h
 ·exact .inl ⟨.inl (x.out h n).1,(x.out h n).2⟩
 ·exact .inl ⟨.inr ⟨o,(x.out h n).1⟩,(x.out h n).2⟩
 ·exact .inr h
theorem At.mv {K:Fg}{ρ ρ':Loc}{H H':Hp}(x:Mv ρ H ρ' H'){d:D}{v:V}(h:At K ρ H d v):At K ρ' H' d v :=
 At.rec (motive_1:=fun d v _=>At K ρ' H' d v) (motive_2:=fun d v _=>AtAll K ρ' H' d v) .non .bl .int .str .ty (fun h e=>.ref (xbg h x.len) fun a q=>e a (x.old _ a h q)) (fun h n _ ih=>.tup (x.out h n).1 (x.out h n).2 ih) (fun h n _ ih=>.lst (x.out h n).1 (x.out h n).2 ih) (fun h _ ih=>.scr (h.mv x) ih) (fun h=>.exn (h.map fun _ _ _ e n=>x.out e n)) .nil (fun _ _ a b=>.cons a b) h
theorem AtAll.mv {K:Fg}{ρ ρ':Loc}{H H':Hp}(x:Mv ρ H ρ' H'){d:List D}{v:List V}(h:AtAll K ρ H d v):AtAll K ρ' H' d v :=
 AtAll.rec (motive_1:=fun _ _ _=>True) (motive_2:=fun d v _=>AtAll K ρ' H' d v) trivial (fun _=>trivial) (fun _=>trivial) (fun _=>trivial) (fun _=>trivial) (fun _ _=>trivial) (fun _ _ _ _=>trivial) (fun _ _ _ _=>trivial) (fun _ _ _=>trivial) (fun _=>trivial) .nil (fun a _ _ b=>.cons (a.mv x) b) h
structure Ext (ρ:Loc) (H:Hp) (ρ':Loc) (H':Hp):Prop where
 len:ρ.m.length<=ρ'.m.length
 old:∀(n:Nat) (a:Addr),n < ρ.m.length->ρ'.m[n]?=some (some a)->ρ.m[n]?=some (some a)
 keep:∀a o,H a=some o->some a∉ρ.m->H' a=some o/\some a∉ρ'.m
 gho:ρ'.g=ρ.g
 frz:∀a ob u,H a=some (.frz ob u)->H' a=some (.frz ob u)
theorem Ext.out {ρ ρ':Loc}{H H':Hp}(x:Ext ρ H ρ' H'){a:Addr}{o:HO}(h:H a=some o)(n:Out ρ a):H' a=some o/\Out ρ' a :=
 ⟨(x.keep a o h n.1).1,(x.keep a o h n.1).2,by rw[x.gho];exact n.2⟩
theorem Ext.mv {ρ ρ':Loc}{H H':Hp}(x:Ext ρ H ρ' H'):Mv ρ H ρ' H':=⟨fun h n=>x.out h n,x.len,x.old⟩
theorem Ls.sq {K:Fg}{ρ:Loc}{H:Hp}{a:Addr}{vs:List V}(h:Ls K ρ H a vs):SqL K H a vs:=by
 rcases h with h | h
 ·exact .inl h.1
 ·exact h H
section
variable {K:Fg}
theorem Ext.refl (ρ:Loc)(H:Hp):Ext ρ H ρ H:=⟨xbf _,fun _ _ _ e=>e,fun _ _ e n=>⟨e,n⟩,rfl,fun _ _ _ e=>e⟩
theorem Ext.trans {ρ ρ1 ρ2:Loc}{H H1 H2:Hp}(a:Ext ρ H ρ1 H1)(b:Ext ρ1 H1 ρ2 H2):Ext ρ H ρ2 H2 :=
 ⟨xbc a.len b.len,fun n c h e=>a.old n c h (b.old n c (xbg h a.len) e),fun c o e n=>by
  obtain⟨e1,n1⟩:=a.keep c o e n
  exact b.keep c o e1 n1,b.gho.trans a.gho,fun c ob u e=>b.frz c ob u (a.frz c ob u e)⟩
theorem At.ext {ρ ρ':Loc}{H H':Hp}(x:Ext ρ H ρ' H'){d:D}{v:V}(h:At K ρ H d v):At K ρ' H' d v:=h.mv x.mv
theorem AtAll.ext {ρ ρ':Loc}{H H':Hp}(x:Ext ρ H ρ' H'){d:List D}{v:List V}(h:AtAll K ρ H d v):AtAll K ρ' H' d v:=h.mv x.mv
theorem AtAll.length {ρ:Loc}{H:Hp}:∀{ds:List D} {vs:List V},AtAll K ρ H ds vs->vs.length=ds.length
 | _,_,.nil=>rfl
 | _,_,.cons _ t=>by rw[xbu,xbu,AtAll.length t]
theorem AtAll.get {ρ:Loc}{H:Hp}:∀{ds:List D} {vs:List V} {i:Nat} {d:D},AtAll K ρ H ds vs->ds[i]?=some d->∃v,vs[i]?=some v/\At K ρ H d v
 | _,_,_,_,.nil,e=>by simp at e
 | _,_,0,_,.cons a _,e=>by simp at e;subst e;exact⟨_,rfl,a⟩
 | _,_,i+1,d,.cons _ t,e=>by
  obtain⟨u,h1,h2⟩:=AtAll.get (i:=i) (d:=d) t (by simpa using e);exact⟨u,by simpa using h1,h2⟩
theorem AtAll.append {ρ:Loc}{H:Hp}:∀{ds es:List D} {vs us:List V},AtAll K ρ H ds vs->AtAll K ρ H es us->AtAll K ρ H (ds++es) (vs++us)
 | _,_,_,_,.nil,b=>b
 | _,_,_,_,.cons a t,b=>.cons a (AtAll.append t b)
theorem AtAll.take {ρ:Loc}{H:Hp}:∀{ds:List D} {vs:List V} (n:Nat),AtAll K ρ H ds vs->AtAll K ρ H (ds.take n) (vs.take n)
 | _,_,0,_=>.nil
 | _,_,_+1,.nil=>.nil
 | _,_,n+1,.cons a t=>.cons a (AtAll.take n t)
theorem AtAll.drop {ρ:Loc}{H:Hp}:∀{ds:List D} {vs:List V} (n:Nat),AtAll K ρ H ds vs->AtAll K ρ H (ds.drop n) (vs.drop n)
 | _,_,0,h=>h
 | _,_,_+1,.nil=>.nil
 | _,_,n+1,.cons a t=>AtAll.drop n t
theorem AtAll.set {ρ:Loc}{H:Hp}{d:D}{v:V}(a:At K ρ H d v):∀{ds:List D} {vs:List V} (n:Nat),AtAll K ρ H ds vs->AtAll K ρ H (ds.set n d) (vs.set n v)
 | _,_,_,.nil=>.nil
 | _,_,0,.cons _ t=>.cons a t
 | _,_,n+1,.cons b t=>.cons b (AtAll.set a n t)
noncomputable def KvAt (K:Fg) (ρ:Loc) (H:Hp):List (List Int×D)->List (List Key×V)->Prop:=Paired fun p q=>q.1=p.1.map Sum.inl/\At K ρ H p.2 q.2
theorem KvAt.ext {ρ ρ':Loc}{H H':Hp}(x:Ext ρ H ρ' H'){a:List (List Int×D)}{b:List (List Key×V)}(h:KvAt K ρ H a b):KvAt K ρ' H' a b:=Paired.mapP h fun p q z=>⟨z.1,z.2.ext x⟩
noncomputable abbrev lamQ:Str:=(("law" : Str)++".<locals>.")++"<lambda>"
noncomputable def TabOk (H:Hp) (ps:Array Value):Prop:=TriplesOk ps.toList/\∀pos cv,codeAmong pos ps.toList=some cv->∃c oc vs t,cv=.ref c/\H c=some (.frz oc (.ext fun _=>True))/\oc.data=.fields vs/\vs[1]?=some (.str lamQ t)
theorem TabOk.map {H H':Hp}{ps:Array Value}(h:TabOk H ps)(f:∀b ob u,H b=some (.frz ob u)->H' b=some (.frz ob u)):TabOk H' ps :=
 ⟨h.1,fun pos cv e=>by obtain⟨c,oc,vs,t,e1,e2,e3⟩:=h.2 pos cv e;exact⟨c,oc,vs,t,e1,f _ _ _ e2,e3⟩⟩
noncomputable def KiAt (K:Fg) (ρ:Loc) (H:Hp):List (Int×D)->List (Key×V)->Prop:=Paired fun p q=>q.1=Sum.inl p.1/\At K ρ H p.2 q.2
theorem KiAt.ext {K:Fg}{ρ ρ':Loc}{H H':Hp}(x:Ext ρ H ρ' H'){a:List (Int×D)}{b:List (Key×V)}(h:KiAt K ρ H a b):KiAt K ρ' H' a b:=Paired.mapP h fun p q z=>⟨z.1,z.2.ext x⟩
noncomputable def OAt (K:Fg) (ρ:Loc) (H:Hp):O->Addr->Prop
 | .lst xs,a=>∃vs,H a=some (.lst vs)/\AtAll K ρ H xs vs
 | .dT kvs,a=>∃vs,H a=some (.dT vs)/\KvAt K ρ H kvs vs
 | .fT kvs,a=>∃vs ob,H a=some (.frz ob (.dT vs))/\KvAt K ρ H kvs vs
 | .dI kvs,a=>∃vs,H a=some (.dK vs)/\KiAt K ρ H kvs vs
 | .dead,_=>False
 | .tab, a=>(∃ c, W.tabIn K "law"=some (c, a))/\∃ ps, H a=some (.tbl ps)/\TabOk H ps
structure Rep (K:Fg) (ρ:Loc) (st:Store) (H:Hp):Prop where
 len:ρ.m.length=st.length
 inj:∀(n m:Nat) (a:Addr),ρ.m[n]?=some (some a)->ρ.m[m]?=some (some a)->n=m
 obj:∀(n:Nat) (a:Addr) (o:O),ρ.m[n]?=some (some a)->st[n]?=some o->OAt K ρ H o a
 gh:∀a∈ρ.g,(∃vs,H a=some (.lst vs))/\some a∉ρ.m
 live:∀(n:Nat) (o:O),st[n]?=some o->o≠.dead->∃a,ρ.m[n]?=some (some a)
noncomputable def AtO (K:Fg) (ρ:Loc) (H:Hp) (o:Option D) (v:Option V):Prop:=∀d,o=some d->∃u,v=some u/\At K ρ H d u
noncomputable abbrev AtS (K:Fg) (ρ:Loc) (H:Hp):DS->St->Prop:=Paired (AtO K ρ H)
theorem AtS.ext {ρ ρ':Loc}{H H':Hp}(x:Ext ρ H ρ' H'){σ:DS}{τ:St}(h:AtS K ρ H σ τ):AtS K ρ' H' σ τ:=Paired.mapP h fun o v z d e=>by
 obtain⟨u,e1,a⟩:=z d e;exact⟨u,e1,a.ext x⟩
theorem AtS.get {ρ:Loc}{H:Hp}:∀{σ:DS} {τ:St} {i:Nat} {d:D},AtS K ρ H σ τ->σ[i]?=some (some d)->∃u,τ[i]?=some (some u)/\At K ρ H d u
 | _,_,_,_,.nil,e=>by simp at e
 | _,_,0,_,.cons a _,e=>by
  simp at e;subst e
  obtain⟨u,e1,h⟩:=a _ rfl;exact⟨u,by simp[e1],h⟩
 | _,_,i+1,d,.cons _ t,e=>by
  obtain⟨u,h1,h2⟩:=AtS.get (i:=i) (d:=d) t (by simpa using e);exact⟨u,by simpa using h1,h2⟩
theorem AtS.set {ρ:Loc}{H:Hp}{d:D}{v:V}(a:At K ρ H d v):∀{σ:DS} {τ:St} (i:Nat),AtS K ρ H σ τ->AtS K ρ H (σ.set i (some d)) (τ.set i (some v))
 | _,_,_,.nil=>.nil
 | _,_,0,.cons _ t=>.cons (fun d' e=>by cases e;exact⟨v,rfl,a⟩) t
 | _,_,i+1,.cons q t=>.cons q (AtS.set a i t)
end
noncomputable def tD (K:Fg) (f:SE):TE:=fun τ H Q=>∃ρ σ st v st',AtS K ρ H σ τ/\Rep K ρ st H/\f σ st=.ok v st'/\∀ρ' H' u,Ext ρ H ρ' H'->Rep K ρ' st' H'->At K ρ' H' v u->Q u H'
noncomputable def tDT (K:Fg) (f:ST):TT:=fun τ H Q=>∃ρ σ st v st',AtS K ρ H σ τ/\Rep K ρ st H/\f σ st=.ok v st'/\∀ρ' H',Ext ρ H ρ' H'->Rep K ρ' st' H'->Q v H'
noncomputable def tDA (K:Fg) (f:SA):TA:=fun τ H Q=>∃ρ σ st v st',AtS K ρ H σ τ/\Rep K ρ st H/\f σ st=.ok v st'/\∀ρ' H' u,Ext ρ H ρ' H'->Rep K ρ' st' H'->AtAll K ρ' H' v u->Q u H'
noncomputable def FlOk (K:Fg) (ρ:Loc) (H:Hp) (st':Store) (E:Ends):Fl->Prop
 | .nx σ=>∀ρ' H' τ,Ext ρ H ρ' H'->Rep K ρ' st' H'->AtS K ρ' H' σ τ->E.nx τ H'
 | .brk σ=>∀ρ' H' τ,Ext ρ H ρ' H'->Rep K ρ' st' H'->AtS K ρ' H' σ τ->E.bk τ H'
 | .ct σ=>∀ρ' H' τ,Ext ρ H ρ' H'->Rep K ρ' st' H'->AtS K ρ' H' σ τ->E.ct τ H'
 | .ret v=>∀ρ' H' u,Ext ρ H ρ' H'->Rep K ρ' st' H'->At K ρ' H' v u->E.rt u H'
theorem FlOk.ext {K:Fg}{ρ ρ1:Loc}{H H1:Hp}{st':Store}{E:Ends}{fl:Fl}(x:Ext ρ H ρ1 H1)(h:FlOk K ρ H st' E fl):FlOk K ρ1 H1 st' E fl:=by
 cases fl with
 | nx σ=>exact fun ρ' H' τ e=>h ρ' H' τ (x.trans e)
 | brk σ=>exact fun ρ' H' τ e=>h ρ' H' τ (x.trans e)
 | ct σ=>exact fun ρ' H' τ e=>h ρ' H' τ (x.trans e)
 | ret v=>exact fun ρ' H' τ e=>h ρ' H' τ (x.trans e)
noncomputable def tDS (K:Fg) (f:SS):TS:=fun E τ H=>∃ρ σ st fl st',AtS K ρ H σ τ/\Rep K ρ st H/\f σ st=.ok fl st'/\FlOk K ρ H st' E fl
noncomputable abbrev DE (X:Cx) (e:Expr) (f:SE):Prop:=PE X e (tD X.K f)
noncomputable abbrev DT (X:Cx) (e:Expr) (f:ST):Prop:=PT X e (tDT X.K f)
noncomputable abbrev DW (X:Cx) (e:Expr) (f:ST):Prop:=PW X e (tDT X.K f)
noncomputable abbrev DA (X:Cx) (es:List Expr) (f:SA):Prop:=PA X es (tDA X.K f)
noncomputable abbrev DSt (X:Cx) (s:Stmt) (f:SS):Prop:=PS X s (tDS X.K f)
noncomputable abbrev DSs (X:Cx) (s:List Stmt) (f:SS):Prop:=PSs X s (tDS X.K f)
section
variable {X:Cx}{e:Expr}{es:List Expr}{s:Stmt}{ss:List Stmt}
theorem zef {t t':TE}(h:PE X e t)(k:∀σ H Q,t' σ H Q->t σ H Q):PE X e t':=fun aU s σ H Q I q=>h aU s σ H Q I (k _ _ _ q)
theorem zxo {t t':TT}(h:PT X e t)(k:∀σ H Q,t' σ H Q->t σ H Q):PT X e t':=fun aU s σ H Q I q=>h aU s σ H Q I (k _ _ _ q)
theorem pw_to {t t':TT}(h:PW X e t)(k:∀σ H Q,t' σ H Q->t σ H Q):PW X e t':=fun wh aU s σ H Q I q=>h wh aU s σ H Q I (k _ _ _ q)
theorem zbhd {t t':TA}(h:PA X es t)(k:∀σ H Q,t' σ H Q->t σ H Q):PA X es t':=fun pos aU s σ H Q I q=>h pos aU s σ H Q I (k _ _ _ q)
theorem zmt {t t':TS}(h:PS X s t)(k:∀E σ H,t' E σ H->t E σ H):PS X s t':=fun aU z σ H E I q=>h aU z σ H E I (k _ _ _ q)
theorem zxq {t t':TS}(h:PSs X ss t)(k:∀E σ H,t' E σ H->t E σ H):PSs X ss t':=fun aU z σ H E I q=>h aU z σ H E I (k _ _ _ q)
end
noncomputable def aA (i:Nat):SE:=fun σ st=>match σ[i]? with
 | some (some d)=>.ok d st
 | _=>.stuck
noncomputable def eC (d:D):SE:=fun _ st=>.ok d st
section
variable {X:Cx}
theorem zbiv {e:Expr}{i:Nat}(h:PE X e (tVar i)):DE X e (aA i):=zef h fun τ H Q hq0=>by
 obtain⟨ρ,σ,st,v,st',a,r,e,q⟩:=hq0;unfold aA at e;split at e
 ·rename_i d hd;cases e;obtain⟨u,e1,e2⟩:=a.get hd;exact⟨u,e1,q ρ H u (.refl _ _) r e2⟩
 ·cases e
theorem zbaw {e:Expr}{v:V}{d:D}(h:PE X e (tC v))(k:∀ρ H,At X.K ρ H d v):DE X e (eC d):=zef h fun τ H Q hq0=>by
 obtain⟨ρ,σ,st,v,st',a,r,e,q⟩:=hq0;cases e;exact q ρ H _ (.refl _ _) r (k _ _)
theorem zbjd {i j pos}:DE X (.Constant (.int i) j pos) (eC (.int i)):=zbaw zbdn fun _ _=>.int i
theorem d_bl {b j pos}:DE X (.Constant (.bool b) j pos) (eC (.bl b)):=zbaw zbhz fun _ _=>.bl b
theorem zbja {j pos}:DE X (.Constant .none j pos) (eC .non):=zbaw zbdm fun _ _=>.non
theorem zbix {x j pos}:DE X (.Constant (.str x) j pos) (eC (.str x)):=zbaw zbdj fun _ _=>.str x
end
noncomputable def aR (g:D->D->Store->Res D) (f f':SE):SE:=fun σ st=>(f σ st).bind fun x st1=>(f' σ st1).bind fun y st2=>g x y st2
noncomputable def eUn (g:D->Store->Res D) (f:SE):SE:=fun σ st=>(f σ st).bind fun x st1=>g x st1
noncomputable def OpD (K:Fg) (g:D->D->Store->Res D) (r:R2):Prop :=
 ∀ρ H st x y u v z st' (Q:VK),Rep K ρ st H->At K ρ H x u->At K ρ H y v->g x y st=.ok z st'->(∀ρ' H' w,Ext ρ H ρ' H'->Rep K ρ' st' H'->At K ρ' H' z w->Q w H')->r u v H Q
theorem zyn {K:Fg}{g:D->D->Store->Res D}{r:R2}(hr:OpD K g r){f f':SE}:∀τ H Q,tD K (aR g f f') τ H Q->tOp r (tD K f) (tD K f') τ H Q:=fun τ H Q hq0=>by
 obtain⟨ρ,σ,st,v,st',a,rp,e,q⟩:=hq0;obtain⟨x,st1,e1,e⟩:=za e;obtain⟨y,st2,e2,e⟩:=za e;refine⟨ρ,σ,st,x,st1,a,rp,e1,fun ρ1 H1 u x1 rp1 a1=>?_⟩;refine⟨ρ1,σ,st1,y,st2,a.ext x1,rp1,e2,fun ρ2 H2 w x2 rp2 a2=>?_⟩;exact hr ρ2 H2 st2 x y u w v st' Q rp2 (a1.ext x2) a2 e fun ρ' H' z x3 rp3 a3=>q ρ' H' z (x1.trans (x2.trans x3)) rp3 a3
section
variable {X:Cx}{a b c:Expr}{f f' f'':SE}{pos:Pos}
theorem d_op {op:Operator}{r:R2}{g:D->D->Store->Res D}(ho:OpR X (binaryOp op) r)(hr:OpD X.K g r)(ha:DE X a f)(hb:DE X b f'):DE X (.BinOp a op b pos) (aR g f f'):=zef (zbhx ho ha hb) (zyn hr)
theorem zbjf {op:CmpOp}{r:R2}{g:D->D->Store->Res D}(ho:OpR X (compareOp op) r)(hr:OpD X.K g r)(ha:DE X a f)(hb:DE X b f')(hm:behindInMarks op b=false):DE X (.Compare a [op] [b] pos) (aR g f f'):=zef (zyj ho ha hb hm) (zyn hr)
noncomputable def eB (f:SE):ST:=fun σ st=>(f σ st).bind fun v st1=>match v with
 | .bl b=>.ok b st1
 | _=>.stuck
theorem eB_t {K:Fg}{f:SE}:∀τ H Q,tDT K (eB f) τ H Q->tD K f τ H fun x H1=>∃c,x=.bl c/\Q c H1:=fun τ H Q hq0=>by
 obtain⟨ρ,σ,st,v,st',a,rp,e,q⟩:=hq0;obtain⟨x,st1,e1,e⟩:=za e;refine⟨ρ,σ,st,x,st1,a,rp,e1,fun ρ1 H1 u x1 rp1 a1=>?_⟩;cases x<;>try (cases e;done)
 cases e;cases a1;exact⟨_,rfl,q _ _ x1 rp1⟩
theorem zbfi {op:CmpOp}{r:R2}{g:D->D->Store->Res D}(ho:OpR X (compareOp op) r)(hr:OpD X.K g r)(ha:DE X a f)(hb:DE X b f')(hm:behindInMarks op b=false):DT X (.Compare a [op] [b] pos) (eB (aR g f f')) :=
 zxo (zxp ho ha hb hm) fun τ H Q h=>zyn hr _ _ _ (eB_t _ _ _ h)
noncomputable def eChain (g g':D->D->Store->Res D) (f f' f'':SE):SE:=fun σ st=>(f σ st).bind fun x st1=>(f' σ st1).bind fun y st2=>(g x y st2).bind fun z st3=>match z with
 | .bl true=>(f'' σ st3).bind fun w st4=>g' y w st4
 | .bl false=>.ok (.bl false) st3
 | _=>.stuck
theorem zbbg {K:Fg}{g g':D->D->Store->Res D}{r r':R2}(hr:OpD K g r)(hr':OpD K g' r'){f f' f'':SE}:∀τ H Q,tD K (eChain g g' f f' f'') τ H Q->tChain r r' (tD K f) (tD K f') (tD K f'') τ H Q:=fun τ H Q hq0=>by
 obtain⟨ρ,σ,st,v,st',a,rp,e,q⟩:=hq0;obtain⟨x,st1,e1,e⟩:=za e;obtain⟨y,st2,e2,e⟩:=za e;obtain⟨z,st3,e3,e⟩:=za e;refine⟨ρ,σ,st,x,st1,a,rp,e1,fun ρ1 H1 u x1 rp1 a1=>?_⟩;refine⟨ρ1,σ,st1,y,st2,a.ext x1,rp1,e2,fun ρ2 H2 w x2 rp2 a2=>?_⟩;refine hr ρ2 H2 st2 x y u w z st3 _ rp2 (a1.ext x2) a2 e3 fun ρ3 H3 zz x3 rp3 a3=>?_
 have X3:=x1.trans (x2.trans x3);cases z<;>try (cases e;done)
 rename_i b;cases a3;refine⟨b,rfl,?_⟩;cases b with
 | true =>
  obtain⟨t,st4,e4,e⟩:=za e;rw[if_pos rfl];refine⟨ρ3,σ,st3,t,st4,a.ext X3,rp3,e4,fun ρ4 H4 tt x4 rp4 a4=>?_⟩;exact hr' ρ4 H4 st4 y t w tt v st' Q rp4 (a2.ext (x3.trans x4)) a4 e fun ρ' H' zz x5 rp5 a5=>q ρ' H' zz (X3.trans (x4.trans x5)) rp5 a5
 | false =>
  cases e;rw[if_neg (by decide)];exact q ρ3 H3 _ X3 rp3 (.bl false)
end
end Dd
namespace Dd
open PySem L2
section
variable {K:Fg}{ρ:Loc}{st:Store}{H:Hp}{p a:Addr}{o:HO}{n:Nat}
theorem Ext.new (hp:H p=none)(o:HO):Ext ρ H ρ (upd H p o):=⟨xbf _,fun _ _ _ e=>e,fun b u e m=>⟨by rw[zr (zj e hp)];exact e,m⟩,rfl,fun b ob u e=>by rw[zr (zj e hp)];exact e⟩
theorem zhd {vs:List V}(h:H a=some (.lst vs)):∀ob u,H a≠some (.frz ob u):=fun ob u z=>by rw[h] at z;cases z
theorem zkr {vs:List (List Key×V)}(h:H a=some (.dT vs)):∀ob u,H a≠some (.frz ob u):=fun ob u z=>by rw[h] at z;cases z
theorem Ext.wr (h:ρ.m[n]?=some (some a))(hz:∀ob u,H a≠some (.frz ob u))(o:HO):Ext ρ H ρ (upd H a o):=⟨xbf _,fun _ _ _ e=>e,fun b u e m=>⟨by
 rw[zr]
 ·exact e
 ·rintro rfl
  exact m (xcc h),m⟩,rfl,fun b ob u e=>by
 rw[zr]
 ·exact e
 ·rintro rfl
  exact hz _ _ e⟩
theorem OAt.has {x:O}(h:OAt K ρ H x a):∃u,H a=some u:=by
 cases x with
 | lst xs=>obtain⟨vs,e,_⟩:=h;exact⟨_,e⟩
 | dT kvs=>obtain⟨vs,e,_⟩:=h;exact⟨_,e⟩
 | fT kvs=>obtain⟨vs,ob,e,_⟩:=h;exact⟨_,e⟩
 | dI kvs=>obtain⟨vs,e,_⟩:=h;exact⟨_,e⟩
 | dead=>exact h.elim
 | tab=>obtain⟨_,ps,e,_⟩:=h;exact⟨_,e⟩
theorem OAt.ext {ρ':Loc}{H':Hp}{x:O}(e:Ext ρ H ρ' H')(same:H' a=H a)(h:OAt K ρ H x a):OAt K ρ' H' x a:=by
 cases x with
 | lst xs=>obtain⟨vs,q,r⟩:=h;exact⟨vs,by rw[same];exact q,r.ext e⟩
 | dT kvs=>obtain⟨vs,q,r⟩:=h;exact⟨vs,by rw[same];exact q,r.ext e⟩
 | fT kvs=>obtain⟨vs,ob,q,r⟩:=h;exact⟨vs,ob,by rw[same];exact q,r.ext e⟩
 | dI kvs=>obtain⟨vs,q,r⟩:=h;exact⟨vs,by rw[same];exact q,r.ext e⟩
 | dead=>exact h.elim
 | tab=>obtain⟨c,ps,q,r⟩:=h;exact⟨c,ps,by rw[same];exact q,r.map e.frz⟩
theorem Rep.has (r:Rep K ρ st H)(h:ρ.m[n]?=some (some a)):∃x,st[n]?=some x/\OAt K ρ H x a:=by
 have hn:n < st.length:=by rw[← r.len];exact(xbk.mp h).1
 exact⟨st[n],xbi hn,r.obj n a _ h (xbi hn)⟩
theorem Rep.new (r:Rep K ρ st H)(hp:H p=none)(o:HO):Rep K ρ st (upd H p o):=⟨r.len,r.inj,fun m b x e1 e2=>by
 have q:=r.obj m b x e1 e2;obtain⟨u,hu⟩:=q.has;exact q.ext (Ext.new hp o) (zr (zj hu hp)),fun b hb=>by
 obtain⟨⟨u,hu⟩,n⟩:=r.gh b hb
 exact⟨⟨u,by rw[zr (zj hu hp)];exact hu⟩,n⟩,r.live⟩
theorem Rep.wr (r:Rep K ρ st H)(h:ρ.m[n]?=some (some a))(hz:∀ob u,H a≠some (.frz ob u)){x:O}{o:HO}(q:OAt K ρ (upd H a o) x a):Rep K ρ (st.set n x) (upd H a o):=⟨by rw[r.len,xep],r.inj,fun m b y e1 e2=>by
 by_cases hm:m=n
 ·subst hm;have hb:b=a:=by rw[h] at e1;exact(xck (xck e1)).symm
  subst hb;have hl:m < st.length:=by rw[← r.len];exact(xbk.mp h).1
  rw[xdv hl] at e2;cases e2;exact q
 ·rw[xcr (xci hm)] at e2;refine(r.obj m b y e1 e2).ext (Ext.wr h hz o) (zr fun z=>hm ?_);subst z;exact r.inj m n b e1 h,fun b hb=>by
 obtain⟨⟨u,hu⟩,n1⟩:=r.gh b hb;refine⟨⟨u,?_⟩,n1⟩;rw[zr]
 ·exact hu
 ·rintro rfl;exact n1 (xcc h),fun m y e ne=>by
 by_cases hm:m=n
 ·subst hm;exact⟨a,h⟩
 ·rw[xcr (xci hm)] at e
  exact r.live m y e ne⟩
theorem Rep.alloc (r:Rep K ρ st H)(hp:H p=none){x:O}{o:HO}(q:Ext ρ H ⟨ρ.m++[some p],ρ.g⟩ (upd H p o)->OAt K ⟨ρ.m++[some p],ρ.g⟩ (upd H p o) x p):Ext ρ H ⟨ρ.m++[some p],ρ.g⟩ (upd H p o)/\Rep K ⟨ρ.m++[some p],ρ.g⟩ (st++[x]) (upd H p o):=by
 have hn:∀(m:Nat) (b:Addr),(ρ.m++[some p])[m]?=some (some b)->(m < ρ.m.length/\ρ.m[m]?=some (some b))\/(m=ρ.m.length/\b=p):=fun m b e=>by
  rcases xfe m ρ.m.length with z | z
  ·rw[xbv z] at e;exact .inl ⟨z,e⟩
  ·rw[xco z] at e;have z2:m - ρ.m.length=0:=by
    have:=(xbk.mp e).1;simp at this;lia
   rw[z2] at e;simp at e;exact .inr ⟨by lia,e.symm⟩
 have nl:∀(m:Nat),ρ.m[m]?≠some (some p):=fun m e=>by
  obtain⟨x,_,q⟩:=r.has e;obtain⟨u,hu⟩:=q.has;rw[hp] at hu;cases hu
 have E:Ext ρ H ⟨ρ.m++[some p],ρ.g⟩ (upd H p o):=⟨by rw[xbp];lia,fun m b h e=>by
   rw[xbv h] at e;exact e,fun b u e m=>⟨by rw[zr (zj e hp)];exact e,fun z=>by
   rcases xbs.mp z with z | z
   ·exact m z
   ·simp at z;subst z;rw[hp] at e;cases e⟩,rfl,fun b ob u e=>by rw[zr (zj e hp)];exact e⟩
 refine⟨E,⟨by rw[xbp,xbp,r.len];rfl,fun m k b e1 e2=>?_,fun m b y e1 e2=>?_,fun b hb=>?_,fun m y e ne=>?_⟩⟩
 ·rcases hn m b e1 with⟨h1,q1⟩ | ⟨h1,rfl⟩
  ·rcases hn k b e2 with⟨h2,q2⟩ | ⟨h2,rfl⟩
   ·exact r.inj m k b q1 q2
   ·exact absurd q1 (nl m)
  ·rcases hn k b e2 with⟨h2,q2⟩ | ⟨h2,_⟩
   ·exact absurd q2 (nl k)
   ·lia
 ·rcases hn m b e1 with⟨h1,q1⟩ | ⟨h1,rfl⟩
  ·rw[xbv (by rw[← r.len];exact h1)] at e2;have q:=r.obj m b y q1 e2;obtain⟨u,hu⟩:=q.has;exact q.ext E (zr (zj hu hp))
  ·rw[h1,r.len,xco (xbf _)] at e2;simp at e2;subst e2;exact q E
 ·obtain⟨⟨u,hu⟩,n1⟩:=r.gh b hb;refine⟨⟨u,by rw[zr (zj hu hp)];exact hu⟩,fun z=>?_⟩;rcases xbs.mp z with z | z
  ·exact n1 z
  ·simp at z;subst z;rw[hp] at hu;cases hu
 ·rcases xfe m st.length with z | z
  ·rw[xbv z] at e;obtain⟨b,hb⟩:=r.live m y e ne;exact⟨b,by rw[xbv (by rw[r.len];exact z)];exact hb⟩
  ·have z2:=(xbk.mp e).1;simp at z2;have z3:m=ρ.m.length:=by rw[r.len];lia
   exact⟨p,by rw[z3,xco (xbf _)];simp⟩
theorem Rep.kill (r:Rep K ρ st H)(h:n < ρ.m.length):Ext ρ H ⟨ρ.m.set n none,ρ.g⟩ H/\Rep K ⟨ρ.m.set n none,ρ.g⟩ (st.set n .dead) H:=by
 have hn:∀(m:Nat) (b:Addr),(ρ.m.set n none)[m]?=some (some b)->m≠n/\ρ.m[m]?=some (some b):=fun m b e=>by
  by_cases z:m=n
  ·subst z;rw[xdv h] at e;simp at e
  ·rw[xcr (xci z)] at e;exact⟨z,e⟩
 have E:Ext ρ H ⟨ρ.m.set n none,ρ.g⟩ H:=⟨by rw[xep];exact xbf _,fun m b _ e=>(hn m b e).2,fun b o e m=>⟨e,fun z=>by
  obtain⟨i,hi,e2⟩:=xdz z;have:(ρ.m.set n none)[i]?=some (some b):=by rw[xbi hi,e2]
  exact m (xcc (hn i b this).2)⟩,rfl,fun _ _ _ e=>e⟩
 refine⟨E,⟨by rw[xep,xep,r.len],fun m k b e1 e2=>r.inj m k b (hn m b e1).2 (hn k b e2).2,fun m b y e1 e2=>?_,fun b hb=>⟨(r.gh b hb).1,fun z=>?_⟩,fun m y e ne=>?_⟩⟩
 rotate_left
 ·obtain⟨i,hi,e2⟩:=xdz z;have:(ρ.m.set n none)[i]?=some (some b):=by rw[xbi hi,e2]
  exact(r.gh b hb).2 (xcc (hn i b this).2)
 ·have z:m≠n:=by
   rintro rfl;rw[xdv (by rw[← r.len];exact h)] at e;cases e;exact ne rfl
  rw[xcr (xci z)] at e;obtain⟨b,hb⟩:=r.live m y e ne;exact⟨b,by rw[xcr (xci z)];exact hb⟩
 obtain⟨z,q⟩:=hn m b e1;rw[xcr (xci z)] at e2;exact(r.obj m b y q e2).ext E rfl
theorem zhb (r:Rep K ρ st H)(hp:H p=none):Out ρ p:=by
 refine⟨fun z=>?_,fun z=>?_⟩
 ·obtain⟨i,hi,e⟩:=xdz z;obtain⟨x,_,q⟩:=r.has (n:=i) (a:=p) (by rw[xbi hi,e]);obtain⟨u,hu⟩:=q.has;rw[hp] at hu;cases hu
 ·obtain⟨⟨u,hu⟩,_⟩:=r.gh p z;rw[hp] at hu;cases hu
theorem At.newT (r:Rep K ρ st H)(hp:H p=none){ds:List D}{vs:List V}(h:AtAll K ρ H ds vs):At K ρ (upd H p (.tup vs)) (.tup ds) (.ref p):=.tup zba (zhb r hp) (h.ext (Ext.new hp _))
theorem At.newL (r:Rep K ρ st H)(hp:H p=none){ds:List D}{vs:List V}(h:AtAll K ρ H ds vs):At K ρ (upd H p (.lst vs)) (.lst ds) (.ref p):=.lst zba (zhb r hp) (h.ext (Ext.new hp _))
end
noncomputable def eAnd (f f':SE):SE:=fun σ st=>(f σ st).bind fun v st1=>match v with
 | .bl true=>f' σ st1
 | .bl false=>.ok (.bl false) st1
 | _=>.stuck
noncomputable def eOr (f f':SE):SE:=fun σ st=>(f σ st).bind fun v st1=>match v with
 | .bl true=>.ok (.bl true) st1
 | .bl false=>f' σ st1
 | _=>.stuck
noncomputable def eNot (f:SE):SE:=fun σ st=>(f σ st).bind fun v st1=>match v with
 | .bl b=>.ok (.bl (!b)) st1
 | _=>.stuck
noncomputable def bAnd (f f':ST):ST:=fun σ st=>(f σ st).bind fun b st1=>if b=true then f' σ st1 else .ok false st1
noncomputable def bOr (f f':ST):ST:=fun σ st=>(f σ st).bind fun b st1=>if b=true then .ok true st1 else f' σ st1
noncomputable def bNot (f:ST):ST:=fun σ st=>(f σ st).bind fun b st1=>.ok (!b) st1
noncomputable def eIf (c:ST) (f f':SE):SE:=fun σ st=>(c σ st).bind fun b st1=>if b=true then f σ st1 else f' σ st1
section
variable {X:Cx}{a b:Expr}{rest:List Expr}{f f':SE}{t t':ST}{pos:Pos}
theorem zbiy {op}(h:DE X a f):DE X (.BoolOp op [a] pos) f:=zbdk h
theorem zbjg (ha:DE X a f)(hb:DE X (.BoolOp .And (b::rest) pos) f'):DE X (.BoolOp .And (a::b::rest) pos) (eAnd f f'):=zef (zbdo ha hb) fun τ H Q hq0=>by
 obtain⟨ρ,σ,st,v,st',at',rp,e,q⟩:=hq0;obtain⟨x,st1,e1,e⟩:=za e;refine⟨ρ,σ,st,x,st1,at',rp,e1,fun ρ1 H1 u x1 rp1 a1=>?_⟩;cases x<;>try (cases e;done)
 rename_i bb;cases a1;refine⟨bb,rfl,?_⟩;cases bb with
 | true =>
  rw[if_pos rfl];exact⟨ρ1,σ,st1,v,st',at'.ext x1,rp1,e,fun ρ' H' u x2=>q ρ' H' u (x1.trans x2)⟩
 | false =>
  rw[if_neg (by decide)];cases e;exact q _ _ _ x1 rp1 (.bl false)
theorem zbiz (ha:DE X a f):DE X (.UnaryOp .Not a pos) (eNot f):=zef (zbdl ha) fun τ H Q hq0=>by
 obtain⟨ρ,σ,st,v,st',at',rp,e,q⟩:=hq0;obtain⟨x,st1,e1,e⟩:=za e;refine⟨ρ,σ,st,x,st1,at',rp,e1,fun ρ1 H1 u x1 rp1 a1=>?_⟩;cases x<;>try (cases e;done)
 rename_i bb;cases a1;cases e;exact⟨bb,rfl,q _ _ _ x1 rp1 (.bl _)⟩
theorem zbfe {op}(h:DT X a t)(hop:op=.And\/op=.Or):DW X (.BoolOp op [a] pos) t:=by
 rcases hop with rfl | rfl
 ·exact pw_and1 h
 ·exact pw_or1 h
theorem zbff (ha:DT X a t)(hb:DW X (.BoolOp .And (b::rest) pos) t'):DW X (.BoolOp .And (a::b::rest) pos) (bAnd t t'):=pw_to (pw_and ha hb) fun τ H Q hq0=>by
 obtain⟨ρ,σ,st,v,st',at',rp,e,q⟩:=hq0;obtain⟨x,st1,e1,e⟩:=za e;refine⟨ρ,σ,st,x,st1,at',rp,e1,fun ρ1 H1 x1 rp1=>?_⟩;cases x with
 | true=>exact iteT ⟨ρ1,σ,st1,v,st',at'.ext x1,rp1,e,fun ρ' H' x2=>q ρ' H' (x1.trans x2)⟩
 | false=>cases e;exact iteF (q _ _ x1 rp1)
theorem zbir (ha:DT X a t)(hb:DW X (.BoolOp .Or (b::rest) pos) t'):DW X (.BoolOp .Or (a::b::rest) pos) (bOr t t'):=pw_to (pw_or ha hb) fun τ H Q hq0=>by
 obtain⟨ρ,σ,st,v,st',at',rp,e,q⟩:=hq0;obtain⟨x,st1,e1,e⟩:=za e;refine⟨ρ,σ,st,x,st1,at',rp,e1,fun ρ1 H1 x1 rp1=>?_⟩;cases x with
 | false=>exact iteF ⟨ρ1,σ,st1,v,st',at'.ext x1,rp1,e,fun ρ' H' x2=>q ρ' H' (x1.trans x2)⟩
 | true=>cases e;exact iteT (q _ _ x1 rp1)
theorem zbfh (ha:DT X a t):DT X (.UnaryOp .Not a pos) (bNot t):=zxo (zbcw ha) fun τ H Q hq0=>by
 obtain⟨ρ,σ,st,v,st',at',rp,e,q⟩:=hq0;obtain⟨x,st1,e1,e⟩:=za e;cases e;exact⟨ρ,σ,st,x,_,at',rp,e1,fun ρ1 H1 x1 rp1=>q _ _ x1 rp1⟩
theorem d_if {c:Expr}(hc:DT X c t)(ha:DE X a f)(hb:DE X b f'):DE X (.IfExp c a b pos) (eIf t f f'):=zef (zun hc ha hb) fun τ H Q hq0=>by
 obtain⟨ρ,σ,st,v,st',at',rp,e,q⟩:=hq0;obtain⟨x,st1,e1,e⟩:=za e;refine⟨ρ,σ,st,x,st1,at',rp,e1,fun ρ1 H1 x1 rp1=>?_⟩;cases x with
 | true=>exact iteT ⟨ρ1,σ,st1,v,st',at'.ext x1,rp1,e,fun ρ' H' u x2=>q ρ' H' u (x1.trans x2)⟩
 | false=>exact iteF ⟨ρ1,σ,st1,v,st',at'.ext x1,rp1,e,fun ρ' H' u x2=>q ρ' H' u (x1.trans x2)⟩
end
noncomputable def aC:SA:=fun _ st=>.ok [] st
noncomputable def aB (f:SE) (g:SA):SA:=fun σ st=>(f σ st).bind fun x st1=>(g σ st1).bind fun xs st2=>.ok (x::xs) st2
noncomputable def aQ (g:SA):SE:=fun σ st=>(g σ st).bind fun xs st1=>if xs.length<=sizeLine then .ok (.tup xs) st1 else .stuck
noncomputable def eLst (g:SA):SE:=fun σ st=>(g σ st).bind fun xs st1=>if xs.length<=sizeLine then .ok (.lst xs) st1 else .stuck
noncomputable def eLstM (g:SA):SE:=fun σ st=>(g σ st).bind fun xs st1=>if xs.length<=sizeLine then .ok (.ref st1.length) (st1++[.lst xs]) else .stuck
section
variable {X:Cx}{e:Expr}{es:List Expr}{f:SE}{g:SA}{pos:Pos}
theorem zbft:DA X [] aC:=zbhd zbdp fun τ H Q hq0=>by
 obtain⟨ρ,σ,st,v,st',a,rp,e,q⟩:=hq0;cases e;exact q _ _ _ (.refl _ _) rp .nil
theorem zbap (ha:DE X e f)(hr:DA X es g)(hs:starEach (e::es) X.env=(false,eval e X.env)::starEach es X.env:=by rfl):DA X (e::es) (aB f g):=zbhd (zyl ha hr hs) fun τ H Q hq0=>by
 obtain⟨ρ,σ,st,v,st',a,rp,e,q⟩:=hq0;obtain⟨x,st1,e1,e⟩:=za e;obtain⟨y,st2,e2,e⟩:=za e;cases e;refine⟨ρ,σ,st,x,st1,a,rp,e1,fun ρ1 H1 u x1 rp1 a1=>?_⟩;exact⟨ρ1,σ,st1,y,_,a.ext x1,rp1,e2,fun ρ2 H2 w x2 rp2 a2=>q _ _ _ (x1.trans x2) rp2 (.cons (a1.ext x2) a2)⟩
theorem zbiw {x1}(h:DA X es g):DE X (.Tuple es x1 pos) (aQ g):=zef (zbdi h) fun τ H Q hq0=>by
 obtain⟨ρ,σ,st,v,st',a,rp,e,q⟩:=hq0;obtain⟨x,st1,e1,e⟩:=za e;split at e
 ·rename_i hl;cases e;refine⟨ρ,σ,st,x,_,a,rp,e1,fun ρ1 H1 u x1 rp1 a1=>⟨by rw[a1.length];exact hl,fun p hp=>?_⟩⟩;exact q ρ1 _ _ (x1.trans (Ext.new hp _)) (rp1.new hp _) (.newT rp1 hp a1)
 ·cases e
theorem zbjc (h:DA X es g):DE X (.List es pos) (eLst g):=zef (zyg h) fun τ H Q hq0=>by
 obtain⟨ρ,σ,st,v,st',a,rp,e,q⟩:=hq0;obtain⟨x,st1,e1,e⟩:=za e;split at e
 ·rename_i hl;cases e;refine⟨ρ,σ,st,x,_,a,rp,e1,fun ρ1 H1 u x1 rp1 a1=>⟨by rw[a1.length];exact hl,fun p hp=>?_⟩⟩;exact q ρ1 _ _ (x1.trans (Ext.new hp _)) (rp1.new hp _) (.newL rp1 hp a1)
 ·cases e
theorem At.last {K:Fg}{ρ:Loc}{H:Hp}{p:Addr}{n:Nat}(h:n=ρ.m.length):At K ⟨ρ.m++[some p],ρ.g⟩ H (.ref n) (.ref p):=by
 subst h;refine .ref (by simp) fun a e=>?_
 simp at e;rw[e]
theorem zbfx (h:DA X es g):DE X (.List es pos) (eLstM g):=zef (zyg h) fun τ H Q hq0=>by
 obtain⟨ρ,σ,st,v,st',a,rp,e,q⟩:=hq0;obtain⟨x,st1,e1,e⟩:=za e;split at e
 ·rename_i hl;cases e;refine⟨ρ,σ,st,x,_,a,rp,e1,fun ρ1 H1 u x1 rp1 a1=>⟨by rw[a1.length];exact hl,fun p hp=>?_⟩⟩;obtain⟨E,R⟩:=rp1.alloc hp (x:=.lst x) (o:=.lst u) fun E=>⟨u,zba,a1.ext E⟩
  exact q _ _ _ (x1.trans E) R (.last rp1.len.symm)
 ·cases e
end
noncomputable def asL (st:Store):D->Option (List D)
 | .lst xs=>some xs
 | .ref n=>match st[n]? with
  | some (.lst xs)=>some xs
  | _=>none
 | _=>none
section
variable {K:Fg}{ρ:Loc}{st:Store}{H:Hp}{d:D}{u:V}{xs:List D}
theorem zga (rp:Rep K ρ st H){n:Nat}{o:O}(a:At K ρ H (.ref n) u)(e:st[n]?=some o)(hd:o≠.dead):∃p,u=.ref p/\ρ.m[n]?=some (some p)/\OAt K ρ H o p:=by
 cases a with
 | ref h1 h2 =>
  obtain⟨p,hp⟩:=rp.live n o e hd;exact⟨p,h2 p hp,hp,rp.obj n p o hp e⟩
theorem zgg (rp:Rep K ρ st H)(a:At K ρ H d u)(e:asL st d=some xs):∃p vs,u=.ref p/\H p=some (.lst vs)/\AtAll K ρ H xs vs:=by
 cases d<;>try (cases e;done)
 ·rename_i n;unfold asL at e;dsimp only at e;split at e
  ·rename_i ys hys;cases e;obtain⟨p,rfl,hp,vs,q1,q2⟩:=zga rp a hys (by intro z;cases z);exact⟨p,vs,rfl,q1,q2⟩
  ·cases e
 ·cases e;cases a with
  | lst h1 h2 h3=>exact⟨_,_,rfl,h1,h3⟩
end
noncomputable def oI (C:Int->Int->Prop) [DecidableRel C] (h:Int->Int->D) (x y:D) (st:Store):Res D:=match x,y with
 | .int i,.int j=>if C i j then .ok (h i j) st else .stuck
 | _,_=>.stuck
theorem oI_D {K:Fg}{C:Int->Int->Prop}[DecidableRel C]{h:Int->Int->D}{g:Int->Int->V}(k:∀i j ρ H,At K ρ H (h i j) (g i j)):OpD K (oI C h) (rI C g):=fun ρ H st x y u v z st' Q rp a b e q=>by
 unfold oI at e;split at e
 ·cases a;cases b;split at e
  ·rename_i hc;cases e;exact⟨_,_,rfl,rfl,hc,q _ _ _ (.refl _ _) rp (k _ _ _ _)⟩
  ·cases e
 ·cases e
theorem zjs {K:Fg}{h:Int->Int->D}{g:Int->Int->V}(k:∀i j ρ H,At K ρ H (h i j) (g i j)):OpD K (oI (fun _ _=>True) h) (rI0 g):=fun ρ H st x y u v z st' Q rp a b e q=>by
 obtain⟨i,j,e1,e2,_,e3⟩:=oI_D (C:=fun _ _=>True) k ρ H st x y u v z st' Q rp a b e q;exact⟨i,j,e1,e2,e3⟩
noncomputable instance:DecidableRel CMul:=fun i j=>by unfold CMul;infer_instance
noncomputable instance:DecidableRel CDivP:=fun i j=>by unfold CDivP;infer_instance
noncomputable instance:DecidableRel CPow:=fun i j=>by unfold CPow;infer_instance
noncomputable abbrev oSub:=oI (fun _ _=>True) fun i j=>.int (i - j)
noncomputable abbrev oFdiv:=oI CDivP fun i j=>.int (i / j)
noncomputable abbrev oMod:=oI (fun _ j=>0 < j) fun i j=>.int (i % j)
noncomputable abbrev oPow:=oI CPow fun i j=>.int (i ^ j.toNat)
noncomputable abbrev oMulI:=oI CMul fun i j=>.int (i * j)
noncomputable def aM (x y:D) (st:Store):Res D:=match x,y with
 | .int i,.int j=>.ok (.int (i+j)) st
 | .tup a,.tup b=>if a.length+b.length<=sizeLine then .ok (.tup (a++b)) st else .stuck
 | .str a,.str b=>if a.length+b.length<=sizeLine then .ok (.str (a++b)) st else .stuck
 | x,y=>match asL st x,asL st y with
  | some a,some b=>if a.length+b.length<=sizeLine then .ok (.lst (a++b)) st else .stuck
  | _,_=>.stuck
noncomputable abbrev rAddA (K:Fg):R2:=fun x y H Q=>rI0 (fun i j=>.int (i+j)) x y H Q\/rCatA K x y H Q\/(∃i j,x=.str i/\y=.str j/\i.length+j.length<=sizeLine/\Q (.str (i++j)) H)\/rCat x y H Q
section
variable {X:Cx}
theorem zyr:OpR X (binaryOp .Add) (rAddA X.K):=zbdu.or (zyq.or (znw.or zbdt))
theorem zbdz {K:Fg}:OpD K aM (rAddA K):=fun ρ H st x y u v z st' Q rp a b e q=>by
 unfold aM at e;split at e
 ·cases a;cases b;cases e;exact .inl ⟨_,_,rfl,rfl,q _ _ _ (.refl _ _) rp (.int _)⟩
 ·rename_i ds es;split at e
  ·rename_i hl;cases e;refine .inr (.inl ?_);cases a with
   | tup h1 h2 h3 =>
    cases b with
    | tup k1 k2 k3 =>
     refine⟨_,_,_,_,rfl,rfl,SqT.of h1,SqT.of k1,by rw[h3.length,k3.length];exact hl,fun z=>?_,fun z1 z2=>?_,fun z1 z2 p hp=>?_⟩
     ·subst z;cases h3;exact q _ _ _ (.refl _ _) rp (.tup k1 k2 k3)
     ·subst z2;cases k3;rw[xef] at q;exact q _ _ _ (.refl _ _) rp (.tup h1 h2 h3)
     ·exact q _ _ _ (Ext.new hp _) (rp.new hp _) (.newT rp hp (h3.append k3))
  ·cases e
 ·split at e
  ·rename_i hl;cases a;cases b;cases e;exact .inr (.inr (.inl ⟨_,_,rfl,rfl,hl,q _ _ _ (.refl _ _) rp (.str _)⟩))
  ·cases e
 ·split at e
  ·rename_i h1 h2;split at e
   ·rename_i hl;cases e;obtain⟨p,vs,rfl,g1,g2⟩:=zgg rp a h1;obtain⟨p',ws,rfl,k1,k2⟩:=zgg rp b h2;exact .inr (.inr (.inr ⟨_,_,_,_,rfl,rfl,g1,k1,by rw[g2.length,k2.length];exact hl,fun t ht=>q _ _ _ (Ext.new ht _) (rp.new ht _) (.newL rp ht (g2.append k2))⟩))
   ·cases e
  ·cases e
end
noncomputable abbrev oLe:=oI (fun _ _=>True) fun i j=>.bl (decide (i<=j))
noncomputable abbrev oGt:=oI (fun _ _=>True) fun i j=>.bl (decide (j < i))
noncomputable abbrev oGe:=oI (fun _ _=>True) fun i j=>.bl (decide (j<=i))
mutual
noncomputable def toData:D->Option PyData
 | .non=>some .none
 | .bl b=>some (.bool b)
 | .int i=>some (.int i)
 | .str x=>some (.str x)
 | .tup ds=>(toDatas ds).map .tuple
 | .lst ds=>(toDatas ds).map .list
 | _=>none
noncomputable def toDatas:List D->Option (List PyData)
 | []=>some []
 | d::ds=>(toData d).bind fun x=>(toDatas ds).map fun xs=>x::xs
end
mutual
theorem zte {K:Fg}{ρ:Loc}{H:Hp}:∀{d:D} {v:V} {p:PyData},At K ρ H d v->toData d=some p->DAt K H v p
 | _,_,_,.non,e=>by cases e;exact .non
 | _,_,_,.bl b,e=>by cases e;exact .bl b
 | _,_,_,.int i,e=>by cases e;exact .int i
 | _,_,_,.str x,e=>by cases e;exact .str x
 | _,_,_,.ty n,e=>by cases e
 | _,_,_,.exn _,e=>by cases e
 | _,_,_,.ref _ _,e=>by cases e
 | _,_,_,.tup h _ al,e=>by
  rw[toData] at e;obtain⟨ps,e1,rfl⟩:=xch.mp e;exact .tup (SqT.of h) (zhk al e1)
 | _,_,_,.lst h _ al,e=>by
  rw[toData] at e;obtain⟨ps,e1,rfl⟩:=xch.mp e;exact .lst (SqL.of h) (zhk al e1)
 | _,_,_,.scr _ _,e=>by cases e
theorem zhk {K:Fg}{ρ:Loc}{H:Hp}:∀{d:List D} {v:List V} {p:List PyData},AtAll K ρ H d v->toDatas d=some p->DAll K H v p
 | _,_,_,.nil,e=>by cases e;exact .nil
 | _,_,_,.cons a b,e=>by
  rw[toDatas] at e;obtain⟨x,e1,e⟩:=xei.mp e;obtain⟨xs,e2,rfl⟩:=xch.mp e;exact .cons (zte a e1) (zhk b e2)
end
noncomputable def now (st:Store) (d:D):D:=match asL st d with
 | some xs=>.lst xs
 | none=>d
noncomputable def dataOf (st:Store) (d:D):Option PyData:=toData (now st d)
theorem zlb {K:Fg}{ρ:Loc}{st:Store}{H:Hp}(rp:Rep K ρ st H){d:D}{u:V}{p:PyData}(a:At K ρ H d u)(e:dataOf st d=some p):DAt K H u p:=by
 unfold dataOf now at e;split at e
 ·rename_i xs hx;obtain⟨q,vs,rfl,h1,h2⟩:=zgg rp a hx;rw[toData] at e;obtain⟨ps,e1,rfl⟩:=xch.mp e;exact .lst (SqL.of h1) (zhk h2 e1)
 ·exact zte a e
noncomputable def oEqG (neg:Bool) (x y:D) (st:Store):Res D:=match dataOf st x,dataOf st y with
 | some a,some b=>if PySem.SeqAt.shaped a=true/\PySem.SeqAt.shaped b=true then .ok (.bl (if neg then !PyData.eqv a b else PyData.eqv a b)) st else .stuck
 | _,_=>.stuck
theorem zjb {K:Fg}{neg:Bool}:OpD K (oEqG neg) (rEqX K neg):=fun ρ H st x y u v z st' Q rp a b e q=>by
 unfold oEqG at e;split at e
 ·rename_i p1 p2 h1 h2;split at e
  ·rename_i hs;cases e;exact⟨_,_,zlb rp a h1,zlb rp b h2,hs.1,hs.2,q _ _ _ (.refl _ _) rp (.bl _)⟩
  ·cases e
 ·cases e
noncomputable abbrev oEq:=oEqG false
noncomputable abbrev oNe:=oEqG true
noncomputable def asInts:List D->Option (List Int)
 | []=>some []
 | .int i::r=>(asInts r).map (i::·)
 | _::_=>none
theorem zcu {K:Fg}{ρ:Loc}{H:Hp}:∀{ds:List D} {vs:List V} {ns:List Int},AtAll K ρ H ds vs->asInts ds=some ns->vs=ns.map V.int
 | _,_,_,.nil,e=>by cases e;rfl
 | _,_,_,.cons (d:=d) a b,e=>by
  cases d<;>try (cases e;done)
  rw[asInts] at e;obtain⟨ms,e1,rfl⟩:=xch.mp e;cases a;rw[zcu b e1]
  rfl
noncomputable def oLtT (x y:D) (st:Store):Res D:=match x,y with
 | .int i,.int j=>.ok (.bl (decide (i < j))) st
 | .tup a,.tup b=>match asInts a,asInts b with
  | some ns,some ms=>.ok (.bl (HT.lexLt ns ms)) st
  | _,_=>.stuck
 | _,_=>.stuck
noncomputable abbrev rLtA (K:Fg):R2:=fun x y H Q=>rI0 (fun i j=>.bl (decide (i < j))) x y H Q\/rLtT K x y H Q
theorem zqp {X:Cx}(hu:X.A.units < cLine):OpR X (compareOp .Lt) (rLtA X.K):=zbia.or (zbds hu)
theorem zqu {K:Fg}:OpD K oLtT (rLtA K):=fun ρ H st x y u v z st' Q rp a b e q=>by
 unfold oLtT at e;split at e
 ·cases a;cases b;cases e
  exact .inl ⟨_,_,rfl,rfl,q _ _ _ (.refl _ _) rp (.bl _)⟩
 ·split at e
  ·rename_i h1 h2;cases e;cases a with
   | tup g1 g2 g3 =>
    cases b with
    | tup k1 k2 k3 =>
     have e1:=zcu g3 h1;have e2:=zcu k3 h2;subst e1 e2;exact .inr ⟨_,_,_,_,rfl,rfl,SqT.of g1,SqT.of k1,q _ _ _ (.refl _ _) rp (.bl _)⟩
  ·cases e
 ·cases e
noncomputable def seqOf (st:Store):D->Option (List D)
 | .tup xs=>some xs
 | .scr xs=>some xs
 | d=>asL st d
theorem zgv {K:Fg}{ρ:Loc}{st:Store}{H:Hp}(rp:Rep K ρ st H){d:D}{u:V}{xs:List D}(a:At K ρ H d u)(e:seqOf st d=some xs) :
  ∃p vs,u=.ref p/\(SqL K H p vs\/SqT K H p vs)/\AtAll K ρ H xs vs:=by
 unfold seqOf at e;split at e
 ·cases e;cases a with
  | tup h1 h2 h3=>exact⟨_,_,rfl,.inr (SqT.of h1),h3⟩
 ·cases e;cases a with
  | scr h1 h3=>exact⟨_,_,rfl,.inl h1.sq,h3⟩
 ·obtain⟨p,vs,rfl,h1,h2⟩:=zgg rp a e;exact⟨p,vs,rfl,.inl (SqL.of h1),h2⟩
theorem AtAll.atI {K:Fg}{ρ:Loc}{H:Hp}{ds:List D}{vs:List V}{i:Int}{d:D}(h:AtAll K ρ H ds vs)(e:L2.atI ds i=some d):∃v,L2.atI vs i=some v/\At K ρ H d v:=by
 unfold L2.atI at e ⊢;rw[h.length];cases hi:ixN ds.length i with
 | none=>rw[hi] at e;cases e
 | some j =>
  rw[hi] at e;obtain⟨v,e1,e2⟩:=h.get (i:=j) e;exact⟨v,e1,e2⟩
noncomputable def oIx (x y:D) (st:Store):Res D:=match seqOf st x,y with
 | some xs,.int i=>match L2.atI xs i with
  | some v=>.ok v st
  | none=>.stuck
 | _,_=>.stuck
theorem zbif {K:Fg}:OpD K oIx (rIx K):=fun ρ H st x y u v z st' Q rp a b e q=>by
 unfold oIx at e;split at e
 ·rename_i h1;split at e
  ·rename_i w hw;cases e;cases b;obtain⟨p,vs,rfl,h2,h3⟩:=zgv rp a h1;obtain⟨w',e2,a2⟩:=h3.atI hw;rcases h2 with h2 | h2
   ·exact .inl ⟨_,_,_,_,rfl,rfl,h2,e2,q _ _ _ (.refl _ _) rp a2⟩
   ·exact .inr (.inl ⟨_,_,_,_,rfl,rfl,h2,e2,q _ _ _ (.refl _ _) rp a2⟩)
  ·cases e
 ·cases e
noncomputable def cutD (xs:List D) (lo hi:Option Int):List D:=(xs.drop (HT.sIx xs.length 0 lo)).take (HT.sIx xs.length xs.length hi - HT.sIx xs.length 0 lo)
theorem AtAll.cut {K:Fg}{ρ:Loc}{H:Hp}{ds:List D}{vs:List V}(h:AtAll K ρ H ds vs)(lo hi:Option Int):AtAll K ρ H (cutD ds lo hi) (cutV vs lo hi):=by
 unfold cutD cutV;rw[h.length];exact(h.drop _).take _
noncomputable def pNone:DS->Store->Res (Option Int):=fun _ st=>.ok none st
noncomputable def pSome (f:SE):DS->Store->Res (Option Int):=fun σ st=>(f σ st).bind fun v st1=>match v with
 | .int i=>.ok (some i) st1
 | _=>.stuck
noncomputable def eSl (f:SE) (lo hi:DS->Store->Res (Option Int)):SE:=fun σ st=>(f σ st).bind fun x st1=>(lo σ st1).bind fun l st2=>(hi σ st2).bind fun h st3=>match x with
 | .tup xs=>.ok (.tup (cutD xs l h)) st3
 | x=>match asL st3 x with
  | some xs=>.ok (.lst (cutD xs l h)) st3
  | none=>.stuck
noncomputable def tDO (K:Fg) (f:DS->Store->Res (Option Int)):TO:=fun τ H Q=>∃ρ σ st v st',AtS K ρ H σ τ/\Rep K ρ st H/\f σ st=.ok v st'/\∀ρ' H',Ext ρ H ρ' H'->Rep K ρ' st' H'->Q v H'
noncomputable abbrev DO (X:Cx) (e:Option Expr) (f:DS->Store->Res (Option Int)):Prop:=PO X e (tDO X.K f)
section
variable {X:Cx}{a b e:Expr}{f f':SE}{pos:Pos}{lo hi:Option Expr}{l h:DS->Store->Res (Option Int)}
theorem zbhb {t t':TO}{e:Option Expr}(h:PO X e t)(k:∀σ H Q,t' σ H Q->t σ H Q):PO X e t':=fun aU s σ H Q I q=>h aU s σ H Q I (k _ _ _ q)
theorem zbaf:DO X none pNone:=zbhb zxw fun τ H Q hq0=>by
 obtain⟨ρ,σ,st,v,st',a,rp,e,q⟩:=hq0;cases e;exact q _ _ (.refl _ _) rp
theorem zbae (he:DE X e f):DO X (some e) (pSome f):=zbhb (zxv he) fun τ H Q hq0=>by
 obtain⟨ρ,σ,st,v,st',a,rp,e,q⟩:=hq0;obtain⟨x,st1,e1,e⟩:=za e;refine⟨ρ,σ,st,x,st1,a,rp,e1,fun ρ1 H1 u x1 rp1 a1=>?_⟩;cases x<;>try (cases e;done)
 cases e;cases a1;exact⟨_,rfl,q _ _ x1 rp1⟩
theorem d_ix (ha:DE X a f)(hb:DE X b f')(hs:PlainIx b):DE X (.Subscript a b pos) (aR oIx f f'):=zef (zbhy zben ha hb hs) (zyn zbif)
theorem d_sl {p2:Pos}(he:DE X e f)(hl:DO X lo l)(hu:DO X hi h):DE X (.Subscript e (.Slice lo hi none p2) pos) (eSl f l h):=zef (znr (zxh.or zxi) he hl hu) fun τ H Q hq0=>by
 obtain⟨ρ,σ,st,v,st',a,rp,e,q⟩:=hq0;obtain⟨x,st1,e1,e⟩:=za e;obtain⟨y,st2,e2,e⟩:=za e;obtain⟨z,st3,e3,e⟩:=za e;refine⟨ρ,σ,st,x,st1,a,rp,e1,fun ρ1 H1 u x1 rp1 a1=>?_⟩;refine⟨ρ1,σ,st1,y,st2,a.ext x1,rp1,e2,fun ρ2 H2 x2 rp2=>?_⟩;refine⟨ρ2,σ,st2,z,st3,a.ext (x1.trans x2),rp2,e3,fun ρ3 H3 x3 rp3=>?_⟩;have a3:=a1.ext (x2.trans x3);have X3:=x1.trans (x2.trans x3);split at e
 ·cases e;refine .inl ?_;cases a3 with
  | tup h1 h2 h3 =>
   refine⟨_,_,rfl,SqT.of h1,fun ec=>?_,fun p hp=>?_⟩
   ·refine q _ _ _ X3 rp3 (.tup h1 h2 ?_);have:=h3.cut y z;rw[ec] at this;exact this
   ·exact q _ _ _ (X3.trans (Ext.new hp _)) (rp3.new hp _) (.newT rp3 hp (h3.cut y z))
 ·split at e
  ·rename_i xs hx;cases e;obtain⟨p,vs,rfl,g1,g2⟩:=zgg rp3 a3 hx;exact .inr ⟨_,_,rfl,SqL.of g1,fun p hp=>q _ _ _ (X3.trans (Ext.new hp _)) (rp3.new hp _) (.newL rp3 hp (g2.cut y z))⟩
  ·cases e
end
end Dd
namespace Dd
open PySem L2
noncomputable def aE (g:List D->Store->Res D) (f:SA):SE:=fun σ st=>(f σ st).bind fun xs st1=>g xs st1
noncomputable def CaD (K:Fg) (g:List D->Store->Res D) (r:List V->Hp->VK->Prop):Prop :=
 ∀ρ H st xs us z st' (Q:VK),Rep K ρ st H->AtAll K ρ H xs us->g xs st=.ok z st'->(∀ρ' H' w,Ext ρ H ρ' H'->Rep K ρ' st' H'->At K ρ' H' z w->Q w H')->r us H Q
theorem zbhk {K:Fg}{g:List D->Store->Res D}{r:List V->Hp->VK->Prop}(hr:CaD K g r){f:SA}:∀τ H Q,tD K (aE g f) τ H Q->tCB r (tDA K f) τ H Q:=fun τ H Q hq0=>by
 obtain⟨ρ,σ,st,v,st',a,rp,e,q⟩:=hq0;obtain⟨x,st1,e1,e⟩:=za e;exact⟨ρ,σ,st,x,st1,a,rp,e1,fun ρ1 H1 u x1 rp1 a1=>hr ρ1 H1 st1 x u v st' Q rp1 a1 e fun ρ' H' w x2=>q ρ' H' w (x1.trans x2)⟩
section
variable {X:Cx}{x:Str}{p pos:Pos}{e:Expr}{es:List Expr}{f:SA}{id T:String}{r:List V->Hp->VK->Prop}{g:List D->Store->Res D}
theorem zbay (hc:CallR X (.builtin id) r)(hr:CaD X.K g r)(hg:Gl X x)(hm:X.mg x=none)(hv:bootBuiltins x=some (.builtin id))(ha:DA X (e::es) f)(hn:x≠"__name__":=by decide)(hdb:(x==("__debug__" : Str))=false:=by decide)
 (he:starEach (e::es) X.env=(false,eval e X.env)::starEach es X.env:=by rfl)(hpl:(backTo pos (starEach es X.env)).any (·.1)=false:=by rfl):DE X (.Call (.Name x p) (e::es) [] pos) (aE g f):=zef (zus hc hg hm hv ha hn hdb he hpl) (zbhk hr)
theorem zwd (hc:CallR X (.type T) r)(hr:CaD X.K g r)(hg:Gl X x)(hm:X.mg x=none)(hv:bootBuiltins x=some (.type T))(ha:DA X (e::es) f)(hn:x≠"__name__":=by decide)(hdb:(x==("__debug__" : Str))=false:=by decide)
 (he:starEach (e::es) X.env=(false,eval e X.env)::starEach es X.env:=by rfl)(hpl:(backTo pos (starEach es X.env)).any (·.1)=false:=by rfl):DE X (.Call (.Name x p) (e::es) [] pos) (aE g f):=zef (zqo hc hg hm hv ha hn hdb he hpl) (zbhk hr)
end
theorem AtAll.one {K:Fg}{ρ:Loc}{H:Hp}{d:D}{us:List V}(h:AtAll K ρ H [d] us):∃u,us=[u]/\At K ρ H d u:=by
 cases h with
 | cons a b=>cases b;exact⟨_,rfl,a⟩
theorem AtAll.two {K:Fg}{ρ:Loc}{H:Hp}{d e:D}{us:List V}(h:AtAll K ρ H [d,e] us):∃u v,us=[u,v]/\At K ρ H d u/\At K ρ H e v:=by
 cases h with
 | cons a b =>
  obtain⟨v,rfl,c⟩:=b.one;exact⟨_,_,rfl,a,c⟩
noncomputable def bLen:List D->Store->Res D:=fun xs st=>match xs with
 | [x]=>match seqOf st x with
  | some ys=>.ok (.int ys.length) st
  | none=>.stuck
 | _=>.stuck
theorem zix {K:Fg}:CaD K bLen (fun xs H Q=>∃p ys,xs=[.ref p]/\(SqL K H p ys\/SqT K H p ys)/\Q (.int ys.length) H):=fun ρ H st xs us z st' Q rp aa e q=>by
 unfold bLen at e;split at e
 ·split at e
  ·rename_i h;cases e;obtain⟨u,rfl,a⟩:=aa.one;obtain⟨p,vs,rfl,h1,h2⟩:=zgv rp a h;refine⟨p,vs,rfl,h1,?_⟩;rw[h2.length];exact q _ _ _ (.refl _ _) rp (.int _)
  ·cases e
 ·cases e
noncomputable def bAbs:List D->Store->Res D:=fun xs st=>match xs with
 | [.int i]=>.ok (.int (if i < 0 then -i else i)) st
 | _=>.stuck
theorem zbgo {K:Fg}:CaD K bAbs (fun xs H Q=>∃i,xs=[.int i]/\Q (.int (if i < 0 then -i else i)) H):=fun ρ H st xs us z st' Q rp aa e q=>by
 unfold bAbs at e;split at e
 ·cases e;obtain⟨u,rfl,a⟩:=aa.one;cases a;exact⟨_,rfl,q _ _ _ (.refl _ _) rp (.int _)⟩
 ·cases e
noncomputable def b2I (g:Int->Int->Int):List D->Store->Res D:=fun xs st=>match xs with
 | [.int i,.int j]=>.ok (.int (g i j)) st
 | _=>.stuck
theorem zbgp {K:Fg}{g:Int->Int->Int}:CaD K (b2I g) (fun xs H Q=>∃i j,xs=[.int i,.int j]/\Q (.int (g i j)) H):=fun ρ H st xs us z st' Q rp aa e q=>by
 unfold b2I at e;split at e
 ·cases e;obtain⟨u,v,rfl,a,b⟩:=aa.two;cases a;cases b;exact⟨_,_,rfl,q _ _ _ (.refl _ _) rp (.int _)⟩
 ·cases e
noncomputable abbrev bMin2:=b2I fun i j=>if j < i then j else i
noncomputable abbrev bMax2:=b2I fun i j=>if j > i then j else i
noncomputable def bSum:List D->Store->Res D:=fun xs st=>match xs with
 | [x]=>match (seqOf st x).bind asInts with
  | some ns=>.ok (.int ns.sum) st
  | none=>.stuck
 | _=>.stuck
theorem zbbp {K:Fg}:CaD K bSum (rSum K):=fun ρ H st xs us z st' Q rp aa e q=>by
 unfold bSum at e;split at e
 ·split at e
  ·rename_i ns h;cases e;obtain⟨ys,h0,h⟩:=xei.mp h;obtain⟨u,rfl,a⟩:=aa.one;obtain⟨p,vs,rfl,h1,h2⟩:=zgv rp a h0;have e:=zcu h2 h;subst e;exact⟨p,ns,rfl,h1,q _ _ _ (.refl _ _) rp (.int _)⟩
  ·cases e
 ·cases e
noncomputable def asBools:List D->Option (List Bool)
 | []=>some []
 | .bl i::r=>(asBools r).map (i::·)
 | _::_=>none
theorem zja {K:Fg}{ρ:Loc}{H:Hp}:∀{ds:List D} {vs:List V} {ns:List Bool},AtAll K ρ H ds vs->asBools ds=some ns->vs=ns.map V.bl
 | _,_,_,.nil,e=>by cases e;rfl
 | _,_,_,.cons (d:=d) a b,e=>by
  cases d<;>try (cases e;done)
  rw[asBools] at e;obtain⟨ms,e1,rfl⟩:=xch.mp e;cases a;rw[zja b e1]
  rfl
noncomputable def bAny (al:Bool):List D->Store->Res D:=fun xs st=>match xs with
 | [x]=>match (asL st x).bind asBools with
  | some bs=>.ok (.bl (if al then bs.all id else bs.any id)) st
  | none=>.stuck
 | _=>.stuck
theorem zwl {K:Fg}{al:Bool}:CaD K (bAny al) (rAny K al):=fun ρ H st xs us z st' Q rp aa e q=>by
 unfold bAny at e;split at e
 ·split at e
  ·rename_i ns h;cases e;obtain⟨ys,h0,h⟩:=xei.mp h;obtain⟨u,rfl,a⟩:=aa.one;obtain⟨p,vs,rfl,h1,h2⟩:=zgg rp a h0;have e:=zja h2 h;subst e;exact⟨p,ns,rfl,SqL.of h1,q _ _ _ (.refl _ _) rp (.bl _)⟩
  ·cases e
 ·cases e
noncomputable def tyName (st:Store):D->Option String
 | .non=>some "NoneType"
 | .bl _=>some "bool"
 | .int _=>some "int"
 | .str _=>some "str"
 | .tup _=>some "tuple"
 | .lst _=>some "list"
 | .ref n=>match st[n]? with
  | some (.lst _)=>some "list"
  | some (.dT _)=>some "dict"
  | _=>none
 | _=>none
noncomputable def isTy (t T:String):Bool:=t==T||(t=="bool"&&T=="int")
noncomputable def bIsinst:List D->Store->Res D:=fun xs st=>match xs with
 | [x,.ty T]=>match tyName st x with
  | some t=>if["int", "bool", "str", "tuple", "list", "dict"].contains T=true then .ok (.bl (isTy t T)) st else .stuck
  | none=>.stuck
 | _=>.stuck
theorem zqd {K:Fg}{ρ:Loc}{st:Store}{H:Hp}(rp:Rep K ρ st H){d:D}{u:V}{t:String}(a:At K ρ H d u)(e:tyName st d=some t):TyOf K H u (.type t)/\t∈["NoneType", "bool", "int", "str", "tuple", "list", "dict"]:=by
 cases d<;>try (cases e;done)
 ·cases e;cases a;exact⟨.non,by simp⟩
 ·cases e;cases a;exact⟨.bl _,by simp⟩
 ·cases e;cases a;exact⟨.int _,by simp⟩
 ·cases e;cases a;exact⟨.str _,by simp⟩
 ·unfold tyName at e;dsimp only at e;split at e
  ·rename_i h;cases e;obtain⟨p,rfl,hp,vs,q1,q2⟩:=zga rp a h (by intro z;cases z);exact⟨.lst q1,by simp⟩
  ·rename_i h;cases e;obtain⟨p,rfl,hp,vs,q1,q2⟩:=zga rp a h (by intro z;cases z);exact⟨.dT q1,by simp⟩
  ·cases e
 ·cases e;cases a with
  | tup h1 h2 h3=>exact⟨.tup h1,by simp⟩
 ·cases e;cases a with
  | lst h1 h2 h3=>exact⟨.lst h1,by simp⟩
theorem zbeg {K:Fg}{t T:String}(ht:t∈["NoneType", "bool", "int", "str", "tuple", "list", "dict"])(hT:T∈["int", "bool", "str", "tuple", "list", "dict"]):W.kitOne K (.type t) (.type T)=some (isTy t T):=by
 simp only[xbn,xdx,xhd] at ht hT;rcases ht with rfl | rfl | rfl | rfl | rfl | rfl | rfl<;>rcases hT with rfl | rfl | rfl | rfl | rfl | rfl<;>rfl
theorem zcb {K:Fg}:CaD K bIsinst (fun xs H Q=>∃x T t b,xs=[x,.ty T]/\TyOf K H x t/\W.kitOne K t (.type T)=some b/\Q (.bl b) H):=fun ρ H st xs us z st' Q rp aa e q=>by
 unfold bIsinst at e;split at e
 ·split at e
  ·rename_i h;split at e
   ·rename_i hT;cases e;obtain⟨u,v,rfl,a,b⟩:=aa.two;cases b;obtain⟨h1,h2⟩:=zqd rp a h;exact⟨_,_,_,_,rfl,h1,zbeg h2 (by simpa using hT),q _ _ _ (.refl _ _) rp (.bl _)⟩
   ·cases e
  ·cases e
 ·cases e
noncomputable def bTuple:List D->Store->Res D:=fun xs st=>match xs with
 | [.tup ys]=>.ok (.tup ys) st
 | [x]=>match asL st x with
  | some ys=>.ok (.tup ys) st
  | none=>.stuck
 | _=>.stuck
theorem zeo {K:Fg}:CaD K bTuple (fun xs H Q=>∃p ys,xs=[.ref p]/\((SqL K H p ys/\∀l,H l=none->Q (.ref l) (upd H l (.tup ys)))\/(SqT K H p ys/\Q (.ref p) H))):=fun ρ H st xs us z st' Q rp aa e q=>by
 unfold bTuple at e;split at e
 ·cases e;obtain⟨u,rfl,a⟩:=aa.one;cases a with
  | tup h1 h2 h3=>exact⟨_,_,rfl,.inr ⟨SqT.of h1,q _ _ _ (.refl _ _) rp (.tup h1 h2 h3)⟩⟩
 ·split at e
  ·rename_i h;cases e;obtain⟨u,rfl,a⟩:=aa.one;obtain⟨p,vs,rfl,h1,h2⟩:=zgg rp a h;exact⟨_,_,rfl,.inl ⟨SqL.of h1,fun l hl=>q _ _ _ (Ext.new hl _) (rp.new hl _) (.newT rp hl h2)⟩⟩
  ·cases e
 ·cases e
noncomputable def bList:List D->Store->Res D:=fun xs st=>match xs with
 | [x]=>match seqOf st x with
  | some ys=>.ok (.lst ys) st
  | none=>.stuck
 | _=>.stuck
noncomputable abbrev aL (ns:List Int):D:=.tup (ns.map .int)
noncomputable abbrev aJ (l:List (List Int)):List D:=l.map aL
noncomputable def insR (a:List Int):List (List Int)->List (List Int)
 | []=>[a]
 | b::r=>if HT.lexLt b a=true then b::insR a r else a::b::r
noncomputable def sortR:List (List Int)->List (List Int)
 | []=>[]
 | a::r=>insR a (sortR r)
noncomputable abbrev UpR (l:List (List Int)):Prop:=l.Pairwise fun a b=>HT.lexLt b a=false
theorem zhh (a:List Int):∀l,(insR a l).Perm (a::l)
 | []=>.refl _
 | b::r=>by
  unfold insR;split
  ·exact(List.Perm.cons b (zhh a r)).trans (.swap a b r)
  ·exact .refl _
theorem zcp:∀l,(sortR l).Perm l
 | []=>.refl _
 | a::r=>(zhh a _).trans (.cons a (zcp r))
theorem zjt {a b c:List Int}(h1:HT.lexLt b a=false)(h2:HT.lexLt c b=false):HT.lexLt c a=false:=by
 cases h:HT.lexLt c a with
 | false=>rfl
 | true =>
  rcases Srt.zij a b with z | z | z
  ·have:=Srt.zdw h z;rw[h2] at this;cases this
  ·subst z;rw[h2] at h;cases h
  ·rw[h1] at z;cases z
theorem zst (a:List Int):∀l,UpR l->UpR (insR a l)
 | [],_=>xie _ _
 | b::r,h=>by
  obtain⟨h1,h2⟩:=xer.mp h;unfold insR;split
  ·rename_i c;refine xer.mpr ⟨fun x hx=>?_,zst a r h2⟩;rcases xbn.mp ((zhh a r).mem_iff.mp hx) with rfl | hx
   ·exact Srt.zrb c
   ·exact h1 x hx
  ·rename_i c;have c':HT.lexLt b a=false:=by simpa using c
   refine xer.mpr ⟨fun x hx=>?_,h⟩;rcases xbn.mp hx with rfl | hx
   ·exact c'
   ·exact zjt c' (h1 x hx)
theorem zgt:∀l,UpR (sortR l)
 | []=>.nil
 | a::r=>zst a _ (zgt r)
theorem zkj:∀{l m:List (List Int)},l.Perm m->UpR l->UpR m->l=m
 | [],m,p,_,_=>by rw[List.nil_perm.mp p]
 | a::l,[],p,_,_=>by cases List.perm_nil.mp p
 | a::l,b::m,p,h1,h2=>by
  obtain⟨p1,p2⟩:=xer.mp h1;obtain⟨q1,q2⟩:=xer.mp h2;have e:a=b:=by
   rcases xbn.mp (p.mem_iff.mp xbz) with z | z
   ·exact z
   ·rcases xbn.mp (p.mem_iff.mpr (xbz (a:=b) (l:=m))) with y | y
    ·exact y.symm
    ·have e1:=q1 a z;have e2:=p1 b y;rcases Srt.zij a b with w | w | w
     ·rw[e1] at w;cases w
     ·exact w
     ·rw[e2] at w;cases w
  subst e;rw[zkj (List.Perm.cons_inv p) p2 q2]
theorem zji {l m:List (List Int)}(p:m.Perm l)(h:UpR m):m=sortR l:=zkj (p.trans (zcp l).symm) h (zgt l)
theorem zjj (l:List (List Int)):(sortR l).length=l.length:=(zcp l).length_eq
noncomputable def asRows:List D->Option (List (List Int))
 | []=>some []
 | .tup ds::r=>(asInts ds).bind fun ns=>(asRows r).map (ns::·)
 | _::_=>none
theorem zlo {K:Fg}{ρ:Loc}{H:Hp}:∀{ds:List D} {vs:List V} {l:List (List Int)},AtAll K ρ H ds vs->asRows ds=some l ->
  ∃ps:List (Addr×List Int),vs=ps.map (fun p=>V.ref p.1)/\ps.map (·.2)=l/\∀p∈ps,H p.1=some (.tup (p.2.map V.int))/\Out ρ p.1
 | _,_,_,.nil,e=>by cases e;exact⟨[],rfl,rfl,fun _ h=>nomatch h⟩
 | _,_,_,.cons (d:=d) a b,e=>by
  cases d<;>try (cases e;done)
  rw[asRows] at e;obtain⟨ns,e1,e⟩:=xei.mp e;obtain⟨l,e2,rfl⟩:=xch.mp e;obtain⟨ps,h1,h2,h3⟩:=zlo b e2;cases a with
  | tup g1 g2 g3 =>
   rename_i ad ws;have ew:=zcu g3 e1;subst ew;refine⟨(ad,ns)::ps,by rw[h1];rfl,by rw[← h2];rfl,fun p hp=>?_⟩;rcases xbn.mp hp with rfl | hp
   ·exact⟨g1,g2⟩
   ·exact h3 p hp
theorem zhg {K:Fg}{ρ:Loc}{H:Hp}:∀ns:List Int,AtAll K ρ H (ns.map .int) (ns.map V.int)
 | []=>.nil
 | n::ns=>.cons (.int n) (zhg ns)
theorem zjl {K:Fg}{ρ:Loc}{H:Hp}:∀ps:List (Addr×List Int),(∀p∈ps,H p.1=some (.tup (p.2.map V.int))/\Out ρ p.1)->AtAll K ρ H (aJ (ps.map (·.2))) (ps.map fun p=>V.ref p.1)
 | [],_=>.nil
 | p::ps,h=>.cons (.tup (h p xbz).1 (h p xbz).2 (zhg _)) (zjl ps fun q hq=>h q (xca _ hq))
theorem zkq {K:Fg}{ρ:Loc}{st:Store}{H:Hp}(r:Rep K ρ st H){p:Addr}{vs:List V}(hp:H p=some (.tup vs)):Out ρ p:=by
 refine⟨fun z=>?_,fun z=>?_⟩
 ·obtain⟨i,hi,e⟩:=xdz z;obtain⟨x,_,q⟩:=r.has (n:=i) (a:=p) (by rw[xbi hi,e]);cases x with
  | lst xs=>obtain⟨_,e,_⟩:=q;rw[hp] at e;cases e
  | dT kvs=>obtain⟨_,e,_⟩:=q;rw[hp] at e;cases e
  | fT kvs=>obtain⟨_,_,e,_⟩:=q;rw[hp] at e;cases e
  | dI kvs=>obtain⟨_,e,_⟩:=q;rw[hp] at e;cases e
  | dead=>exact q
  | tab=>obtain⟨_,_,e,_⟩:=q;rw[hp] at e;cases e
 ·obtain⟨⟨u,hu⟩,_⟩:=r.gh p z;rw[hp] at hu;cases hu
noncomputable def valD (kvs:List (List Int×D)) (k:List Int):Option D:=(kvs.find? fun kv=>decide (kv.1=k)).map (·.2)
noncomputable def putD (kvs:List (List Int×D)) (k:List Int) (v:D):List (List Int×D) :=
 if(kvs.any fun kv=>decide (kv.1=k))=true then kvs.map (fun kv=>if kv.1=k then(kv.1,v) else kv) else kvs++[(k,v)]
noncomputable def dropD (kvs:List (List Int×D)) (k:List Int):List (List Int×D):=kvs.filter fun kv=>decide (kv.1≠k)
theorem zom {a b:List Int}:a.map (Sum.inl:Int->Key)=b.map Sum.inl↔a=b:=by
 constructor
 ·intro h;exact(List.map_inj_right (f:=(Sum.inl:Int->Key)) fun x y e=>Sum.inl.inj e).mp h
 ·rintro rfl;rfl
section
variable {K:Fg}{ρ:Loc}{H:Hp}{kvs:List (List Int×D)}{vs:List (List Key×V)}
theorem KvAt.val (h:KvAt K ρ H kvs vs)(k:List Int):match valD kvs k with
  | some d=>∃v,valV vs (k.map Sum.inl)=some v/\At K ρ H d v
  | none=>valV vs (k.map Sum.inl)=none:=by
 induction h with
 | nil=>rfl
 | @cons p q ps qs h t ih =>
  obtain⟨h1,h2⟩:=h;by_cases e:p.1=k
  ·have e1:valD (p::ps) k=some p.2:=by simp[valD,xfc,e]
   rw[e1];exact⟨q.2,zgq (by rw[h1,e]),h2⟩
  ·have e1:valD (p::ps) k=valD ps k:=by simp[valD,xfc,e]
   have e2:valV (q::qs) (k.map Sum.inl)=valV qs (k.map Sum.inl):=zgr (by rw[h1,zom];exact e);rw[e1,e2];exact ih
theorem KvAt.keys (h:KvAt K ρ H kvs vs):vs.map (·.1)=(kvs.map (·.1)).map fun ns=>ns.map Sum.inl:=by
 induction h with
 | nil=>rfl
 | @cons p q ps qs h t ih=>rw[xbx,xbx,xbx,ih,h.1]
theorem KvAt.put (h:KvAt K ρ H kvs vs)(k:List Int){d:D}{v:V}(a:At K ρ H d v):KvAt K ρ H (putD kvs k d) (putK vs (k.map Sum.inl) v):=by
 have any:∀{kvs:List (List Int×D)} {vs:List (List Key×V)},KvAt K ρ H kvs vs->(kvs.any fun kv=>decide (kv.1=k))=(vs.any fun kv=>decide (kv.1=k.map Sum.inl)):=fun h=>by
  induction h with
  | nil=>rfl
  | @cons p q ps qs h t ih =>
   rw[xio,xio,ih,h.1]
   congr 1
   simp only[zom]
 unfold putD putK;rw[any h];split
 ·rename_i hh;clear hh any
  induction h with
  | nil=>exact .nil
  | @cons p q ps qs h t ih =>
   refine .cons ?_ ih;obtain⟨h1,h2⟩:=h;dsimp only;by_cases e:p.1=k
   ·rw[if_pos e,if_pos (by rw[h1,e])];exact⟨h1,a⟩
   ·rw[if_neg e,if_neg (by rw[h1,zom];exact e)];exact⟨h1,h2⟩
 ·have app:∀{kvs:List (List Int×D)} {vs:List (List Key×V)},KvAt K ρ H kvs vs->KvAt K ρ H (kvs++[(k,d)]) (vs++[(k.map Sum.inl,v)]):=fun h=>by
   induction h with
   | nil=>exact .cons ⟨rfl,a⟩ .nil
   | cons h t ih=>exact .cons h ih
  exact app h
theorem KvAt.length (h:KvAt K ρ H kvs vs):kvs.length=vs.length:=xin h
end
noncomputable def pairsOf (st:Store):D->Option (List (List Int×D))
 | .ref n=>match st[n]? with
  | some (.dT kvs)=>some kvs
  | some (.fT kvs)=>some kvs
  | _=>none
 | _=>none
theorem zjo {K:Fg}{ρ:Loc}{st:Store}{H:Hp}(rp:Rep K ρ st H){d:D}{u:V}{kvs:List (List Int×D)}(a:At K ρ H d u)(e:pairsOf st d=some kvs):∃p vs,u=.ref p/\Rd H p (.dT vs)/\KvAt K ρ H kvs vs:=by
 unfold pairsOf at e;split at e
 ·split at e
  ·rename_i h;cases e;obtain⟨p,rfl,hp,vs,q1,q2⟩:=zga rp a h (by intro z;cases z);exact⟨p,vs,rfl,.inl q1,q2⟩
  ·rename_i h;cases e;obtain⟨p,rfl,hp,vs,ob,q1,q2⟩:=zga rp a h (by intro z;cases z);exact⟨p,vs,rfl,.inr ⟨ob,q1⟩,q2⟩
  ·cases e
 ·cases e
noncomputable def keyOf:D->Option (List Int)
 | .tup ds=>asInts ds
 | _=>none
theorem zzi {K:Fg}{ρ:Loc}{H:Hp}{d:D}{u:V}{k:List Int}(a:At K ρ H d u)(e:keyOf d=some k):∃p,u=.ref p/\H p=some (.tup ((k.map (Sum.inl:Int->Key)).map kV)):=by
 unfold keyOf at e;split at e
 ·cases a with
  | tup h1 h2 h3 =>
   have:=zcu h3 e;subst this;exact⟨_,rfl,by rw[zsq];exact h1⟩
 ·cases e
theorem ztc {K:Fg}{ρ:Loc}{st:Store}{H:Hp}(rp:Rep K ρ st H){d y:D}{u w:V}{kvs:List (List Int×D)}{k:List Int}(a:At K ρ H d u)(b:At K ρ H y w)(e:pairsOf st d=some kvs)(e2:keyOf y=some k) :
  ∃p o,u=.ref p/\DGet H p w o/\match valD kvs k with
   | some z=>∃v,o=some v/\At K ρ H z v
   | none=>o=none:=by
 obtain⟨p,vs,rfl,h1,h2⟩:=zjo rp a e;obtain⟨q,rfl,h3⟩:=zzi b e2;refine⟨p,valV vs (k.map Sum.inl),rfl,.inr ⟨vs,_,q,h1,rfl,h3,rfl⟩,?_⟩;have:=h2.val k;cases hv:valD kvs k with
 | none=>rw[hv] at this;exact this
 | some z=>rw[hv] at this;exact this
noncomputable def oDGet (x y:D) (st:Store):Res D:=match pairsOf st x,keyOf y with
 | some kvs,some k=>match valD kvs k with
  | some v=>.ok v st
  | none=>.stuck
 | _,_=>.stuck
noncomputable def eDGet2 (f g h:SE):SE:=fun σ st=>(f σ st).bind fun x st1=>match pairsOf st1 x with
 | some _=>(g σ st1).bind fun y st2=>(h σ st2).bind fun z st3=>match pairsOf st3 x,keyOf y with
  | some kvs,some k=>.ok ((valD kvs k).getD z) st3
  | _,_=>.stuck
 | none=>.stuck
noncomputable def eDPop (f g:SE):SE:=fun σ st=>(f σ st).bind fun x st1=>match pairsOf st1 x with
 | some _=>(g σ st1).bind fun y st2=>match x,keyOf y with
  | .ref n,some k=>match st2[n]? with
   | some (.dT kvs)=>match valD kvs k with
    | some v=>.ok v (st2.set n (.dT (dropD kvs k)))
    | none=>.stuck
   | _=>.stuck
  | _,_=>.stuck
 | none=>.stuck
noncomputable def sDPut (f g h:SE):SS:=fun σ st=>(h σ st).bind fun v st1=>(f σ st1).bind fun x st2=>(g σ st2).bind fun y st3=>match x,keyOf y with
 | .ref n,some k=>match st3[n]? with
  | some (.dT kvs)=>if kvs.length < sizeLine then .ok (.nx σ) (st3.set n (.dT (putD kvs k v))) else .stuck
  | _=>.stuck
 | _,_=>.stuck
noncomputable def eDNew:SE:=fun _ st=>.ok (.ref st.length) (st++[.dT []])
section
variable {X:Cx}{a b c o i e value f':Expr}{f g h:SE}{pos pos' apos cpos:Pos}
theorem zbeq {K:Fg}{ρ:Loc}{st:Store}{H:Hp}(rp:Rep K ρ st H){d:D}{u:V}{kvs:List (List Int×D)}(a:At K ρ H d u)(e:pairsOf st d=some kvs):∃p,u=.ref p/\IsD H p:=by
 obtain⟨p,vs,rfl,h1,_⟩:=zjo rp a e;exact⟨p,rfl,.inr ⟨vs,h1⟩⟩
theorem zbga:DE X (.Dict [] [] pos) eDNew:=zef zup fun τ H Q hq0 p hp=>by
 obtain⟨ρ,σ,st,v,st',a,rp,e,q⟩:=hq0;cases e;obtain⟨E,R⟩:=rp.alloc hp (x:=.dT []) (o:=.dT []) fun E=>⟨[],zba,.nil⟩
 exact q _ _ _ E R (.last rp.len.symm)
theorem zbgb (hu:X.A.units+1 < cLine)(ho:DE X o f)(hi:DE X i g)(hs:NoSl i):DE X (.Subscript o i pos) (aR oDGet f g):=zef (zyh hu ho hi hs) fun τ H Q hq0=>by
 obtain⟨ρ,σ,st,v,st',a,rp,e,q⟩:=hq0;obtain⟨x,st1,e1,e⟩:=za e;obtain⟨y,st2,e2,e⟩:=za e;refine⟨ρ,σ,st,x,st1,a,rp,e1,fun ρ1 H1 u x1 rp1 a1=>?_⟩;refine⟨ρ1,σ,st1,y,st2,a.ext x1,rp1,e2,fun ρ2 H2 w x2 rp2 a2=>?_⟩;unfold oDGet at e;split at e
 ·rename_i h1 h2;split at e
  ·rename_i z hv;cases e;obtain⟨p,oo,rfl,g1,g2⟩:=ztc rp2 (a1.ext x2) a2 h1 h2;rw[hv] at g2;obtain⟨vv,rfl,g3⟩:=g2;exact⟨p,vv,rfl,g1,q _ _ _ (x1.trans x2) rp2 g3⟩
  ·cases e
 ·cases e
theorem zbav (hu:X.A.units + 1 < cLine)(ho:DE X o f)(he:DE X e g)(hf:DE X f' h)(m:M2 X o "get" apos e f' cpos):DE X (.Call (.Attribute o "get" apos) [e, f'] [] cpos) (eDGet2 f g h):=zef (zuq hu ho he hf m) fun τ H Q hq0=>by
 obtain⟨ρ,σ,st,v,st',a,rp,e,q⟩:=hq0;obtain⟨x,st1,e1,e⟩:=za e;refine⟨ρ,σ,st,x,st1,a,rp,e1,fun ρ1 H1 u x1 rp1 a1=>?_⟩;split at e
 ·rename_i h0;obtain⟨p,rfl,hd⟩:=zbeq rp1 a1 h0;obtain⟨y,st2,e2,e⟩:=za e;obtain⟨z,st3,e3,e⟩:=za e;refine⟨p,rfl,hd,?_⟩;refine⟨ρ1,σ,st1,y,st2,a.ext x1,rp1,e2,fun ρ2 H2 w x2 rp2 a2=>?_⟩;refine⟨ρ2,σ,st2,z,st3,a.ext (x1.trans x2),rp2,e3,fun ρ3 H3 t x3 rp3 a3=>?_⟩;split at e
  ·rename_i h1 h2;cases e;obtain⟨p',oo,ep,g1,g2⟩:=ztc rp3 (a1.ext (x2.trans x3)) (a2.ext x3) h1 h2;cases ep;refine⟨oo,g1,q _ _ _ (x1.trans (x2.trans x3)) rp3 ?_⟩;revert g2;split
   ·rename_i hv;rintro⟨vv,rfl,g3⟩;rw[hv];exact g3
   ·rename_i hv;rintro rfl;rw[hv];exact a3
  ·cases e
 ·cases e
theorem zbab (hu:X.A.units+1 < cLine)(ho:DE X o f)(hi:DE X i g)(hv:DE X value h)(hs:swapsWith value (some (.Subscript o i pos')) pos.line X.env=pure false) :
  DSt X (.Assign [.Subscript o i pos'] value pos) (sDPut f g h):=zmt (zxu hu ho hi hv hs) fun E τ H hq0=>by
 obtain⟨ρ,σ,st,fl,st',a,rp,e,q⟩:=hq0;obtain⟨v,st1,e1,e⟩:=za e;obtain⟨x,st2,e2,e⟩:=za e;obtain⟨y,st3,e3,e⟩:=za e;refine⟨ρ,σ,st,v,st1,a,rp,e1,fun ρ1 H1 u x1 rp1 a1=>?_⟩;refine⟨ρ1,σ,st1,x,st2,a.ext x1,rp1,e2,fun ρ2 H2 w x2 rp2 a2=>?_⟩;refine⟨ρ2,σ,st2,y,st3,a.ext (x1.trans x2),rp2,e3,fun ρ3 H3 t x3 rp3 a3=>?_⟩;split at e
 ·rename_i n k hk _;split at e
  ·rename_i kvs hn;split at e
   ·rename_i hl;cases e;obtain⟨p,rfl,hp,vs,g1,g2⟩:=zga rp3 (a2.ext x3) hn (by intro z;cases z);obtain⟨b,rfl,g3⟩:=zzi a3 hk;have E:Ext ρ3 H3 ρ3 (upd H3 p (.dT (putK vs (k.map Sum.inl) u))):=Ext.wr hp (zkr g1) _;refine⟨p,_,rfl,DPut.t g1 g3 (by rw[← g2.length];exact hl),?_⟩;exact q _ _ _ ((x1.trans (x2.trans x3)).trans E) (rp3.wr hp (zkr g1) ⟨_,zba,(g2.put k (a1.ext (x2.trans x3))).ext E⟩) (a.ext ((x1.trans (x2.trans x3)).trans E))
   ·cases e
  ·cases e
 ·cases e
end
noncomputable def bSorted:List D->Store->Res D:=fun xs st=>match xs with
 | [x]=>match (asL st x).bind asRows with
  | some l=>if l.length<=1000000 then .ok (.lst (aJ (sortR l))) st else .stuck
  | none=>match pairsOf st x with
   | some kvs=>if kvs.length<=1000000 then .ok (.lst (aJ (sortR (kvs.map (·.1))))) st else .stuck
   | none=>.stuck
 | _=>.stuck
theorem zse {K:Fg}:CaD K bSorted (fun xs H Q=>rSortedAL K xs H Q\/rSortedDAL xs H Q):=fun ρ H st xs us z st' Q rp aa e q=>by
 unfold bSorted at e;split at e
 ·obtain⟨u,rfl,a⟩:=aa.one;split at e
  ·rename_i l hl;obtain⟨ys,h0,hl⟩:=xei.mp hl;split at e
   ·rename_i few;cases e;obtain⟨p,vs,rfl,h1,h2⟩:=zgg rp a h0;obtain⟨ps,rfl,rfl,h3⟩:=zlo h2 hl;rw[xbd] at few;refine .inl ⟨p,ps,rfl,SqL.of h1,few,fun x hx=>SqT.of (h3 x hx).1,fun t qs ht hp hs=>?_⟩;have e2:qs.map (·.2)=sortR (ps.map (·.2)):=zji (hp.map _) hs;refine q _ _ _ (Ext.new ht _) (rp.new ht _) (.newL rp ht ?_);rw[← e2];exact zjl qs fun x hx=>h3 x (hp.mem_iff.mp hx)
   ·cases e
  ·split at e
   ·rename_i kvs hk;split at e
    ·rename_i few;cases e;obtain⟨p,vs,rfl,h1,h2⟩:=zjo rp a hk;refine .inr ⟨p,vs,kvs.map (·.1),rfl,h1,h2.keys,by rw[xbd];exact few,fun t qs ht hp hs hq=>?_⟩;have e2:qs.map (·.2)=sortR (kvs.map (·.1)):=zji hp hs;refine q _ _ _ (Ext.new ht _) (rp.new ht _) (.newL rp ht ?_);rw[← e2];exact zjl qs fun x hx=>⟨hq x hx,zkq rp (hq x hx)⟩
    ·cases e
   ·cases e
 ·cases e
theorem zka {X:Cx}(hc:X.calm=true)(hu:X.A.units + 64 < cLine):CallR X (.builtin "sorted") (fun xs H Q=>rSortedAL X.K xs H Q\/rSortedDAL xs H Q):=(ziw hu).or (zhm hc hu)
noncomputable def eAppend (f:SE) (g:SA):SE:=fun σ st=>(f σ st).bind fun x st1=>match x,asL st1 x with
 | .ref n,some _=>(g σ st1).bind fun ys st2=>match ys,st2[n]? with
  | [y],some (.lst xs)=>if xs.length < sizeLine then .ok .non (st2.set n (.lst (xs++[y]))) else .stuck
  | _,_=>.stuck
 | _,_=>.stuck
noncomputable def eExtend (f:SE) (g:SA):SE:=fun σ st=>(f σ st).bind fun x st1=>match x,asL st1 x with
 | .ref n,some _=>(g σ st1).bind fun ys st2=>match ys,st2[n]? with
  | [y],some (.lst xs)=>match asL st2 y with
   | some zs=>if xs.length+zs.length<=sizeLine then .ok .non (st2.set n (.lst (xs++zs))) else .stuck
   | none=>.stuck
  | _,_=>.stuck
 | _,_=>.stuck
section
variable {X:Cx}{o e i value:Expr}{es:List Expr}{f g h:SE}{ga:SA}{pos apos cpos:Pos}
theorem zwf (ho:DE X o f)(ha:DA X (e::es) ga)(hbase:attributeBase o "append" X.env (eval o X.env)=eval o X.env:=by rfl)
  (hfew:((backTo cpos (starEach (e::es) X.env)).all (fun x=>!x.1)&&(backToKw cpos (keywordEach [] X.env)).all (fun x=>x.1.isSome)
   && decide ((e::es).length+([]:List Keyword).length+(if([]:List Keyword).isEmpty then 0 else 1) < 30))=true:=by rfl)
  (hline:(apos.endLine==cpos.line)=true:=by rfl)(hs:starEach (e::es) X.env=(false,eval e X.env)::starEach es X.env:=by rfl)(hplain:(backTo cpos (starEach es X.env)).any (·.1)=false:=by rfl) :
  DE X (.Call (.Attribute o "append" apos) (e::es) [] cpos) (eAppend f ga):=zef (zbbv F.plainAttrs_list F.slot_list_append F.type_list_append zks ho ha hbase hfew hline hs hplain) fun τ H Q hq0=>by
 obtain⟨ρ,σ,st,v,st',a,rp,e,q⟩:=hq0;obtain⟨x,st1,e1,e⟩:=za e;refine⟨ρ,σ,st,x,st1,a,rp,e1,fun ρ1 H1 u x1 rp1 a1=>?_⟩;split at e
 ·rename_i n _ hL;obtain⟨ys,st2,e2,e⟩:=za e;obtain⟨p,vs,rfl,g1,g2⟩:=zgg rp1 a1 hL;refine⟨.inl ⟨rfl,_,SqL.of g1⟩,ρ1,σ,st1,ys,st2,a.ext x1,rp1,e2,fun ρ2 H2 ws x2 rp2 a2=>?_⟩;split at e
  ·rename_i y xs hn;split at e
   ·rename_i hl;cases e;obtain⟨w,rfl,a3⟩:=a2.one;obtain⟨p',ep,hp,vs2,k1,k2⟩:=zga rp2 (a1.ext x2) hn (by intro z;cases z);cases ep;have E:Ext ρ2 H2 ρ2 (upd H2 p (.lst (vs2++[w]))):=Ext.wr hp (zhd k1) _;exact⟨p,vs2,w,rfl,rfl,k1,by rw[k2.length];exact hl,q _ _ _ ((x1.trans x2).trans E) (rp2.wr hp (zhd k1) ⟨_,zba,(k2.append (.cons a3 .nil)).ext E⟩) .non⟩
   ·cases e
  ·cases e
 ·cases e
noncomputable def eFz (f:SE):SE:=fun σ st=>(f σ st).bind fun x st1=>match x with
 | .ref n=>match st1[n]? with
  | some (.lst xs)=>.ok (.lst xs) (st1.set n .dead)
  | _=>.stuck
 | _=>.stuck
theorem d_fz (ho:DE X o f):DE X o (eFz f):=zef ho fun τ H Q hq0=>by
 obtain⟨ρ,σ,st,v,st',a,rp,e,q⟩:=hq0;obtain⟨x,st1,e1,e⟩:=za e;refine⟨ρ,σ,st,x,st1,a,rp,e1,fun ρ1 H1 u x1 rp1 a1=>?_⟩;split at e
 ·rename_i n;split at e
  ·rename_i xs hn;cases e;obtain⟨p,rfl,hp,vs2,k1,k2⟩:=zga rp1 a1 hn (by intro z;cases z);have hlen:=(xbk.mp hp).1;obtain⟨E,R⟩:=rp1.kill hlen;refine q _ _ _ (x1.trans E) R (.lst k1 ⟨fun z=>?_,fun z=>(rp1.gh p z).2 (xcc hp)⟩ (k2.ext E));obtain⟨i,hi,e2⟩:=xdz z;have e3:(ρ1.m.set n none)[i]?=some (some p):=by rw[xbi hi,e2]
   by_cases hin:i=n
   ·subst hin;rw[xdv hlen] at e3;simp at e3
   ·rw[xcr (xci hin)] at e3;exact hin (rp1.inj i n p e3 hp)
  ·cases e
 ·cases e
end
noncomputable def sNx:SS:=fun σ st=>.ok (.nx σ) st
noncomputable def sBrk:SS:=fun σ st=>.ok (.brk σ) st
noncomputable def sCt:SS:=fun σ st=>.ok (.ct σ) st
noncomputable def sRet (f:SE):SS:=fun σ st=>(f σ st).bind fun v st1=>.ok (.ret v) st1
noncomputable def sRetN:SS:=fun _ st=>.ok (.ret .non) st
noncomputable def sDrop (f:SE):SS:=fun σ st=>(f σ st).bind fun _ st1=>.ok (.nx σ) st1
noncomputable def aF (i:Nat) (f:SE):SS:=fun σ st=>(f σ st).bind fun v st1=>.ok (.nx (σ.set i (some v))) st1
noncomputable def aD (s t:SS):SS:=fun σ st=>match s σ st with
 | .ok (.nx σ1) st1=>t σ1 st1
 | r=>r
noncomputable def sIf (c:ST) (s t:SS):SS:=fun σ st=>(c σ st).bind fun b st1=>if b=true then s σ st1 else t σ st1
noncomputable def sAug (i:Nat) (g:D->D->Store->Res D) (f:SE):SS:=fun σ st=>match σ[i]? with
 | some (some x)=>(f σ st).bind fun y st1=>(g x y st1).bind fun z st2=>.ok (.nx (σ.set i (some z))) st2
 | _=>.stuck
noncomputable def sSetIx (f g h:SE):SS:=fun σ st=>(h σ st).bind fun v st1=>(f σ st1).bind fun x st2=>(g σ st2).bind fun y st3=>match x,y with
 | .ref n,.int k=>match st3[n]? with
  | some (.lst xs)=>match ixN xs.length k with
   | some j=>.ok (.nx σ) (st3.set n (.lst (xs.set j v)))
   | none=>.stuck
  | _=>.stuck
 | _,_=>.stuck
section
variable {X:Cx}{e c o i value:Expr}{sm:Stmt}{rest:List Stmt}{f g h:SE}{s t:SS}{b:ST}{pos pos':Pos}
theorem zbfm:DSs X [] sNx:=zxq zxs fun E τ H hq0=>by
 obtain⟨ρ,σ,st,fl,st',a,rp,e,q⟩:=hq0;cases e;exact q _ _ _ (.refl _ _) rp a
theorem zvu:DSt X (.Break pos) sBrk:=zmt zuj fun E τ H hq0=>by
 obtain⟨ρ,σ,st,fl,st',a,rp,e,q⟩:=hq0;cases e;exact q _ _ _ (.refl _ _) rp a
theorem zbfk (he:DE X e f):DSt X (.Return (some e) pos) (sRet f):=zmt (zbcy he) fun E τ H hq0=>by
 obtain⟨ρ,σ,st,fl,st',a,rp,e,q⟩:=hq0;obtain⟨x,st1,e1,e⟩:=za e;cases e;exact⟨ρ,σ,st,x,_,a,rp,e1,fun ρ1 H1 u x1 rp1 a1=>q _ _ _ x1 rp1 a1⟩
theorem zbaa (he:DE X e f)(hs:swapsWith e none pos.line X.env=pure false:=by rfl):DSt X (.Expr e pos) (sDrop f):=zmt (zxt he hs) fun E τ H hq0=>by
 obtain⟨ρ,σ,st,fl,st',a,rp,e,q⟩:=hq0;obtain⟨x,st1,e1,e⟩:=za e;cases e;exact⟨ρ,σ,st,x,_,a,rp,e1,fun ρ1 H1 u x1 rp1 a1=>q _ _ _ x1 rp1 (a.ext x1)⟩
theorem zbhp {K:Fg}{i:Nat}{f:SE}:∀E τ H,tDS K (aF i f) E τ H->tAsg (tD K f) (gName i) E τ H:=fun E τ H hq0=>by
 obtain⟨ρ,σ,st,fl,st',a,rp,e,q⟩:=hq0;obtain⟨x,st1,e1,e⟩:=za e;cases e;exact⟨ρ,σ,st,x,_,a,rp,e1,fun ρ1 H1 u x1 rp1 a1=>q _ _ _ x1 rp1 ((a.ext x1).set a1 i)⟩
theorem zbfj {i:Nat}{x:Str}(hN:X.N.Nodup)(hi:X.N[i]?=some x)(hx:L2.Loc X.env.scope x)(he:DE X e f)(hs:swapsWith e (some (.Name x pos')) pos.line X.env=pure false:=by rfl)(hf:X.fn x=true\/X.env.scope.names.lookup x=some .local:=by first | exact .inl rfl | exact .inr rfl | assumption) :
 DSt X (.Assign [.Name x pos'] e pos) (aF i f):=zmt (zbcx hN hi hx he hs hf) zbhp
theorem zbfl (h1:DSt X sm s):DSs X [sm] s:=zxr h1
theorem zbac (h1:DSt X sm s)(h2:DSs X rest t):DSs X (sm::rest) (aD s t):=zxq (zuh h1 h2) fun E τ H hq0=>by
 obtain⟨ρ,σ,st,fl,st',a,rp,e,q⟩:=hq0;unfold aD at e;split at e
 ·rename_i σ1 st1 e1;exact⟨ρ,σ,st,_,st1,a,rp,e1,fun ρ1 H1 τ1 x1 rp1 a1=>⟨ρ1,σ1,st1,fl,st',a1,rp1,e,q.ext x1⟩⟩
 ·rename_i hne;refine⟨ρ,σ,st,fl,st',a,rp,e,?_⟩;cases fl with
  | nx σ'=>exact absurd e (hne σ' st')
  | brk σ'=>exact q
  | ct σ'=>exact q
  | ret v=>exact q
theorem zbit {a' b':List Stmt}(hc:DT X c b)(ha:DSs X a' s)(hb:DSs X b' t):DSt X (.If c a' b' pos) (sIf b s t):=zmt (zbhu hc ha hb) fun E τ H hq0=>by
 obtain⟨ρ,σ,st,fl,st',a,rp,e,q⟩:=hq0;obtain⟨x,st1,e1,e⟩:=za e;refine⟨ρ,σ,st,x,st1,a,rp,e1,fun ρ1 H1 x1 rp1=>?_⟩;cases x with
 | true=>exact iteT ⟨ρ1,σ,st1,fl,st',a.ext x1,rp1,e,q.ext x1⟩
 | false=>exact iteF ⟨ρ1,σ,st1,fl,st',a.ext x1,rp1,e,q.ext x1⟩
noncomputable def IpD (K:Fg) (g:D->D->Store->Res D) (r:TIp):Prop :=
 ∀ρ H st x y u v z st' (Q:VK),Rep K ρ st H->At K ρ H x u->At K ρ H y v->g x y st=.ok z st'->(∀ρ' H' w,Ext ρ H ρ' H'->Rep K ρ' st' H'->At K ρ' H' z w->Q w H')->r u v H Q
theorem zbfo {i:Nat}{x:Str}{op:Operator}{ti:TIp}{g:D->D->Store->Res D}(hN:X.N.Nodup)(hi:X.N[i]?=some x)(hx:L2.Loc X.env.scope x)(he:DE X e f)(ho:PIp X op ti)(hr:IpD X.K g ti)(hf:X.fn x=true\/X.env.scope.names.lookup x=some .local:=by first | exact .inl rfl | exact .inr rfl | assumption) :
  DSt X (.AugAssign (.Name x pos') op e pos) (sAug i g f):=zmt (zbda hN hi hx he ho hf) fun E τ H hq0=>by
 obtain⟨ρ,σ,st,fl,st',a,rp,e,q⟩:=hq0;unfold sAug at e;split at e
 ·rename_i d hd;obtain⟨y,st1,e1,e⟩:=za e;obtain⟨z,st2,e2,e⟩:=za e;cases e;obtain⟨u,hu,a0⟩:=a.get hd;refine⟨u,hu,ρ,σ,st,y,st1,a,rp,e1,fun ρ1 H1 w x1 rp1 a1=>?_⟩;exact hr ρ1 H1 st1 d y u w z st' _ rp1 (a0.ext x1) a1 e2 fun ρ2 H2 zz x2 rp2 a2=>q _ _ _ (x1.trans x2) rp2 ((a.ext (x1.trans x2)).set a2 i)
 ·cases e
theorem zvq (he:DE X value h)(ho:DE X o f)(hi:DE X i g)(ha:∀v,assign (.Subscript o i pos') X.env v=(do
   let ov ← holding [v] (eval o X.env)
   let iv ← holding [v,ov] (eval i X.env)
   standAt pos'
   holding [v,ov,iv] (setItem ov iv v)
   release [v,ov,iv] []):=by intro _;rfl)
  (hs:swapsWithSole [.Subscript o i pos'] value pos.line X.env=pure false:=by rfl)(hw:swappedStores [.Subscript o i pos'] value X.env=pure none:=by rfl)
  (h1:(assignEach [.Subscript o i pos'] X.env).map (·.2)=[assign (.Subscript o i pos') X.env]:=by rfl):DSt X (.Assign [.Subscript o i pos'] value pos) (sSetIx f g h) :=
 zmt (zbdb he (zbdg ho hi zty ha) hs hw h1) fun E τ H hq0=>by
 obtain⟨ρ,σ,st,fl,st',a,rp,e,q⟩:=hq0;obtain⟨v,st1,e1,e⟩:=za e;obtain⟨x,st2,e2,e⟩:=za e;obtain⟨y,st3,e3,e⟩:=za e;refine⟨ρ,σ,st,v,st1,a,rp,e1,fun ρ1 H1 u x1 rp1 a1=>?_⟩;refine⟨ρ1,σ,st1,x,st2,a.ext x1,rp1,e2,fun ρ2 H2 w x2 rp2 a2=>?_⟩;refine⟨ρ2,σ,st2,y,st3,a.ext (x1.trans x2),rp2,e3,fun ρ3 H3 t x3 rp3 a3=>?_⟩;split at e
 ·rename_i n k _;split at e
  ·rename_i xs hn;split at e
   ·rename_i j hj;cases e;cases a3;obtain⟨p,rfl,hp,vs,g1,g2⟩:=zga rp3 (a2.ext x3) hn (by intro z;cases z);have E:Ext ρ3 H3 ρ3 (upd H3 p (.lst (vs.set j u))):=Ext.wr hp (zhd g1) _;refine⟨p,vs,k,j,rfl,rfl,g1,by rw[g2.length];exact hj,?_⟩;exact q _ _ _ ((x1.trans (x2.trans x3)).trans E) (rp3.wr hp (zhd g1) ⟨_,zba,(g2.set (a1.ext (x2.trans x3)) j).ext E⟩) (a.ext ((x1.trans (x2.trans x3)).trans E))
   ·cases e
  ·cases e
 ·cases e
end
noncomputable abbrev SG:=D->DS->Option DS
noncomputable def gN (i:Nat):SG:=fun d σ=>some (σ.set i (some d))
noncomputable def gsNil:List D->DS->Option DS:=fun ds σ=>match ds with
 | []=>some σ
 | _=>none
noncomputable def gsCons (t:SG) (u:List D->DS->Option DS):List D->DS->Option DS:=fun ds σ=>match ds with
 | d::r=>(t d σ).bind fun σ1=>u r σ1
 | _=>none
noncomputable def gT (n:Nat) (u:List D->DS->Option DS):SG:=fun d σ=>match d with
 | .tup ds=>if ds.length=n then u ds σ else none
 | _=>none
noncomputable def gD (K:Fg) (b:SG):TG:=fun v τ H Q=>∃ρ σ d σ',AtS K ρ H σ τ/\At K ρ H d v/\b d σ=some σ'/\∀τ',AtS K ρ H σ' τ'->Q τ' H
noncomputable def gDs (K:Fg) (b:List D->DS->Option DS):TGs:=fun vs τ H Q=>∃ρ σ ds σ',AtS K ρ H σ τ/\AtAll K ρ H ds vs/\b ds σ=some σ'/\∀τ',AtS K ρ H σ' τ'->Q τ' H
noncomputable abbrev DG (X:Cx) (tg:Expr) (b:SG):Prop:=PG X tg (gD X.K b)
noncomputable abbrev DGs (X:Cx) (ts:List Expr) (b:List D->DS->Option DS):Prop:=PGs X ts (gDs X.K b)
section
variable {X:Cx}{pos:Pos}{e:Expr}{es:List Expr}{t:SG}{u:List D->DS->Option DS}
theorem zbhc {g g':TG}(h:PG X e g)(k:∀v τ H Q,g' v τ H Q->g v τ H Q):PG X e g':=fun aU s σ H v u Q I r q=>h aU s σ H v u Q I r (k _ _ _ _ q)
theorem zyd {g g':TGs}(h:PGs X es g)(k:∀v τ H Q,g' v τ H Q->g v τ H Q):PGs X es g':=fun aU s σ H v u Q I r q=>h aU s σ H v u Q I r (k _ _ _ _ q)
theorem zbam {i:Nat}{x:Str}(hN:X.N.Nodup)(hi:X.N[i]?=some x)(hx:L2.Loc X.env.scope x)(hf:X.fn x=true\/X.env.scope.names.lookup x=some .local:=by first | exact .inl rfl | exact .inr rfl | assumption):DG X (.Name x pos) (gN i) :=
 zbhc (zyf hN hi hx hf) fun v τ H Q hq0=>by
 obtain⟨ρ,σ,d,σ',a,b,e,q⟩:=hq0;cases e;exact q _ (a.set b i)
theorem zbal:DGs X [] gsNil:=zyd zye fun v τ H Q hq0=>by
 obtain⟨ρ,σ,d,σ',a,b,e,q⟩:=hq0;unfold gsNil at e;split at e
 ·cases e;cases b;exact⟨rfl,q _ a⟩
 ·cases e
theorem zvx (h1:DG X e t)(h2:DGs X es u)(hs:(assignEach (e::es) X.env).map (·.2)=assign e X.env::(assignEach es X.env).map (·.2):=by rfl):DGs X (e::es) (gsCons t u) :=
 zyd (zum h1 h2 hs) fun v τ H Q hq0=>by
 obtain⟨ρ,σ,d,σ',a,b,e,q⟩:=hq0;unfold gsCons at e;split at e
 ·obtain⟨σ1,e1,e2⟩:=xei.mp e;cases b with
  | cons b1 b2=>exact⟨_,_,rfl,ρ,σ,_,σ1,a,b1,e1,fun τ1 a1=>⟨ρ,σ1,_,σ',a1,b2,e2,q⟩⟩
 ·cases e
theorem zbfs {k:Nat}{n:Nat}(hc:X.calm=true)(h:DGs X es u)(hn:(assignEach es X.env).length=n:=by rfl)(hst:(assignEach es X.env).findIdx? (·.1)=none:=by rfl):DG X (.Tuple es k pos) (gT n u) :=
 zbhc (zbdf hc h hn hst) fun v τ H Q hq0=>by
 obtain⟨ρ,σ,d,σ',a,b,e,q⟩:=hq0;unfold gT at e;split at e
 ·split at e
  ·rename_i hl;cases b with
   | tup h1 h2 h3=>exact⟨_,_,rfl,SqT.of h1,by rw[h3.length];exact hl,ρ,σ,_,σ',a,h3,e,q⟩
  ·cases e
 ·cases e
end
structure ExtG (ρ:Loc) (H:Hp) (ρ':Loc) (H':Hp):Prop where
 len:ρ.m.length<=ρ'.m.length
 old:∀(n:Nat) (a:Addr),n < ρ.m.length->ρ'.m[n]?=some (some a)->ρ.m[n]?=some (some a)
 keep:∀a o,H a=some o->some a∉ρ.m->H' a=some o/\some a∉ρ'.m
 gho:∀a∈ρ'.g,a∈ρ.g\/H a=none
 frz:∀a ob u,H a=some (.frz ob u)->H' a=some (.frz ob u)
theorem Ext.toG {ρ ρ':Loc}{H H':Hp}(x:Ext ρ H ρ' H'):ExtG ρ H ρ' H':=⟨x.len,x.old,x.keep,fun a h=>.inl (by rw[← x.gho];exact h),x.frz⟩
theorem ExtG.then {ρ ρ1 ρ2:Loc}{H H1 H2:Hp}(a:ExtG ρ H ρ1 H1)(b:Ext ρ1 H1 ρ2 H2):ExtG ρ H ρ2 H2 :=
 ⟨xbc a.len b.len,fun n c h e=>a.old n c h (b.old n c (xbg h a.len) e),fun c o e n=>by
  obtain⟨e1,n1⟩:=a.keep c o e n
  exact b.keep c o e1 n1,fun c h=>a.gho c (by rw[← b.gho];exact h),fun c ob u e=>b.frz c ob u (a.frz c ob u e)⟩
theorem ExtG.out {ρ ρ':Loc}{H H':Hp}(x:ExtG ρ H ρ' H'){a:Addr}{o:HO}(h:H a=some o)(n:Out ρ a):H' a=some o/\Out ρ' a :=
 ⟨(x.keep a o h n.1).1,(x.keep a o h n.1).2,fun z=>by
  rcases x.gho a z with q | q
  ·exact n.2 q
  ·rw[h] at q;cases q⟩
theorem ExtG.mv {ρ ρ':Loc}{H H':Hp}(x:ExtG ρ H ρ' H'):Mv ρ H ρ' H':=⟨fun h n=>x.out h n,x.len,x.old⟩
theorem At.extG {K:Fg}{ρ ρ':Loc}{H H':Hp}(x:ExtG ρ H ρ' H'){d:D}{v:V}(h:At K ρ H d v):At K ρ' H' d v:=h.mv x.mv
theorem Ls.extG {K:Fg}{ρ ρ':Loc}{H H':Hp}{a:Addr}{vs:List V}(x:ExtG ρ H ρ' H')(h:Ls K ρ H a vs):Ls K ρ' H' a vs:=h.mv x.mv
structure ItOk (K:Fg) (ρ:Loc) (H:Hp) (J:It) (xs:List D):Prop where
 item:∀ρ2 H2,ExtG ρ H ρ2 H2->∀(i:Nat) (x:D),xs[i]?=some x->J.go i H2/\∀y H3,J.yld i H2 y H3->Ext ρ2 H2 ρ2 H3/\∀st,Rep K ρ2 st H2->Rep K ρ2 st H3/\At K ρ2 H3 x y
 done:∀ρ2 H2,ExtG ρ H ρ2 H2->∀i:Nat,xs.length<=i->J.stop i H2
noncomputable def iD (K:Fg) (f:SA):TI:=fun τ H R=>∃ρ σ st xs st',AtS K ρ H σ τ/\Rep K ρ st H/\f σ st=.ok xs st'/\∀ρ' H' J,Ext ρ H ρ' H'->Rep K ρ' st' H'->ItOk K ρ' H' J xs->R J H'
noncomputable abbrev DI (X:Cx) (tg iter:Expr) (f:SA):Prop:=PI X tg iter (iD X.K f)
noncomputable def seqV:D->Option (List D)
 | .tup xs=>some xs
 | .lst xs=>some xs
 | .scr xs=>some xs
 | _=>none
noncomputable def aH (f:SE):SA:=fun σ st=>(f σ st).bind fun x st1=>match seqV x with
 | some xs=>.ok xs st1
 | none=>.stuck
noncomputable def rng (lo:Int) (n:Nat):List D:=(List.range n).map fun(i:Nat)=>D.int (lo+i)
noncomputable def iR1 (g:SA):SA:=fun σ st=>(g σ st).bind fun xs st1=>match xs with
 | [.int j]=>if -(2 ^ 62)<=j/\j < 2 ^ 62 then .ok (rng 0 j.toNat) st1 else .stuck
 | _=>.stuck
noncomputable def iR2 (g:SA):SA:=fun σ st=>(g σ st).bind fun xs st1=>match xs with
 | [.int i,.int j]=>if -(2 ^ 62)<=i/\i < 2 ^ 62/\-(2 ^ 62)<=j/\j < 2 ^ 62 then .ok (rng i (j - i).toNat) st1 else .stuck
 | _=>.stuck
theorem zhz {lo:Int}{n i:Nat}{x:D}(h:(rng lo n)[i]?=some x):i < n/\x=.int (lo+i):=by
 unfold rng at h;rw[xcm] at h;rcases xfe i n with z | z
 ·rw[List.getElem?_range z] at h;exact⟨z,(xck h).symm⟩
 ·rw[xhi (by rw[xkj];exact z)] at h;cases h
theorem zbep {K:Fg}{ρ:Loc}{H:Hp}{lo:Int}{n:Nat}:ItOk K ρ H (Itr lo n) (rng lo n) where
 item:=fun ρ2 H2 x i d e=>by
  obtain⟨h1,rfl⟩:=zhz e;refine⟨h1,fun y H3 hy=>?_⟩;obtain⟨rfl,rfl⟩:=hy;exact⟨.refl _ _,fun _ r=>⟨r,.int _⟩⟩
 done:=fun ρ2 H2 x i h=>by
  unfold rng at h;rw[xbd,xkj] at h;exact h
section
variable {X:Cx}{tg l a b:Expr}{f:SE}{g:SA}{p pos:Pos}
theorem zwr {t t':TI}(h:PI X tg l t)(k:∀τ H R,t' τ H R->t τ H R):PI X tg l t':=fun aU s σ H R I q=>h aU s σ H R I (k _ _ _ q)
theorem zbhv {t t':TI}(h:PI X tg l t)(h':PI X tg l t'):PI X tg l (fun τ H R=>t τ H R\/t' τ H R):=fun aU s σ H R I q=>by
 rcases q with q | q
 ·exact h aU s σ H R I q
 ·exact h' aU s σ H R I q
theorem zto {K:Fg}{ρ:Loc}{H:Hp}{p:Addr}{xs:List D}{vs:List V}(hs:∀ρ2 H2,ExtG ρ H ρ2 H2->SqL K H2 p vs)(al:AtAll K ρ H xs vs):ItOk K ρ H (Itl K p) xs where
 item:=fun ρ2 H2 x i d e=>by
  obtain⟨v,hv,a⟩:=al.get e;refine⟨⟨vs,v,hs _ _ x,hv⟩,fun y H3 hy=>?_⟩;obtain⟨rfl,h2⟩:=hy;have:=h2 vs (hs _ _ x);rw[hv] at this;cases this;exact⟨.refl _ _,fun _ r=>⟨r,a.extG x⟩⟩
 done:=fun ρ2 H2 x i h=>⟨vs,hs _ _ x,by rw[al.length];exact h⟩
theorem zbgt {K:Fg}{ρ:Loc}{H:Hp}{p:Addr}{xs:List D}{vs:List V}(hs:∀ρ2 H2,ExtG ρ H ρ2 H2->SqT K H2 p vs)(al:AtAll K ρ H xs vs):ItOk K ρ H (Itt K p) xs where
 item:=fun ρ2 H2 x i d e=>by
  obtain⟨v,hv,a⟩:=al.get e;refine⟨⟨vs,v,hs _ _ x,hv⟩,fun y H3 hy=>?_⟩;obtain⟨rfl,h2⟩:=hy;have:=h2 vs (hs _ _ x);rw[hv] at this;cases this;exact⟨.refl _ _,fun _ r=>⟨r,a.extG x⟩⟩
 done:=fun ρ2 H2 x i h=>⟨vs,hs _ _ x,by rw[al.length];exact h⟩
theorem zbfr (hl:DE X l f):DI X tg l (aH f):=zwr (zbhv (zyb hl) (zbdd hl)) fun τ H R hq0=>by
 obtain⟨ρ,σ,st,xs,st',a,rp,e,q⟩:=hq0;obtain⟨x,st1,e1,e⟩:=za e;cases x with
 | tup ys =>
  cases e;refine .inr ⟨ρ,σ,st,_,_,a,rp,e1,fun ρ1 H1 u x1 rp1 a1=>?_⟩;cases a1 with
  | tup h1 h2 h3=>exact⟨_,rfl,⟨_,SqT.of h1⟩,q _ _ _ x1 rp1 (zbgt (fun ρ2 H2 x2=>SqT.of (x2.out h1 h2).1) h3)⟩
 | lst ys =>
  cases e;refine .inl ⟨ρ,σ,st,_,_,a,rp,e1,fun ρ1 H1 u x1 rp1 a1=>?_⟩;cases a1 with
  | lst h1 h2 h3=>exact⟨_,rfl,⟨_,SqL.of h1⟩,q _ _ _ x1 rp1 (zto (fun ρ2 H2 x2=>SqL.of (x2.out h1 h2).1) h3)⟩
 | scr ys =>
  cases e;refine .inl ⟨ρ,σ,st,_,_,a,rp,e1,fun ρ1 H1 u x1 rp1 a1=>?_⟩;cases a1 with
  | scr h1 h3=>exact⟨_,rfl,⟨_,h1.sq⟩,q _ _ _ x1 rp1 (zto (fun ρ2 H2 x2=>(h1.extG x2).sq) h3)⟩
 | _=>cases e
theorem zrp (hg:Gl X "range")(hm:X.mg "range"=none)(ha:DA X [a] g)(hs:starEach [a] X.env=[(false, eval a X.env)]:=by rfl):DI X tg (.Call (.Name "range" p) [a] [] pos) (iR1 g) :=
 zwr (zqn hg hm ha hs) fun τ H R hq0=>by
 obtain⟨ρ,σ,st,xs,st',a,rp,e,q⟩:=hq0;obtain⟨x,st1,e1,e⟩:=za e;split at e
 ·split at e
  ·rename_i hj;cases e;refine⟨ρ,σ,st,_,_,a,rp,e1,fun ρ1 H1 u x1 rp1 a1=>?_⟩;obtain⟨w,rfl,a2⟩:=a1.one;cases a2;exact⟨_,rfl,hj.1,hj.2,q _ _ _ x1 rp1 zbep⟩
  ·cases e
 ·cases e
end
noncomputable def iDict (f:SE):SA:=fun σ st=>(f σ st).bind fun x st1=>match x with
 | .ref n=>match st1[n]? with
  | some (.dT kvs)=>.ok (aJ (kvs.map (·.1))) (st1.set n (.fT kvs))
  | _=>.stuck
 | _=>.stuck
section
variable {X:Cx}{tg l:Expr}{f:SE}
theorem zbak (hl:DE X l f):DI X tg l (iDict f):=zwr (zyc hl) fun τ H R hq0=>by
 obtain⟨ρ,σ,st,xs,st',a,rp,e,q⟩:=hq0;obtain⟨x,st1,e1,e⟩:=za e;refine⟨ρ,σ,st,x,st1,a,rp,e1,fun ρ1 H1 u x1 rp1 a1=>?_⟩;split at e
 ·rename_i n;split at e
  ·rename_i kvs hn;cases e;obtain⟨p,rfl,hp,vs,g1,g2⟩:=zga rp1 a1 hn (by intro z;cases z);refine⟨p,vs,kvs.map (·.1),rfl,g1,g2.keys,fun ob ps h1 h2=>?_⟩;have E:Ext ρ1 H1 ρ1 (upd H1 p (.frz ob (.dT vs))):=Ext.wr hp (zkr g1) _;have R:Rep X.K ρ1 (st1.set n (.fT kvs)) (upd H1 p (.frz ob (.dT vs))):=rp1.wr hp (zkr g1) ⟨vs,ob,zba,g2.ext E⟩;refine q _ _ _ (x1.trans E) R ⟨fun ρ2 H2 x2 i d e=>?_,fun ρ2 H2 x2 i h=>?_⟩
   ·have e2:(ps.map (·.2))[i]?=(kvs.map (·.1))[i]?:=by rw[h1]
    unfold aJ at e;rw[xcm,← e2,xcm] at e;cases hi:ps[i]? with
    | none=>rw[hi] at e;cases e
    | some x =>
     rw[hi] at e;cases e;refine⟨⟨(xbk.mp hi).1,x2.frz _ _ _ zba⟩,fun y H3 hy=>?_⟩;obtain⟨rfl,x',hx',rfl⟩:=hy;rw[hi] at hx';cases hx';have ht:=h2 x (xcc hi);have a3:At X.K ρ1 H1 (aL x.2) (.ref x.1):=.tup ht (zkq rp1 ht) (zhg _);exact⟨.refl _ _,fun _ r=>⟨r,(a3.ext E).extG x2⟩⟩
   ·have e2:=congrArg List.length h1;rw[xbd] at e2;unfold aJ at h;rw[xbd,← e2] at h;exact⟨h,x2.frz _ _ _ zba⟩
  ·cases e
 ·cases e
end
noncomputable def forF (bd:SG) (body:SS):List D->SS
 | [],σ,st=>.ok (.nx σ) st
 | x::xs,σ,st=>match bd x σ with
  | none=>.stuck
  | some σ1=>match body σ1 st with
   | .ok (.nx σ2) st2=>forF bd body xs σ2 st2
   | .ok (.ct σ2) st2=>forF bd body xs σ2 st2
   | .ok (.brk σ2) st2=>.ok (.nx σ2) st2
   | r=>r
noncomputable def sFor (it:SA) (bd:SG) (body:SS):SS:=fun σ st=>(it σ st).bind fun xs st1=>forF bd body xs σ st1
noncomputable def whileF (c:ST) (body:SS):Nat->SS
 | 0,_,_=>.stuck
 | n+1,σ,st=>(c σ st).bind fun b st1=>if b=true then(match body σ st1 with
  | .ok (.nx σ2) st2=>whileF c body n σ2 st2
  | .ok (.ct σ2) st2=>whileF c body n σ2 st2
  | .ok (.brk σ2) st2=>.ok (.nx σ2) st2
  | r=>r) else .ok (.nx σ) st1
noncomputable def wCap:Nat:=1000000
noncomputable def sWhile (c:ST) (body:SS):SS:=whileF c body wCap
theorem zta {α:Type}{xs:List α}{i:Nat}(h:i < xs.length):∃x,xs[i]?=some x/\xs.drop i=x::xs.drop (i+1):=⟨xs[i],xbi h,xfl h⟩
section
variable {X:Cx}{tg iter c:Expr}{body:List Stmt}{it:SA}{bd:SG}{b:SS}{t:ST}{pos:Pos}
theorem zbfn (hp:PassesOwn (model X.prog X.w) X.A X.env X.xe)(hc:X.calm=true)(hi:DI X tg iter it)(hg:DG X tg bd)(hb:DSs X body b)(hs:∀x,foldedSetIterable iter X.env x=pure x:=by intro _;rfl) :
  DSt X (.For tg iter body [] pos) (sFor it bd b):=zmt (zbcz hp hc hi hg hb hs) fun E τ H hq0=>by
 obtain⟨ρ,σ,st,fl,st',a,rp,e,q⟩:=hq0;obtain⟨xs,st1,e1,e⟩:=za e;refine⟨ρ,σ,st,xs,st1,a,rp,e1,fun ρ1 H1 J x1 rp1 ok=>?_⟩;have q1:=q.ext x1;refine⟨fun i m τ' H'=>i+m=xs.length/\∃ρ2 σ2 st2,Ext ρ1 H1 ρ2 H'/\AtS X.K ρ2 H' σ2 τ'/\Rep X.K ρ2 st2 H'/\forF bd b (xs.drop i) σ2 st2=.ok fl st',⟨xs.length,by lia,ρ1,σ,st1,.refl _ _,a.ext x1,rp1,e⟩,?_⟩;rintro i m τ' H' ⟨him,ρ2,σ2,st2,x2,a2,rp2,e2⟩;rcases xfe i xs.length with hlt | hge
 ·obtain⟨x,hx,hd⟩:=zta hlt;rw[hd] at e2;obtain⟨go,yl⟩:=ok.item ρ2 H' x2.toG i x hx;refine .inr ⟨go,fun τ3 H3=>∃ρ3 σ3 st3,Ext ρ1 H1 ρ3 H3/\AtS X.K ρ3 H3 σ3 τ3/\Rep X.K ρ3 st3 H3/\forF bd b (xs.drop (i+1)) σ3 st3=.ok fl st',fun τ3 H3 ⟨ρ3,σ3,st3,n1,n2,n3,n4⟩=>⟨m - 1,by lia,by lia,ρ3,σ3,st3,n1,n2,n3,n4⟩,fun y H3 hy=>?_⟩;obtain⟨y1,y4⟩:=yl y H3 hy;obtain⟨y2,y3⟩:=y4 _ rp2;unfold forF at e2;cases hbd:bd x σ2 with
  | none=>rw[hbd] at e2;cases e2
  | some σ1 =>
   rw[hbd] at e2;dsimp only at e2;have X3:=x2.trans y1;refine⟨ρ2,σ2,x,σ1,a2.ext y1,y3,hbd,fun τ4 a4=>?_⟩;cases hr:b σ1 st2 with
   | stuck=>rw[hr] at e2;cases e2
   | exc z w=>rw[hr] at e2;cases e2
   | ok fb st3 =>
    rw[hr] at e2;refine⟨ρ2,σ1,st2,fb,st3,a4,y2,hr,?_⟩;cases fb with
    | nx σ3=>exact fun ρ' H'' τ5 x5 rp5 a5=>⟨ρ',σ3,st3,X3.trans x5,a5,rp5,e2⟩
    | ct σ3=>exact fun ρ' H'' τ5 x5 rp5 a5=>⟨ρ',σ3,st3,X3.trans x5,a5,rp5,e2⟩
    | brk σ3 =>
     dsimp only at e2;cases e2;exact fun ρ' H'' τ5 x5 rp5 a5=>q1 _ _ _ (X3.trans x5) rp5 a5
    | ret v =>
     dsimp only at e2;cases e2;exact fun ρ' H'' u x5 rp5 a5=>q1 _ _ _ (X3.trans x5) rp5 a5
 ·rw[xhb hge] at e2;unfold forF at e2;cases e2;exact .inl ⟨ok.done ρ2 H' x2.toG i hge,q1 _ _ _ x2 rp2 a2⟩
theorem zvp (hp:PassesOwn (model X.prog X.w) X.A X.env X.xe)(hc:DT X c t)(hb:DSs X body b):DSt X (.While c body [] pos) (sWhile t b):=zmt (zui hp hc hb) fun E τ H hq0=>by
 obtain⟨ρ,σ,st,fl,st',a,rp,e,q⟩:=hq0;unfold sWhile at e;generalize wCap=n at e;refine⟨fun m τ' H'=>∃ρ2 σ2 st2,Ext ρ H ρ2 H'/\AtS X.K ρ2 H' σ2 τ'/\Rep X.K ρ2 st2 H'/\whileF t b m σ2 st2=.ok fl st',⟨n,ρ,σ,st,.refl _ _,a,rp,e⟩,?_⟩;rintro m τ' H' ⟨ρ2,σ2,st2,x2,a2,rp2,e2⟩;cases m with
 | zero=>unfold whileF at e2;cases e2
 | succ m =>
  unfold whileF at e2;obtain⟨x,st3,e3,e4⟩:=za e2;refine⟨ρ2,σ2,st2,x,st3,a2,rp2,e3,fun ρ3 H3 x3 rp3=>?_⟩;have X3:=x2.trans x3;cases x with
  | false =>
   rw[if_neg (by decide)] at e4;cases e4;exact iteF (q _ _ _ X3 rp3 (a2.ext x3))
  | true =>
   rw[if_pos rfl] at e4;refine iteT ⟨fun τ4 H4=>∃ρ4 σ4 st4,Ext ρ H ρ4 H4/\AtS X.K ρ4 H4 σ4 τ4/\Rep X.K ρ4 st4 H4/\whileF t b m σ4 st4=.ok fl st',fun τ4 H4 hh=>⟨m,xit m,hh⟩,?_⟩;cases hr:b σ2 st3 with
   | stuck=>rw[hr] at e4;cases e4
   | exc z w=>rw[hr] at e4;cases e4
   | ok fb st5 =>
    rw[hr] at e4;refine⟨ρ3,σ2,st3,fb,st5,a2.ext x3,rp3,hr,?_⟩;cases fb with
    | nx σ3=>exact fun ρ' H'' τ5 x5 rp5 a5=>⟨ρ',σ3,st5,X3.trans x5,a5,rp5,e4⟩
    | ct σ3=>exact fun ρ' H'' τ5 x5 rp5 a5=>⟨ρ',σ3,st5,X3.trans x5,a5,rp5,e4⟩
    | brk σ3 =>
     dsimp only at e4;cases e4;exact fun ρ' H'' τ5 x5 rp5 a5=>q _ _ _ (X3.trans x5) rp5 a5
    | ret v =>
     dsimp only at e4;cases e4;exact fun ρ' H'' u x5 rp5 a5=>q _ _ _ (X3.trans x5) rp5 a5
end
noncomputable def compF (bd:SG) (c:ST) (f:SE):List D->DS->Store->Res (List D)
 | [],_,st=>.ok [] st
 | x::xs,σ,st=>match bd x σ with
  | none=>.stuck
  | some σ1=>(c σ1 st).bind fun b st1=>if b=true then(f σ1 st1).bind fun y st2=>(compF bd c f xs σ1 st2).bind fun ys st3=>.ok (y::ys) st3 else compF bd c f xs σ1 st1
noncomputable def aS (k:Nat) (is:List Nat) (σ:DS):DS:=List.replicate k none++is.map fun i=>(σ[i]?).getD none
noncomputable def aG (it:SA) (k:Nat) (is:List Nat) (bd:SG) (c:ST) (f:SE):SE:=fun σ st=>(it σ st).bind fun xs st1=>if xs.length<=sizeLine then(compF bd c f xs (aS k is σ) st1).bind fun ys st2=>.ok (.lst ys) st2 else .stuck
noncomputable def aI:ST:=fun _ st=>.ok true st
theorem AtS.start {K:Fg}{ρ:Loc}{H:Hp}{σ:DS}{τ:St}(h:AtS K ρ H σ τ)(k:Nat)(is:List Nat):AtS K ρ H (aS k is σ) (startC k is τ):=by
 have app:∀{a c:DS} {b d:St},AtS K ρ H a b->AtS K ρ H c d->AtS K ρ H (a++c) (b++d):=fun h1 h2=>by
  induction h1 with
  | nil=>exact h2
  | cons r t ih=>exact .cons r ih
 refine app ?_ ?_
 ·induction k with
  | zero=>exact .nil
  | succ k ih=>exact .cons (fun d e=>nomatch e) ih
 ·induction is with
  | nil=>exact .nil
  | cons i is ih =>
   refine .cons (fun d e=>?_) ih;have e:(σ[i]?).getD none=some d:=e;have e':σ[i]?=some (some d):=by
    cases q:σ[i]? with
    | none=>rw[q] at e;cases e
    | some o=>rw[q] at e;exact congrArg some e
   obtain⟨u,hu,a⟩:=h.get e';exact⟨u,by show(τ[i]?).getD none=some u;rw[hu];rfl,a⟩
noncomputable def Loc.with (ρ:Loc) (p:Addr):Loc:=⟨ρ.m,p::ρ.g⟩
theorem zww {ρ:Loc}{H:Hp}{p:Addr}{o:HO}(hp:H p=none):Mv ρ H (ρ.with p) (upd H p o):=⟨fun e n=>⟨by rw[zr (zj e hp)];exact e,n.1,fun z=>by
 rcases xbn.mp z with z | z
 ·exact zj e hp z
 ·exact n.2 z⟩,xbf _,fun _ _ _ e=>e⟩
theorem At.with {K:Fg}{ρ:Loc}{H:Hp}{p:Addr}{o:HO}(hp:H p=none){d:D}{v:V}(h:At K ρ H d v):At K (ρ.with p) (upd H p o) d v:=h.mv (zww hp)
theorem zsv {ρ ρ':Loc}{H:Hp}{p:Addr}{o:HO}(hm:ρ'.m=ρ.m)(hg:p∈ρ.g)(hs:∀a,a∈ρ'.g->a∈ρ.g):Mv ρ H ρ' (upd H p o):=⟨fun e n=>⟨by rw[zr (by rintro rfl;exact n.2 hg)];exact e,by rw[hm];exact n.1,fun z=>n.2 (hs _ z)⟩,by rw[hm];exact xbf _,fun _ _ _ e=>by rw[hm] at e;exact e⟩
theorem At.grow {K:Fg}{ρ ρ':Loc}{H:Hp}{p:Addr}{o:HO}(hm:ρ'.m=ρ.m)(hg:p∈ρ.g)(hs:∀a,a∈ρ'.g->a∈ρ.g){d:D}{v:V}(h:At K ρ H d v):At K ρ' (upd H p o) d v:=h.mv (zsv hm hg hs)
theorem AtAll.grow {K:Fg}{ρ ρ':Loc}{H:Hp}{p:Addr}{o:HO}(hm:ρ'.m=ρ.m)(hg:p∈ρ.g)(hs:∀a,a∈ρ'.g->a∈ρ.g){d:List D}{v:List V}(h:AtAll K ρ H d v):AtAll K ρ' (upd H p o) d v:=h.mv (zsv hm hg hs)
theorem OAt.map {K:Fg}{ρ ρ':Loc}{H H':Hp}{a:Addr}{x:O}(k:∀d v,At K ρ H d v->At K ρ' H' d v)(fz:∀b ob u,H b=some (.frz ob u)->H' b=some (.frz ob u))(same:H' a=H a)(h:OAt K ρ H x a):OAt K ρ' H' x a:=by
 have ka:∀{d:List D} {v:List V},AtAll K ρ H d v->AtAll K ρ' H' d v:=fun {d v} h=>by
  induction d generalizing v with
  | nil=>cases h;exact .nil
  | cons x xs ih=>cases h with | cons a b=>exact .cons (k _ _ a) (ih b)
 cases x with
 | lst xs=>obtain⟨vs,q,r⟩:=h;exact⟨vs,by rw[same];exact q,ka r⟩
 | dT kvs=>obtain⟨vs,q,r⟩:=h;exact⟨vs,by rw[same];exact q,Paired.mapP r fun p q z=>⟨z.1,k _ _ z.2⟩⟩
 | fT kvs=>obtain⟨vs,ob,q,r⟩:=h;exact⟨vs,ob,by rw[same];exact q,Paired.mapP r fun p q z=>⟨z.1,k _ _ z.2⟩⟩
 | dI kvs=>obtain⟨vs,q,r⟩:=h;exact⟨vs,by rw[same];exact q,Paired.mapP r fun p q z=>⟨z.1,k _ _ z.2⟩⟩
 | dead=>exact h.elim
 | tab=>obtain⟨c,ps,q,r⟩:=h;exact⟨c,ps,by rw[same];exact q,r.map fz⟩
theorem Rep.with {K:Fg}{ρ:Loc}{st:Store}{H:Hp}{p:Addr}(r:Rep K ρ st H)(hp:H p=none)(vs:List V):Rep K (ρ.with p) st (upd H p (.lst vs)) :=
 ⟨r.len,r.inj,fun m b y e1 e2=>by
  have q:=r.obj m b y e1 e2;obtain⟨u,hu⟩:=q.has;exact q.map (fun d v h=>h.with hp) (fun b ob u e=>by rw[zr (zj e hp)];exact e) (zr (zj hu hp)),fun a ha=>by
  rcases xbn.mp ha with rfl | ha
  ·exact⟨⟨vs,zba⟩,(zhb r hp).1⟩
  ·obtain⟨⟨ws,h1⟩,h2⟩:=r.gh a ha
   exact⟨⟨ws,by rw[zr (zj h1 hp)];exact h1⟩,h2⟩,r.live⟩
theorem Rep.grow {K:Fg}{ρ ρ':Loc}{st:Store}{H:Hp}{p:Addr}(r:Rep K ρ st H)(hm:ρ'.m=ρ.m)(hg:p∈ρ.g)(hs:∀a,a∈ρ'.g->a∈ρ.g)(vs:List V):Rep K ρ' st (upd H p (.lst vs)) :=
 ⟨by rw[hm];exact r.len,by rw[hm];exact r.inj,fun m b y e1 e2=>by
  rw[hm] at e1;refine(r.obj m b y e1 e2).map (fun d v h=>h.grow hm hg hs) (fun b ob u e=>by rw[zr (by rintro rfl;obtain⟨⟨_,z⟩,_⟩:=r.gh _ hg;rw[e] at z;cases z)];exact e) (zr ?_);rintro rfl;exact(r.gh b hg).2 (xcc e1),fun a ha=>by
  obtain⟨⟨ws,h1⟩,h2⟩:=r.gh a (hs a ha);refine⟨?_,by rw[hm];exact h2⟩;by_cases e:a=p
  ·subst e;exact⟨vs,zba⟩
  ·exact⟨ws,by rw[zr e];exact h1⟩,by rw[hm];exact r.live⟩
theorem AtS.map {K:Fg}{ρ ρ':Loc}{H H':Hp}{σ:DS}{τ:St}(k:∀d v,At K ρ H d v->At K ρ' H' d v)(h:AtS K ρ H σ τ):AtS K ρ' H' σ τ:=Paired.mapP h fun o v z d e=>by
 obtain⟨u,e1,a⟩:=z d e;exact⟨u,e1,k _ _ a⟩
section
variable {X:Cx}{tg iter elt:Expr}{ifs:List Expr}{it:SA}{bd:SG}{c:ST}{f:SE}{N:List Str}{k:Nat}{is:List Nat}{scope:Scope}{pos:Pos}
inductive CI (K:Fg) (bd:SG) (c:ST) (f:SE) (xs ys:List D) (st2:Store) (ρ1:Loc) (H1:Hp) (p:Addr) (i:Nat) (τ:St) (H':Hp):Prop where
 | mk {ρ2:Loc} {σ2:DS} {st3:Store} {acc:List D} {accV:List V} {zs:List D} (x2:ExtG ρ1 H1 ρ2 H') (hg:ρ2.g=p::ρ1.g) (hpp:H' p=some (.lst accV)) (hal:AtAll K ρ2 H' acc accV) (hli:acc.length<=i) (a2:AtS K ρ2 H' σ2 τ) (rp2:Rep K ρ2 st3 H') (e3:compF bd c f (xs.drop i) σ2 st3=.ok zs st2) (hac:acc++zs=ys):CI K bd c f xs ys st2 ρ1 H1 p i τ H'
theorem zbbd {K:Fg}{τ:St}{H:Hp}{Q:V->Hp->Prop}{ρ:Loc}{σ:DS}{st st1 st2:Store}{xs ys:List D}(a:AtS K ρ H σ τ)(rp:Rep K ρ st H)(e1:it σ st=.ok xs st1)(hlen:xs.length<=sizeLine)(e2:compF bd c f xs (aS k is σ) st1=.ok ys st2)
 (fin:∀ρ1 H1 p ρ2 H' accV,Ext ρ H ρ1 H1->Rep K ρ1 st1 H1->H1 p=none->ExtG ρ1 H1 ρ2 H'->ρ2.g=p::ρ1.g->H' p=some (.lst accV)->AtAll K ρ2 H' ys accV->Rep K ρ2 st2 H'->Q (.ref p) H'):tComp (iD K it) k is (gD K bd) (tDT K c) (tD K f) τ H Q:=by
 refine⟨ρ,σ,st,xs,st1,a,rp,e1,fun ρ1 H1 J x1 rp1 ok p hp=>?_⟩
 refine⟨fun i m τ' H'=>i+m=xs.length/\CI K bd c f xs ys st2 ρ1 H1 p i τ' H',
  ⟨xs.length,by lia,.mk ?_ rfl zba .nil (xdg _) (((a.ext x1).start k is).map fun d v h=>h.with hp) (rp1.with hp []) e2 rfl⟩,?_⟩
 ·have E:Ext ρ1 H1 ρ1 (upd H1 p (.lst [])):=Ext.new hp _
  exact⟨E.len,E.old,E.keep,fun a h=>by
   rcases xbn.mp h with rfl | h
   ·exact .inr hp
   ·exact .inl h,E.frz⟩
 rintro i m τ' H' ⟨him,@⟨ρ2,σ2,st3,acc,accV,zs,x2,hg,hpp,hal,hli,a2,rp2,e3,hac⟩⟩;have hpg:p∈ρ2.g:=by rw[hg];exact xbz
 rcases xfe i xs.length with hlt | hge
 ·obtain⟨x,hx,hd⟩:=zta hlt;rw[hd] at e3;obtain⟨go,yl⟩:=ok.item ρ2 H' x2 i x hx
  refine .inr ⟨go,CI K bd c f xs ys st2 ρ1 H1 p (i+1),
   fun τ4 H4 hh=>⟨m - 1,by lia,by lia,hh⟩,fun y H3 hy=>?_⟩
  obtain⟨y1,y4⟩:=yl y H3 hy;obtain⟨y2,y3⟩:=y4 _ rp2;unfold compF at e3;cases hbd:bd x σ2 with
  | none=>rw[hbd] at e3;cases e3
  | some σ1 =>
   rw[hbd] at e3;dsimp only at e3;obtain⟨bb,st4,e4,e5⟩:=za e3;refine⟨ρ2,σ2,x,σ1,a2.ext y1,y3,hbd,fun τ4 a4=>?_⟩;have hpm:some p∉ρ2.m:=(rp2.gh p hpg).2;have hpp3:=(y1.keep p _ hpp hpm).1;refine⟨ρ2,σ1,st3,bb,st4,a4,y2,e4,fun ρ5 H5 x5 rp5=>?_⟩;have hpp5:=(x5.keep p _ hpp3 hpm).1;have hal5:=(hal.ext y1).ext x5;have g5:ρ5.g=p::ρ1.g:=x5.gho.trans hg;cases bb with
   | false =>
    rw[if_neg (by decide)] at e5;exact iteF (.mk ((x2.then y1).then x5) g5 hpp5 hal5 (xfr hli) (a4.ext x5) rp5 e5 hac)
   | true =>
    rw[if_pos rfl] at e5;obtain⟨w,st6,e6,e7⟩:=za e5;obtain⟨zs',st7,e8,e9⟩:=za e7;cases e9;refine iteT ⟨ρ5,σ1,st4,w,st6,a4.ext x5,rp5,e6,fun ρ6 H6 u x6 rp6 a6=>?_⟩;have hpm5:some p∉ρ5.m:=(x5.keep p _ hpp3 hpm).2;have hpp6:=(x6.keep p _ hpp5 hpm5).1;have g6:ρ6.g=p::ρ1.g:=x6.gho.trans g5;have hp6:p∈ρ6.g:=by rw[g6];exact xbz
    have hl6:accV.length<=i:=by rw[hal.length];exact hli
    refine⟨accV,hpp6,xcp hl6 (xbg hlt hlen),.mk (acc:=acc++[w]) (accV:=accV++[u]) ?_ g6 zba ?_ (by rw[xbp];exact xej hli) ?_ (rp6.grow rfl hp6 (fun _ h=>h) _) e8 (by rw[← hac,xcn];rfl)⟩
    ·have G:=((x2.then y1).then x5).then x6;refine⟨G.len,G.old,fun b o e n=>?_,G.gho,fun b ob uu e=>?_⟩
     ·rw[zr (zj e hp)];exact G.keep b o e n
     ·rw[zr (zj e hp)];exact G.frz b ob uu e
    ·exact((hal5.ext x6).append (.cons a6 .nil)).grow rfl hp6 (fun _ h=>h)
    ·exact(a4.ext (x5.trans x6)).map fun d v h=>h.grow rfl hp6 (fun _ h=>h)
 ·rw[xhb hge] at e3;unfold compF at e3;cases e3;rw[xef] at hac;subst hac;exact .inl ⟨ok.done _ _ x2 i hge,fin _ _ _ _ _ _ x1 rp1 hp x2 hg hpp hal rp2⟩
theorem zbbb {K:Fg}:∀τ H Q,tD K (aG it k is bd c f) τ H Q->tComp (iD K it) k is (gD K bd) (tDT K c) (tD K f) τ H Q:=fun τ H Q hq0=>by
 obtain⟨ρ,σ,st,v,st',a,rp,e,q⟩:=hq0;obtain⟨xs,st1,e1,e⟩:=za e;split at e
 ·rename_i hlen;obtain⟨ys,st2,e2,e⟩:=za e;cases e;refine zbbd a rp e1 hlen e2 fun ρ1 H1 p ρ2 H' accV x1 rp1 hp x2 hg hpp hal rp2=>?_
  have hpg:p∈ρ2.g:=by rw[hg];exact xbz
  have hpm:some p∉ρ2.m:=(rp2.gh p hpg).2;have self:upd H' p (.lst accV)=H':=ztv hpp;have sub:∀a,a∈(⟨ρ2.m,ρ1.g⟩:Loc).g->a∈ρ2.g:=fun b hb=>by rw[hg];exact xca _ hb
  have E:Ext ρ1 H1 ⟨ρ2.m,ρ1.g⟩ H':=⟨x2.len,x2.old,x2.keep,rfl,x2.frz⟩
  have R:=rp2.grow (ρ':=⟨ρ2.m,ρ1.g⟩) rfl hpg sub accV;have L:=AtAll.grow (ρ:=ρ2) (ρ':=⟨ρ2.m,ρ1.g⟩) (o:=.lst accV) rfl hpg sub hal;rw[self] at R L;refine q _ _ _ (x1.trans E) R (.lst hpp ⟨hpm,fun z=>?_⟩ L);obtain⟨⟨ws,h1⟩,_⟩:=rp1.gh p z;rw[hp] at h1;cases h1
 ·cases e
theorem zbgc (hcalm:X.calm=true)(hi:DI X tg iter it)(hg:∀cl C fp s H,DG (cxC X N scope cl C fp s H) tg bd)(hc:∀cl C fp s H,PIf (cxC X N scope cl C fp s H) ifs (tDT X.K c))(he:∀cl C fp s H,DE (cxC X N scope cl C fp s H) elt f)
 (S:CompScope X N k is scope)(hs:∀x,foldedSetIterable iter X.env x=pure x:=by intro _;rfl):DE X (.ListComp elt [⟨tg,iter,ifs,0⟩] scope pos) (aG it k is bd c f):=zef (zyi hcalm hi hg hc he S hs) zbbb
theorem zzy {i:Nat}{x:Str}{pos' spos:Pos}(hcalm:X.calm=true)(hN:X.N.Nodup)(hxi:X.N[i]?=some x)(hx:L2.Loc X.env.scope x)(hi:DI X tg iter it)(hg:∀cl C fp s H,DG (cxC X N scope cl C fp s H) tg bd)
  (hc:∀cl C fp s H,PIf (cxC X N scope cl C fp s H) ifs (tDT X.K c))(he:∀cl C fp s H,DE (cxC X N scope cl C fp s H) elt f)(S:CompScope X N k is scope)
  (hsw:swapsWith (.ListComp elt [⟨tg,iter,ifs,0⟩] scope pos) (some (.Name x pos')) spos.line X.env=pure true:=by rfl)
  (hf:X.fn x=true\/X.env.scope.names.lookup x=some .local:=by first | exact .inl rfl | exact .inr rfl | assumption)
  (hs:∀x,foldedSetIterable iter X.env x=pure x:=by intro _;rfl):DSt X (.Assign [.Name x pos'] (.ListComp elt [⟨tg,iter,ifs,0⟩] scope pos) spos) (aF i (aG it k is bd c f)) :=
 zmt (zsk hcalm hN hxi hx hi hg hc he S hsw hf hs) fun E τ H h=>by
  obtain⟨ρ,σ,st,fl,st',a,rp,e,q⟩:=h;obtain⟨v,st1,e1,e⟩:=za e;cases e;exact zbbb τ H _ ⟨ρ,σ,st,v,_,a,rp,e1,fun ρ' H' u x r t=>q _ _ _ x r ((a.ext x).set t i)⟩
theorem zbai {X:Cx}:PIf X [] (tDT X.K aI):=fun aU s σ H Q I hq0=>by
 obtain⟨ρ,σ',st,v,st',a,rp,e,q⟩:=hq0;cases e;exact zxy aU s σ H Q I (q _ _ (.refl _ _) rp)
theorem zbah {X:Cx}{c:Expr}{t:ST}(h:DT X c t):PIf X [c] (tDT X.K t):=zxx h
end
end Dd
namespace Dd
open PySem L2 PyProof.Rows
noncomputable def spD (K:Fg) (np:Nat) (F:DFn):Sp:=fun vs H Q _=>∃ρ ds st v st',AtAll K ρ H ds vs/\Rep K ρ st H/\F ds st=.ok v st'/\vs.length=np/\∀ρ' H' u,Ext ρ H ρ' H'->Rep K ρ' st' H'->At K ρ' H' v u->Q u H'
noncomputable def CalD (P:Program) (w:World) (K:Fg) (mg:Str->Option Value) (base:Heap) (x:Str) (k:Nat) (ps:List Str) (F:DFn):Prop:=Callee P w K mg base x k ps (spD K ps.length F)
noncomputable def fnD (n np:Nat) (body:SS):DFn:=fun ds st=>if ds.length=np then(match body (ds.map some++List.replicate (n - np) none) st with
 | .ok (.ret v) st'=>.ok v st'
 | .ok (.nx _) st'=>.ok .non st'
 | .exc x st'=>.exc x st'
 | _=>.stuck) else .stuck
section
variable {X:Cx}{x:Str}{k:Nat}{ps:List Str}{F:DFn}{p pos:Pos}{e:Expr}{es:List Expr}{g:SA}
theorem zbge {K:Fg}{np:Nat}{f:SA}(hn:∀ds st v st',F ds st=.ok v st'->ds.length=np):∀τ H Q,tD K (aE F f) τ H Q->tCall (spD K np F) [] E0 (tDA K f) τ H Q:=fun τ H Q hq0=>by
 obtain⟨ρ,σ,st,v,st',a,rp,e,q⟩:=hq0;obtain⟨x,st1,e1,e⟩:=za e;refine⟨ρ,σ,st,x,st1,a,rp,e1,fun ρ1 H1 u x1 rp1 a1=>?_⟩;show spD K np F (u++[]) H1 Q E0;rw[xef];exact⟨ρ1,x,st1,v,st',a1,rp1,e,by rw[a1.length];exact hn _ _ _ _ e,fun ρ' H' w x2=>q ρ' H' w (x1.trans x2)⟩
theorem zbgd (c:CalD X.prog X.w X.K X.mg X.base x k ps F)(hn:∀ ds st v st', F ds st=.ok v st'->ds.length=ps.length)(hr:Room k X.A)(hg:Gl X x)(ha:DA X (e::es) g)(hdb:(x==("__debug__" : Str))=false:=by decide)
 (he:starEach (e::es) X.env=(false,eval e X.env)::starEach es X.env:=by rfl)(hpl:(backTo pos (starEach es X.env)).any (·.1)=false:=by rfl) :
 DE X (.Call (.Name x p) (e::es) [] pos) (aE F g):=zef (zur c hr hg ha hdb he hpl) (zbge hn)
theorem zzp {n np:Nat}{b:SS}{ds:List D}{st st':Store}{v:D}(h:fnD n np b ds st=.ok v st'):ds.length=np:=by
 unfold fnD at h;split at h
 ·assumption
 ·cases h
end
theorem AtAll.some {K:Fg}{ρ:Loc}{H:Hp}:∀{ds:List D} {vs:List V},AtAll K ρ H ds vs->AtS K ρ H (ds.map Option.some) (vs.map Option.some)
 | _,_,.nil=>.nil
 | _,_,.cons a b=>.cons (fun d e=>by cases e;exact⟨_,rfl,a⟩) (AtAll.some b)
theorem AtS.append {K:Fg}{ρ:Loc}{H:Hp}:∀{a c:DS} {b d:L2.St},AtS K ρ H a b->AtS K ρ H c d->AtS K ρ H (a++c) (b++d)
 | _,_,_,_,.nil,h=>h
 | _,_,_,_,.cons r t,h=>.cons r (AtS.append t h)
theorem AtS.nones {K:Fg}{ρ:Loc}{H:Hp}:∀n,AtS K ρ H (List.replicate n none) (List.replicate n none)
 | 0=>.nil
 | n+1=>.cons (fun d e=>nomatch e) (AtS.nones n)
theorem zbbm {K:Fg}{N:List Str}{np:Nat}{b:SS}{vs:List V}{H:Hp}{Q:VK}{E:XK}(h:spD K np (fnD N.length np b) vs H Q E):tDS K b {nx:=fun _ H'=>Q .non H',rt:=Q} (L2.start N vs) H:=by
 obtain⟨ρ,ds,st,v,st',a,rp,e,hl,q⟩:=h;have hd:ds.length=np:=by rw[← a.length];exact hl
 unfold fnD at e;rw[if_pos hd] at e;have as:AtS K ρ H (ds.map Option.some++List.replicate (N.length - np) none) (L2.start N vs):=by
  unfold L2.start;rw[hl];exact a.some.append (.nones _)
 refine⟨ρ,ds.map Option.some++List.replicate (N.length - np) none,st,?_⟩;cases hr:b (ds.map Option.some++List.replicate (N.length - np) none) st with
 | stuck=>rw[hr] at e;cases e
 | exc z w=>rw[hr] at e;cases e
 | ok fl st1 =>
  rw[hr] at e;cases fl with
  | ret w =>
   dsimp only at e;cases e;exact⟨.ret v,st',as,rp,rfl,fun ρ' H' u x r t=>q ρ' H' u x r t⟩
  | nx σ =>
   dsimp only at e;cases e;exact⟨.nx σ,st',as,rp,rfl,fun ρ' H' τ x r t=>q ρ' H' .non x r .non⟩
  | brk σ=>cases e
  | ct σ=>cases e
theorem zbbi {P:Program}{w:World}{K:Fg}{mg:Str->Option Value}{base h:Heap}{x:Str}{st:Stmt}{N ps:List Str}{k:Nat}{b:SS}(T:TopF K x st)(X:K.In h)(G:h.Ns mainGlobals mg)(S:FnScope N ps (defScope st))
  (bd:∀(kV doc pm:Value) (an:Option Addr) (cdv ct:Value) (us:List Value),us.length=ps.length->bindArgs (W.fnOf x x (defArgs st) (defBody st) (defScope st) .none kV doc pm an cdv ct) ⟨us,[]⟩=pure (ps.zip us))
  (hbody:∀(f:Addr) (cdv:Value) (A:Around) (outer:List Env) (s:Shared) (H:Hp) (E:XK),Room k (A.deeper (envOfC x (defScope st) s.heap.objs.size f cdv)) ->
   DSs (cxOf CX0 P w K mg base N x (defScope st) f cdv A outer s H E).nox (defBody st) b):CalD P w K mg base x (k+1) ps (fnD N.length ps.length b) :=
 zrx T X G S bd (fun vs H Q E hh=>by obtain⟨ρ,ds,st,v,st',a,rp,e,hl,q⟩:=hh;exact hl) fun f cdv A outer s H vs Q E hr hh=>⟨_,hbody f cdv A outer s H E hr,zbbm hh⟩
noncomputable def spLaw (K:Fg):Sp:=fun vs H Q _=>∃(a:Addr) (ns:List Int),vs=[.ref a]/\SqL K H a (ns.map V.int)/\ns.length<=63/\∀H',Q (.bl true) H'
theorem zbef {P:Program}{w:World}{K:Fg}{mg:Str->Option Value}{base:Heap}{st:Stmt}{N ps:List Str}{k:Nat}{b:SS}{f:Addr}{fd:FuncData}(F:Fun K "law" "law" st f fd)(S:FnScope N ps (defScope st))(hp:ps.length=1)
  (hbody:∀(cdv:Value) (A:Around) (outer:List Env) (s:Shared) (H:Hp) (E:XK), Room k (A.deeper (envOfC "law" (defScope st) s.heap.objs.size f cdv)) ->
   DSs (cxOf CX0 P w K mg base N "law" (defScope st) f cdv A outer s H E).nox (defBody st) b)
  (holds:∀ns:List Int,ns.length<=63->∃st',fnD N.length 1 b [.scr (ns.map .int)] []=.ok (.bl true) st'):FnOk P w K mg base CX0 (k+1) f fd ps (spLaw K):=by
 refine F.ok S (fun vs H Q E hh=>?_) (fun cdv A outer s H vs Q E hr hh=>⟨_,hbody cdv A outer s H E hr,?_⟩)
 ·obtain⟨a,ns,rfl,_⟩:=hh;exact hp.symm
 ·obtain⟨a,ns,rfl,hS,hl,q⟩:=hh;obtain⟨st',e⟩:=holds ns hl;refine zbbm (np:=1) (E:=E) ⟨⟨[],[]⟩,[.scr (ns.map .int)],[],_,st',.cons (.scr ?_ (zhg ns)) .nil,⟨rfl,fun n m a e _=>by simp at e,fun n a o e _=>by simp at e,fun a h=>(by cases h),fun n o e _=>by simp at e⟩,e,rfl,fun ρ' H' u x r t=>?_⟩
  ·rcases hS with h | h
   ·exact .inl ⟨h,by simp[Out]⟩
   ·exact .inr fun H'=>.inr h
  ·cases t;exact q H'
end Dd
namespace Dd
open PySem L2
noncomputable def oNeg:D->Store->Res D:=fun x st=>match x with
 | .int i=>.ok (.int (-i)) st
 | _=>.stuck
noncomputable def sStuck:SS:=fun _ _=>.stuck
noncomputable def tru (st:Store):D->Option Bool
 | .non=>some false
 | .bl b=>some b
 | .int i=>some (i != 0)
 | .tup xs=>some !xs.isEmpty
 | d=>(asL st d).map fun xs=>!xs.isEmpty
noncomputable def eTru (f:SE):ST:=fun σ st=>(f σ st).bind fun v st1=>match tru st1 v with
 | some b=>.ok b st1
 | none=>.stuck
theorem zim {K:Fg}{ρ:Loc}{H:Hp}{ds:List D}{vs:List V}(h:AtAll K ρ H ds vs):ds.isEmpty=vs.isEmpty:=by
 cases h<;>rfl
theorem zbci {K:Fg}{ρ:Loc}{st:Store}{H:Hp}(rp:Rep K ρ st H){d:D}{u:V}{b:Bool}(a:At K ρ H d u)(e:tru st d=some b):TruV K u H b:=by
 unfold tru at e;split at e
 ·cases a;cases e;exact rfl
 ·cases a;cases e;exact rfl
 ·cases a;cases e;exact rfl
 ·cases e;cases a with
  | tup h1 h2 h3=>exact .inr (.inl ⟨_,SqT.of h1,by rw[zim h3]⟩)
 ·obtain⟨xs,h0,rfl⟩:=xch.mp e;obtain⟨p,vs,rfl,h1,h2⟩:=zgg rp a h0;exact .inl ⟨_,SqL.of h1,by rw[zim h2]⟩
section
variable {X:Cx}{a b c e:Expr}{f f' f'':SE}{pos:Pos}{sm:Stmt}
theorem zbjb (h:DE X a f):DE X (.UnaryOp .USub a pos) (eUn oNeg f):=zef (zbhw zbce h) fun τ H Q hq0=>by
 obtain⟨ρ,σ,st,v,st',at',rp,e,q⟩:=hq0;obtain⟨x,st1,e1,e⟩:=za e;refine⟨ρ,σ,st,x,st1,at',rp,e1,fun ρ1 H1 u x1 rp1 a1=>?_⟩;cases x<;>try (cases e;done)
 cases e;cases a1;exact⟨_,rfl,q _ _ _ x1 rp1 (.int _)⟩
theorem zvo {op op':CmpOp}{r r':R2}{g g':D->D->Store->Res D}(ho:OpR X (compareOp op) r)(ho':OpR X (compareOp op') r')(hr:OpD X.K g r)(hr':OpD X.K g' r')(ha:DE X a f)(hb:DE X b f')(hc:DE X c f'')
 (hm:lastMarks [op,op'] [b,c]=false:=by with_unfolding_all rfl):DT X (.Compare a [op,op'] [b,c] pos) (eB (eChain g g' f f' f'')):=zxo (zug ho ho' ha hb hc hm) fun τ H Q h=>zbbg hr hr' _ _ _ (eB_t _ _ _ h)
theorem zvs:DSt X sm sStuck:=fun aU s σ H E I ⟨ρ,σ',st,fl,st',a,rp,e,q⟩=>by cases e
theorem zbfg (h:DE X a f)(he:∀whole,isTrue a X.env whole=(do let v ← whole;standAt a.pos;holding [v] (truthy v)):=by intro _;rfl):DT X a (eTru f):=zxo (znm h he) fun τ H Q hq0=>by
 obtain⟨ρ,σ,st,v,st',at',rp,e,q⟩:=hq0;obtain⟨x,st1,e1,e⟩:=za e;refine⟨ρ,σ,st,x,st1,at',rp,e1,fun ρ1 H1 u x1 rp1 a1=>?_⟩;split at e
 ·rename_i bb hb;cases e;exact⟨_,zbci rp1 a1 hb,q _ _ x1 rp1⟩
 ·cases e
end
end Dd
namespace Dd
open PySem PySem.Spec PyProof.Rows L2
section
variable {X:Cx}{l:Expr}{f:SE}{elts:List Expr}{k j:Nat}{tpos p pos kpos cpos:Pos}
end
end Dd
namespace Dd
open PySem L2
noncomputable def bInt:List D->Store->Res D:=fun xs st=>match xs with
 | [.int i]=>.ok (.int i) st
 | [.bl k]=>.ok (.int (if k then 1 else 0)) st
 | _=>.stuck
theorem zwk {K:Fg}:CaD K bInt (fun xs H Q=>(∃i,xs=[.int i]/\Q (.int i) H)\/∃k,xs=[.bl k]/\Q (.int (if k then 1 else 0)) H):=fun ρ H st xs us z st' Q rp aa e q=>by
 unfold bInt at e;split at e
 ·cases e;obtain⟨u,rfl,a⟩:=aa.one;cases a;exact .inl ⟨_,rfl,q _ _ _ (.refl _ _) rp (.int _)⟩
 ·cases e;obtain⟨u,rfl,a⟩:=aa.one;cases a;exact .inr ⟨_,rfl,q _ _ _ (.refl _ _) rp (.int _)⟩
 ·cases e
theorem zsf {ρ:Loc}{g':List Addr}{p a:Addr}(hg:p∈ρ.g)(hs:∀a,a∈g'->a∈ρ.g)(n:Out ρ a):Out ⟨ρ.m++[some p],g'⟩ a :=
 ⟨fun z=>by
  rcases xbs.mp z with z | z
  ·exact n.1 z
  ·simp at z;subst z
   exact n.2 hg,fun z=>n.2 (hs _ z)⟩
theorem zpn {ρ:Loc}{g':List Addr}{H:Hp}{p:Addr}(hg:p∈ρ.g)(hs:∀a,a∈g'->a∈ρ.g):Mv ρ H ⟨ρ.m++[some p],g'⟩ H:=⟨fun e n=>⟨e,zsf hg hs n⟩,by
 show ρ.m.length<=(ρ.m++[some p]).length;rw[xbp];exact xbr _ _,fun n a h q=>by
 have q':(ρ.m++[some p])[n]?=some (some a):=q;rw[xbv h] at q'
 exact q'⟩
theorem At.adopt {K:Fg}{ρ:Loc}{g':List Addr}{H:Hp}{p:Addr}(hg:p∈ρ.g)(hs:∀a,a∈g'->a∈ρ.g){d:D}{v:V}(h:At K ρ H d v):At K ⟨ρ.m++[some p],g'⟩ H d v:=h.mv (zpn hg hs)
theorem AtAll.adopt {K:Fg}{ρ:Loc}{g':List Addr}{H:Hp}{p:Addr}(hg:p∈ρ.g)(hs:∀a,a∈g'->a∈ρ.g){d:List D}{v:List V}(h:AtAll K ρ H d v):AtAll K ⟨ρ.m++[Option.some p],g'⟩ H d v:=h.mv (zpn hg hs)
theorem Rep.adopt {K:Fg}{ρ:Loc}{g':List Addr}{st:Store}{H:Hp}{p:Addr}{xs:List D}{vs:List V}(r:Rep K ρ st H)(hg:p∈ρ.g)(hs:∀a,a∈g'->a∈ρ.g)(hn:p∉g')(hp:H p=some (.lst vs))(al:AtAll K ρ H xs vs) :
  Rep K ⟨ρ.m++[some p],g'⟩ (st++[.lst xs]) H:=by
 have hpm:some p∉ρ.m:=(r.gh p hg).2;have nl:∀(m:Nat),ρ.m[m]?≠some (some p):=fun m e=>hpm (xcc e)
 have cs:∀(m:Nat) (b:Addr),(ρ.m++[some p])[m]?=some (some b)->(m < ρ.m.length/\ρ.m[m]?=some (some b))\/(m=ρ.m.length/\b=p):=fun m b e=>by
  rcases xfe m ρ.m.length with z | z
  ·rw[xbv z] at e;exact .inl ⟨z,e⟩
  ·rw[xco z] at e;have z2:m - ρ.m.length=0:=by
    have:=(xbk.mp e).1;simp at this;lia
   rw[z2] at e;simp at e;exact .inr ⟨by lia,e.symm⟩
 refine⟨by simp[r.len],fun m k b e1 e2=>?_,fun m b y e1 e2=>?_,fun b hb=>?_,fun m y e ne=>?_⟩
 ·rcases cs m b e1 with⟨h1,q1⟩ | ⟨h1,rfl⟩
  ·rcases cs k b e2 with⟨h2,q2⟩ | ⟨h2,rfl⟩
   ·exact r.inj m k b q1 q2
   ·exact absurd q1 (nl m)
  ·rcases cs k b e2 with⟨h2,q2⟩ | ⟨h2,_⟩
   ·exact absurd q2 (nl k)
   ·lia
 ·rcases cs m b e1 with⟨h1,q1⟩ | ⟨h1,rfl⟩
  ·rw[xbv (by rw[← r.len];exact h1)] at e2;exact(r.obj m b y q1 e2).map (fun d v h=>h.adopt hg hs) (fun _ _ _ e=>e) rfl
  ·rw[h1,r.len,xco (xbf _)] at e2;simp at e2;subst e2;exact⟨vs,hp,al.adopt hg hs⟩
 ·obtain⟨h1,h2⟩:=r.gh b (hs b hb);refine⟨h1,fun z=>?_⟩;rcases xbs.mp z with z | z
  ·exact h2 z
  ·simp at z;subst z;exact hn hb
 ·rcases xfe m st.length with z | z
  ·rw[xbv z] at e;obtain⟨b,hb⟩:=r.live m y e ne;exact⟨b,by show(ρ.m++[some p])[m]?=_;rw[xbv (by rw[r.len];exact z)];exact hb⟩
  ·have z2:=(xbk.mp e).1;simp at z2;have z3:m=ρ.m.length:=by rw[r.len];lia
   exact⟨p,by show(ρ.m++[some p])[m]?=_;rw[z3,xco (xbf _)];simp⟩
noncomputable def eCompM (it:SA) (k:Nat) (is:List Nat) (bd:SG) (c:ST) (f:SE):SE:=fun σ st=>(it σ st).bind fun xs st1=>if xs.length<=sizeLine then(compF bd c f xs (aS k is σ) st1).bind fun ys st2=>.ok (.ref st2.length) (st2++[.lst ys]) else .stuck
section
variable {X:Cx}{tg iter elt:Expr}{ifs:List Expr}{it:SA}{bd:SG}{c:ST}{f:SE}{N:List Str}{k:Nat}{is:List Nat}{scope:Scope}{pos:Pos}
theorem zbba {K:Fg}:∀τ H Q,tD K (eCompM it k is bd c f) τ H Q->tComp (iD K it) k is (gD K bd) (tDT K c) (tD K f) τ H Q:=fun τ H Q hq0=>by
 obtain⟨ρ,σ,st,v,st',a,rp,e,q⟩:=hq0;obtain⟨xs,st1,e1,e⟩:=za e;split at e
 ·rename_i hlen;obtain⟨ys,st2,e2,e⟩:=za e;cases e;refine zbbd a rp e1 hlen e2 fun ρ1 H1 p ρ2 H' accV x1 rp1 hp x2 hg hpp hal rp2=>?_
  have hpg:p∈ρ2.g:=by rw[hg];exact xbz
  have hpm:some p∉ρ2.m:=(rp2.gh p hpg).2;have sub:∀a,a∈ρ1.g->a∈ρ2.g:=fun b hb=>by rw[hg];exact xca _ hb
  have hn1:p∉ρ1.g:=fun z=>by
   obtain⟨⟨ws,h1⟩,_⟩:=rp1.gh p z;rw[hp] at h1;cases h1
  have R:=rp2.adopt hpg sub hn1 hpp hal
  have E:Ext ρ1 H1 ⟨ρ2.m++[some p],ρ1.g⟩ H':=⟨by
    show ρ1.m.length<=(ρ2.m++[some p]).length;rw[xbp];exact xbc x2.len (xbr _ _),fun n b h e=>by
    have e':(ρ2.m++[some p])[n]?=some (some b):=e;rw[xbv (xbg h x2.len)] at e'
    exact x2.old n b h e',fun b o e m=>⟨(x2.keep b o e m).1,fun z=>by
    rcases xbs.mp z with z | z
    ·exact(x2.keep b o e m).2 z
    ·simp at z;subst z
     rw[hp] at e;cases e⟩,rfl,x2.frz⟩
  exact q _ _ _ (x1.trans E) R (.last (ρ:=⟨ρ2.m,ρ1.g⟩) rp2.len.symm)
 ·cases e
theorem zvr {i:Nat}{x:Str}{pos' spos:Pos}(hcalm:X.calm=true)(hN:X.N.Nodup)(hxi:X.N[i]?=some x)(hx:L2.Loc X.env.scope x)(hi:DI X tg iter it)(hg:∀cl C fp s H,DG (cxC X N scope cl C fp s H) tg bd)
  (hc:∀cl C fp s H,PIf (cxC X N scope cl C fp s H) ifs (tDT X.K c))(he:∀cl C fp s H,DE (cxC X N scope cl C fp s H) elt f)(S:CompScope X N k is scope)
  (hsw:swapsWith (.ListComp elt [⟨tg,iter,ifs,0⟩] scope pos) (some (.Name x pos')) spos.line X.env=pure true:=by rfl)
  (hf:X.fn x=true\/X.env.scope.names.lookup x=some .local:=by first | exact .inl rfl | exact .inr rfl | assumption)
  (hs:∀x,foldedSetIterable iter X.env x=pure x:=by intro _;rfl):DSt X (.Assign [.Name x pos'] (.ListComp elt [⟨tg,iter,ifs,0⟩] scope pos) spos) (aF i (eCompM it k is bd c f)) :=
 zmt (zsk hcalm hN hxi hx hi hg hc he S hsw hf hs) fun E τ H h=>by
  obtain⟨ρ,σ,st,fl,st',a,rp,e,q⟩:=h;obtain⟨v,st1,e1,e⟩:=za e;cases e;exact zbba τ H _ ⟨ρ,σ,st,v,_,a,rp,e1,fun ρ' H' u x r t=>q _ _ _ x r ((a.ext x).set t i)⟩
end
noncomputable def plainE:Expr->Bool
 | .Starred _ _=>false
 | _=>true
theorem zne {e:Expr}{es:List Expr}{env:Env}(h:plainE e=true):starEach (e::es) env=(false,eval e env)::starEach es env:=by
 cases e<;>first | rfl | cases h
theorem zvy {X:Cx}{e:Expr}{es:List Expr}{f:SE}{g:SA}(ha:DE X e f)(hr:DA X es g)(hp:plainE e=true:=by rfl):DA X (e::es) (aB f g):=zbap ha hr (zne hp)
noncomputable def bBest (gt:Bool):List D->Store->Res D:=fun xs st=>match xs with
 | [x]=>match (seqOf st x).bind asInts with
  | some (n::ns)=>.ok (.int (bestI gt n ns)) st
  | _=>.stuck
 | _=>.stuck
theorem zbbq {K:Fg}{gt:Bool}:CaD K (bBest gt) (rBest K gt):=fun ρ H st xs us z st' Q rp aa e q=>by
 unfold bBest at e;split at e
 ·split at e
  ·rename_i n ns h;cases e;obtain⟨ys,h0,h⟩:=xei.mp h;obtain⟨u,rfl,a⟩:=aa.one;obtain⟨p,vs,rfl,h1,h2⟩:=zgv rp a h0;have e:=zcu h2 h;subst e;exact⟨p,n,ns,rfl,h1,q _ _ _ (.refl _ _) rp (.int _)⟩
  ·cases e
 ·cases e
noncomputable def pairsF:List D->List D->List D
 | x::xs,y::ys=>.tup [x,y]::pairsF xs ys
 | _,_=>[]
noncomputable def iZipT (g:SA):SA:=fun σ st=>(g σ st).bind fun xs st1=>match xs with
 | [.tup a,.tup b]=>.ok (pairsF a b) st1
 | _=>.stuck
theorem zfi:∀{xs ys:List D} {i:Nat} {d:D},(pairsF xs ys)[i]?=some d->∃x y,xs[i]?=some x/\ys[i]?=some y/\d=.tup [x,y]
 | [],_,_,_,h=>by simp[pairsF] at h
 | _::_,[],_,_,h=>by simp[pairsF] at h
 | x::xs,y::ys,0,d,h=>by
  simp[pairsF] at h;exact⟨x,y,rfl,rfl,h.symm⟩
 | x::xs,y::ys,i+1,d,h=>by
  simp only[pairsF,xif] at h;obtain⟨x',y',h1,h2,h3⟩:=zfi h;exact⟨x',y',by simpa using h1,by simpa using h2,h3⟩
theorem zcg:∀{xs ys:List D},(pairsF xs ys).length=min xs.length ys.length
 | [],_=>by simp[pairsF]
 | _::_,[]=>by simp[pairsF]
 | _::xs,_::ys=>by simp[pairsF,zcg (xs:=xs) (ys:=ys)]
section
variable {X:Cx}{a b:Expr}{g:SA}{elts:List Expr}{k:Nat}{tpos p pos:Pos}
theorem zbfq (hg:Gl X "zip")(hm:X.mg "zip"=none)(ha:DA X [a, b] g)(hs:starEach [a, b] X.env=[(false, eval a X.env),(false, eval b X.env)]:=by rfl)(hs2:starEach [b] X.env=[(false, eval b X.env)]:=by rfl) :
  DI X (.Tuple elts k tpos) (.Call (.Name "zip" p) [a, b] [] pos) (iZipT g):=zwr (zbdc hg hm ha hs hs2) fun τ H R hq0=>by
 obtain⟨ρ,σ,st,xs,st',a,rp,e,q⟩:=hq0;obtain⟨x,st1,e1,e⟩:=za e;refine⟨ρ,σ,st,x,st1,a,rp,e1,fun ρ1 H1 u x1 rp1 a1=>?_⟩;split at e
 ·rename_i as bs;cases e;obtain⟨u1,u2,rfl,b1,b2⟩:=a1.two;cases b1 with
  | tup h1 h2 h3 =>
   cases b2 with
   | tup k1 k2 k3 =>
    refine⟨_,_,rfl,⟨_,SqT.of h1⟩,⟨_,SqT.of k1⟩,q _ _ _ x1 rp1 ⟨fun ρ2 H2 x2 i d e=>?_,fun ρ2 H2 x2 i h=>?_⟩⟩
    ·obtain⟨x',y',ex,ey,rfl⟩:=zfi e;obtain⟨v1,hv1,av1⟩:=h3.get ex;obtain⟨v2,hv2,av2⟩:=k3.get ey;refine⟨⟨_,_,v1,v2,SqT.of (x2.out h1 h2).1,SqT.of (x2.out k1 k2).1,hv1,hv2⟩,fun y H3 hy=>?_⟩;obtain⟨p,hp,rfl,hH⟩:=hy;rw[hH _ _ _ _ (SqT.of (x2.out h1 h2).1) (SqT.of (x2.out k1 k2).1) hv1 hv2];exact⟨Ext.new hp _,fun st rp2=>⟨rp2.new hp _,At.newT rp2 hp (.cons (av1.extG x2) (.cons (av2.extG x2) .nil))⟩⟩
    ·rw[zcg] at h;exact⟨_,_,SqT.of (x2.out h1 h2).1,SqT.of (x2.out k1 k2).1,by rw[h3.length,k3.length];lia⟩
 ·cases e
end
noncomputable def sSetG (bd:SG) (f:SE):SS:=fun σ st=>(f σ st).bind fun v st1=>match bd v σ with
 | some σ1=>.ok (.nx σ1) st1
 | none=>.stuck
end Dd
namespace Dd
open PySem L2 PyProof.Rows
structure JE (X:Cx) (e:Expr) (f:SE):Prop where out:DE X e f
structure JT (X:Cx) (e:Expr) (f:ST):Prop where out:DT X e f
structure JW (X:Cx) (e:Expr) (f:ST):Prop where out:DW X e f
structure JA (X:Cx) (e:List Expr) (f:SA):Prop where out:DA X e f
structure JS (X:Cx) (s:Stmt) (f:SS):Prop where out:DSt X s f
structure JB (X:Cx) (s:List Stmt) (f:SS):Prop where out:DSs X s f
structure JO (X:Cx) (e:Option Expr) (f:DS->Store->Res (Option Int)):Prop where out:DO X e f
structure JG (X:Cx) (e:Expr) (b:SG):Prop where out:DG X e b
structure JGs (X:Cx) (e:List Expr) (b:List D->DS->Option DS):Prop where out:DGs X e b
structure JI (X:Cx) (tg iter:Expr) (f:SA):Prop where out:DI X tg iter f
structure JIf (X:Cx) (ifs:List Expr) (c:ST):Prop where out:PIf X ifs (tDT X.K c)
theorem JW.pt {X:Cx}{e:Expr}{t:ST}(h:JW X e t):JT X e t:=⟨PW.pt h.out⟩
section
variable {X:Cx}
theorem zbfu {e:Expr}{i:Nat}(h:PE X e (tVar i)):JE X e (aA i):=⟨zbiv h⟩
theorem zde {e:Expr}{v:V}{d:D}(h:PE X e (tC v))(k:∀ρ H,At X.K ρ H d v):JE X e (eC d):=⟨zbaw h k⟩
theorem ze {i j pos}:JE X (.Constant (.int i) j pos) (eC (.int i)):=⟨zbjd⟩
theorem zwe {b j pos}:JE X (.Constant (.bool b) j pos) (eC (.bl b)):=⟨d_bl⟩
theorem zwb {j pos}:JE X (.Constant .none j pos) (eC .non):=⟨zbja⟩
theorem zew {x j pos}:JE X (.Constant (.str x) j pos) (eC (.str x)):=⟨zbix⟩
end
section
variable {X:Cx}{a b c:Expr}{f f' f'':SE}{pos:Pos}
theorem zgf {op:Operator}{r:R2}{g:D->D->Store->Res D}(ho:OpR X (binaryOp op) r)(hr:OpD X.K g r)(ha:JE X a f)(hb:JE X b f'):JE X (.BinOp a op b pos) (aR g f f'):=⟨d_op ho hr ha.out hb.out⟩
theorem zjx {op:CmpOp}{r:R2}{g:D->D->Store->Res D}(ho:OpR X (compareOp op) r)(hr:OpD X.K g r)(ha:JE X a f)(hb:JE X b f')(hm:behindInMarks op b=false):JE X (.Compare a [op] [b] pos) (aR g f f'):=⟨zbjf ho hr ha.out hb.out hm⟩
theorem zy {op:CmpOp}{r:R2}{g:D->D->Store->Res D}(ho:OpR X (compareOp op) r)(hr:OpD X.K g r)(ha:JE X a f)(hb:JE X b f')(hm:behindInMarks op b=false):JT X (.Compare a [op] [b] pos) (eB (aR g f f')):=⟨zbfi ho hr ha.out hb.out hm⟩
end
section
variable {X:Cx}{a b:Expr}{rest:List Expr}{f f':SE}{t t':ST}{pos:Pos}
theorem zrs {op}(h:JE X a f):JE X (.BoolOp op [a] pos) f:=⟨zbiy h.out⟩
theorem zru (ha:JE X a f)(hb:JE X (.BoolOp .And (b::rest) pos) f'):JE X (.BoolOp .And (a::b::rest) pos) (eAnd f f'):=⟨zbjg ha.out hb.out⟩
theorem zbfw (ha:JE X a f):JE X (.UnaryOp .Not a pos) (eNot f):=⟨zbiz ha.out⟩
theorem zft {op}(h:JT X a t)(hop:op=.And\/op=.Or):JW X (.BoolOp op [a] pos) t:=⟨zbfe h.out hop⟩
theorem zsz (ha:JT X a t)(hb:JW X (.BoolOp .And (b::rest) pos) t'):JW X (.BoolOp .And (a::b::rest) pos) (bAnd t t'):=⟨zbff ha.out hb.out⟩
theorem zop (ha:JT X a t)(hb:JW X (.BoolOp .Or (b::rest) pos) t'):JW X (.BoolOp .Or (a::b::rest) pos) (bOr t t'):=⟨zbir ha.out hb.out⟩
theorem zdk (ha:JT X a t):JT X (.UnaryOp .Not a pos) (bNot t):=⟨zbfh ha.out⟩
theorem zpr {c:Expr}(hc:JT X c t)(ha:JE X a f)(hb:JE X b f'):JE X (.IfExp c a b pos) (eIf t f f'):=⟨d_if hc.out ha.out hb.out⟩
end
section
variable {X:Cx}{e:Expr}{es:List Expr}{f:SE}{g:SA}{pos:Pos}
theorem zlc :JA X [] aC:=⟨zbft⟩
theorem zbaq {x1}(h:JA X es g):JE X (.Tuple es x1 pos) (aQ g):=⟨zbiw h.out⟩
theorem zow (h:JA X es g):JE X (.List es pos) (eLst g):=⟨zbjc h.out⟩
theorem zov (h:JA X es g):JE X (.List es pos) (eLstM g):=⟨zbfx h.out⟩
end
section
variable {X:Cx}{a b e:Expr}{f f':SE}{pos:Pos}{lo hi:Option Expr}{l h:DS->Store->Res (Option Int)}
theorem zem :JO X none pNone:=⟨zbaf⟩
theorem zel (he:JE X e f):JO X (some e) (pSome f):=⟨zbae he.out⟩
theorem zjw (ha:JE X a f)(hb:JE X b f')(hs:PlainIx b):JE X (.Subscript a b pos) (aR oIx f f'):=⟨d_ix ha.out hb.out hs⟩
theorem zbfv {p2:Pos}(he:JE X e f)(hl:JO X lo l)(hu:JO X hi h):JE X (.Subscript e (.Slice lo hi none p2) pos) (eSl f l h):=⟨d_sl he.out hl.out hu.out⟩
end
section
variable {X:Cx}{x:Str}{p pos:Pos}{e:Expr}{es:List Expr}{f:SA}{id T:String}{r:List V->Hp->VK->Prop}{g:List D->Store->Res D}
theorem zk (hc:CallR X (.builtin id) r)(hr:CaD X.K g r)(hg:Gl X x)(hm:X.mg x=none)(hv:bootBuiltins x=some (.builtin id))(ha:JA X (e::es) f)(hn:x≠"__name__":=by decide)(hdb:(x==("__debug__" : Str))=false:=by decide)(he:starEach (e::es) X.env=(false, eval e X.env)::starEach es X.env:=by rfl)(hpl:(backTo pos (starEach es X.env)).any (·.1)=false:=by rfl):JE X (.Call (.Name x p) (e::es) [] pos) (aE g f):=⟨zbay hc hr hg hm hv ha.out hn hdb he hpl⟩
theorem zbi (hc:CallR X (.type T) r)(hr:CaD X.K g r)(hg:Gl X x)(hm:X.mg x=none)(hv:bootBuiltins x=some (.type T))(ha:JA X (e::es) f)(hn:x≠"__name__":=by decide)(hdb:(x==("__debug__" : Str))=false:=by decide)(he:starEach (e::es) X.env=(false, eval e X.env)::starEach es X.env:=by rfl)(hpl:(backTo pos (starEach es X.env)).any (·.1)=false:=by rfl):JE X (.Call (.Name x p) (e::es) [] pos) (aE g f):=⟨zwd hc hr hg hm hv ha.out hn hdb he hpl⟩
end
section
variable {X:Cx}{a b c o i e value f':Expr}{f g h:SE}{pos pos' apos cpos:Pos}
theorem zbat :JE X (.Dict [] [] pos) eDNew:=⟨zbga⟩
theorem zbau (hu:X.A.units+1 < cLine)(ho:JE X o f)(hi:JE X i g)(hs:NoSl i):JE X (.Subscript o i pos) (aR oDGet f g):=⟨zbgb hu ho.out hi.out hs⟩
theorem zwc (hu:X.A.units + 1 < cLine)(ho:JE X o f)(he:JE X e g)(hf:JE X f' h)(m:M2 X o "get" apos e f' cpos):JE X (.Call (.Attribute o "get" apos) [e, f'] [] cpos) (eDGet2 f g h):=⟨zbav hu ho.out he.out hf.out m⟩
theorem zvt (hu:X.A.units+1 < cLine)(ho:JE X o f)(hi:JE X i g)(hv:JE X value h)(hs:swapsWith value (some (.Subscript o i pos')) pos.line X.env=pure false):JS X (.Assign [.Subscript o i pos'] value pos) (sDPut f g h):=⟨zbab hu ho.out hi.out hv.out hs⟩
end
section
variable {X:Cx}{o e i value:Expr}{es:List Expr}{f g h:SE}{ga:SA}{pos apos cpos:Pos}
theorem zle (ho:JE X o f)(ha:JA X (e::es) ga)(hbase:attributeBase o "append" X.env (eval o X.env)=eval o X.env:=by rfl)(hfew:((backTo cpos (starEach (e::es) X.env)).all (fun x=>!x.1)&&(backToKw cpos (keywordEach [] X.env)).all (fun x=>x.1.isSome)
 && decide ((e::es).length + ([]:List Keyword).length + (if([]:List Keyword).isEmpty then 0 else 1) < 30))=true:=by rfl) (hline:(apos.endLine==cpos.line)=true:=by rfl) (hs:starEach (e::es) X.env=(false, eval e X.env)::starEach es X.env:=by rfl) (hplain:(backTo cpos (starEach es X.env)).any (·.1)=false:=by rfl):JE X (.Call (.Attribute o "append" apos) (e::es) [] cpos) (eAppend f ga):=⟨zwf ho.out ha.out hbase hfew hline hs hplain⟩
theorem zbje (ho:JE X o f):JE X o (eFz f):=⟨d_fz ho.out⟩
end
section
variable {X:Cx}{e c o i value:Expr}{sm:Stmt}{rest:List Stmt}{f g h:SE}{s t:SS}{b:ST}{pos pos':Pos}
theorem zbl :JB X [] sNx:=⟨zbfm⟩
theorem zro :JS X (.Break pos) sBrk:=⟨zvu⟩
theorem zm (he:JE X e f):JS X (.Return (some e) pos) (sRet f):=⟨zbfk he.out⟩
theorem zos (he:JE X e f)(hs:swapsWith e none pos.line X.env=pure false:=by rfl):JS X (.Expr e pos) (sDrop f):=⟨zbaa he.out hs⟩
theorem zzx {i:Nat}{x:Str}(hN:X.N.Nodup)(hi:X.N[i]?=some x)(hx:L2.Loc X.env.scope x)(he:JE X e f)(hs:swapsWith e (some (.Name x pos')) pos.line X.env=pure false:=by rfl)(hf:X.fn x=true\/X.env.scope.names.lookup x=some .local:=by first | exact .inl rfl | exact .inr rfl | assumption):JS X (.Assign [.Name x pos'] e pos) (aF i f):=⟨zbfj hN hi hx he.out hs hf⟩
theorem zd (h1:JS X sm s):JB X [sm] s:=⟨zbfl h1.out⟩
theorem zb (h1:JS X sm s)(h2:JB X rest t):JB X (sm::rest) (aD s t):=⟨zbac h1.out h2.out⟩
theorem zcl {a' b':List Stmt}(hc:JT X c b)(ha:JB X a' s)(hb:JB X b' t):JS X (.If c a' b' pos) (sIf b s t):=⟨zbit hc.out ha.out hb.out⟩
theorem zbad {i:Nat}{x:Str}{op:Operator}{ti:TIp}{g:D->D->Store->Res D}(hN:X.N.Nodup)(hi:X.N[i]?=some x)(hx:L2.Loc X.env.scope x)(he:JE X e f)(ho:PIp X op ti)(hr:IpD X.K g ti)(hf:X.fn x=true\/X.env.scope.names.lookup x=some .local:=by first | exact .inl rfl | exact .inr rfl | assumption):JS X (.AugAssign (.Name x pos') op e pos) (sAug i g f):=⟨zbfo hN hi hx he.out ho hr hf⟩
theorem zez (he:JE X value h)(ho:JE X o f)(hi:JE X i g)(ha:∀v,assign (.Subscript o i pos') X.env v=(do
 let ov ← holding [v] (eval o X.env)
 let iv ← holding [v,ov] (eval i X.env)
 standAt pos'
 holding [v,ov,iv] (setItem ov iv v)
 release [v,ov,iv] []):=by intro _;rfl) (hs:swapsWithSole [.Subscript o i pos'] value pos.line X.env=pure false:=by rfl) (hw:swappedStores [.Subscript o i pos'] value X.env=pure none:=by rfl) (h1:(assignEach [.Subscript o i pos'] X.env).map (·.2)=[assign (.Subscript o i pos') X.env]:=by rfl):JS X (.Assign [.Subscript o i pos'] value pos) (sSetIx f g h):=⟨zvq he.out ho.out hi.out ha hs hw h1⟩
end
section
variable {X:Cx}{pos:Pos}{e:Expr}{es:List Expr}{t:SG}{u:List D->DS->Option DS}
theorem zcm {i:Nat}{x:Str}(hN:X.N.Nodup)(hi:X.N[i]?=some x)(hx:L2.Loc X.env.scope x)(hf:X.fn x=true\/X.env.scope.names.lookup x=some .local:=by first | exact .inl rfl | exact .inr rfl | assumption):JG X (.Name x pos) (gN i):=⟨zbam hN hi hx hf⟩
theorem zou :JGs X [] gsNil:=⟨zbal⟩
theorem zfa (h1:JG X e t)(h2:JGs X es u)(hs:(assignEach (e::es) X.env).map (·.2)=assign e X.env::(assignEach es X.env).map (·.2):=by rfl):JGs X (e::es) (gsCons t u):=⟨zvx h1.out h2.out hs⟩
theorem ztd {k:Nat}{n:Nat}(hc:X.calm=true)(h:JGs X es u)(hn:(assignEach es X.env).length=n:=by rfl)(hst:(assignEach es X.env).findIdx? (·.1)=none:=by rfl):JG X (.Tuple es k pos) (gT n u):=⟨zbfs hc h.out hn hst⟩
end
section
variable {X:Cx}{tg l a b:Expr}{f:SE}{g:SA}{p pos:Pos}
theorem zdl (hl:JE X l f):JI X tg l (aH f):=⟨zbfr hl.out⟩
theorem zbd (hg:Gl X "range")(hm:X.mg "range"=none)(ha:JA X [a] g)(hs:starEach [a] X.env=[(false, eval a X.env)]:=by rfl):JI X tg (.Call (.Name "range" p) [a] [] pos) (iR1 g):=⟨zrp hg hm ha.out hs⟩
end
section
variable {X:Cx}{tg l:Expr}{f:SE}
theorem zvw (hl:JE X l f):JI X tg l (iDict f):=⟨zbak hl.out⟩
end
section
variable {X:Cx}{tg iter c:Expr}{body:List Stmt}{it:SA}{bd:SG}{b:SS}{t:ST}{pos:Pos}
theorem zzz (hp:PassesOwn (model X.prog X.w) X.A X.env X.xe)(hc:X.calm=true)(hi:JI X tg iter it)(hg:JG X tg bd)(hb:JB X body b)(hs:∀x,foldedSetIterable iter X.env x=pure x:=by intro _;rfl):JS X (.For tg iter body [] pos) (sFor it bd b):=⟨zbfn hp hc hi.out hg.out hb.out hs⟩
theorem zkz (hp:PassesOwn (model X.prog X.w) X.A X.env X.xe)(hc:JT X c t)(hb:JB X body b):JS X (.While c body [] pos) (sWhile t b):=⟨zvp hp hc.out hb.out⟩
end
section
variable {X:Cx}{tg iter elt:Expr}{ifs:List Expr}{it:SA}{bd:SG}{c:ST}{f:SE}{N:List Str}{k:Nat}{is:List Nat}{scope:Scope}{pos:Pos}
theorem zit (hcalm:X.calm=true)(hi:JI X tg iter it)(hg:∀cl C fp s H,JG (cxC X N scope cl C fp s H) tg bd)(hc:∀cl C fp s H,JIf (cxC X N scope cl C fp s H) ifs c)(he:∀cl C fp s H,JE (cxC X N scope cl C fp s H) elt f)(S:CompScope X N k is scope)(hs:∀x,foldedSetIterable iter X.env x=pure x:=by intro _;rfl):JE X (.ListComp elt [⟨tg,iter,ifs,0⟩] scope pos) (aG it k is bd c f):=⟨zbgc hcalm hi.out (fun cl C fp s H=>(hg cl C fp s H).out) (fun cl C fp s H=>(hc cl C fp s H).out) (fun cl C fp s H=>(he cl C fp s H).out) S hs⟩
theorem zor {i:Nat}{x:Str}{pos' spos:Pos}(hcalm:X.calm=true)(hN:X.N.Nodup)(hxi:X.N[i]?=some x)(hx:L2.Loc X.env.scope x)(hi:JI X tg iter it)(hg:∀cl C fp s H,JG (cxC X N scope cl C fp s H) tg bd)(hc:∀cl C fp s H,JIf (cxC X N scope cl C fp s H) ifs c)(he:∀cl C fp s H,JE (cxC X N scope cl C fp s H) elt f)(S:CompScope X N k is scope)(hsw:swapsWith (.ListComp elt [⟨tg,iter,ifs,0⟩] scope pos) (some (.Name x pos')) spos.line X.env=pure true:=by rfl)(hf:X.fn x=true\/X.env.scope.names.lookup x=some .local:=by first | exact .inl rfl | exact .inr rfl | assumption)(hs:∀x,foldedSetIterable iter X.env x=pure x:=by intro _;rfl):JS X (.Assign [.Name x pos'] (.ListComp elt [⟨tg,iter,ifs,0⟩] scope pos) spos) (aF i (aG it k is bd c f)):=⟨zzy hcalm hN hxi hx hi.out (fun cl C fp s H=>(hg cl C fp s H).out) (fun cl C fp s H=>(hc cl C fp s H).out) (fun cl C fp s H=>(he cl C fp s H).out) S hsw hf hs⟩
theorem zen {X:Cx}:JIf X [] aI:=⟨zbai⟩
theorem zot {X:Cx}{c:Expr}{t:ST}(h:JT X c t):JIf X [c] t:=⟨zbah h.out⟩
end
section
variable {X:Cx}{x:Str}{k:Nat}{ps:List Str}{F:DFn}{p pos:Pos}{e:Expr}{es:List Expr}{g:SA}
theorem zbax (c:CalD X.prog X.w X.K X.mg X.base x k ps F)(hn:∀ ds st v st', F ds st=.ok v st'->ds.length=ps.length)(hr:Room k X.A)(hg:Gl X x)(ha:JA X (e::es) g)(hdb:(x==("__debug__" : Str))=false:=by decide)(he:starEach (e::es) X.env=(false, eval e X.env)::starEach es X.env:=by rfl)(hpl:(backTo pos (starEach es X.env)).any (·.1)=false:=by rfl):JE X (.Call (.Name x p) (e::es) [] pos) (aE F g):=⟨zbgd c hn hr hg ha.out hdb he hpl⟩
end
section
theorem zwi {P:Program}{w:World}{K:Fg}{mg:Str->Option Value}{base h:Heap}{x:Str}{st:Stmt}{N ps:List Str}{k:Nat}{b:SS}(T:TopF K x st)(X:K.In h)(G:h.Ns mainGlobals mg)(S:FnScope N ps (defScope st))(bd:∀(kV doc pm:Value) (an:Option Addr) (cdv ct:Value) (us:List Value),us.length=ps.length->bindArgs (W.fnOf x x (defArgs st) (defBody st) (defScope st) .none kV doc pm an cdv ct) ⟨us,[]⟩=pure (ps.zip us))(hbody:∀(f:Addr) (cdv:Value) (A:Around) (outer:List Env) (s:Shared) (H:Hp) (E:XK),Room k (A.deeper (envOfC x (defScope st) s.heap.objs.size f cdv)) ->
 JB (cxOf CX0 P w K mg base N x (defScope st) f cdv A outer s H E).nox (defBody st) b):CalD P w K mg base x (k+1) ps (fnD N.length ps.length b):=zbbi T X G S bd (fun f cdv A outer s H E rr=>(hbody f cdv A outer s H E rr).out)
end
section
theorem zzh {P:Program}{w:World}{K:Fg}{mg:Str->Option Value}{base:Heap}{st:Stmt}{N ps:List Str}{k:Nat}{b:SS}{f:Addr}{fd:FuncData}(F:Fun K "law" "law" st f fd)(S:FnScope N ps (defScope st))(hp:ps.length=1)(hbody:∀(cdv:Value) (A:Around) (outer:List Env) (s:Shared) (H:Hp) (E:XK), Room k (A.deeper (envOfC "law" (defScope st) s.heap.objs.size f cdv)) ->
 JB (cxOf CX0 P w K mg base N "law" (defScope st) f cdv A outer s H E).nox (defBody st) b) (holds:∀ ns:List Int, ns.length<=63->∃ st', fnD N.length 1 b [.scr (ns.map .int)] []=.ok (.bl true) st'):FnOk P w K mg base CX0 (k + 1) f fd ps (spLaw K):=zbef F S hp (fun cdv A outer s H E rr=>(hbody cdv A outer s H E rr).out) holds
end
section
variable {X:Cx}{a b c e:Expr}{f f' f'':SE}{pos:Pos}{sm:Stmt}
theorem zbar (h:JE X a f):JE X (.UnaryOp .USub a pos) (eUn oNeg f):=⟨zbjb h.out⟩
theorem zrm {op op':CmpOp}{r r':R2}{g g':D->D->Store->Res D}(ho:OpR X (compareOp op) r)(ho':OpR X (compareOp op') r')(hr:OpD X.K g r)(hr':OpD X.K g' r')(ha:JE X a f)(hb:JE X b f')(hc:JE X c f'')(hm:lastMarks [op,op'] [b,c]=false:=by with_unfolding_all rfl):JT X (.Compare a [op,op'] [b,c] pos) (eB (eChain g g' f f' f'')):=⟨zvo ho ho' hr hr' ha.out hb.out hc.out hm⟩
theorem zla :JS X sm sStuck:=⟨zvs⟩
theorem zcr (h:JE X a f)(he:∀whole,isTrue a X.env whole=(do let v ← whole;standAt a.pos;holding [v] (truthy v)):=by intro _;rfl):JT X a (eTru f):=⟨zbfg h.out he⟩
end
section
variable {X:Cx}{l:Expr}{f:SE}{elts:List Expr}{k j:Nat}{tpos p pos kpos cpos:Pos}
end
section
variable {X:Cx}{tg iter elt:Expr}{ifs:List Expr}{it:SA}{bd:SG}{c:ST}{f:SE}{N:List Str}{k:Nat}{is:List Nat}{scope:Scope}{pos:Pos}
theorem zrn {i:Nat}{x:Str}{pos' spos:Pos}(hcalm:X.calm=true)(hN:X.N.Nodup)(hxi:X.N[i]?=some x)(hx:L2.Loc X.env.scope x)(hi:JI X tg iter it)(hg:∀cl C fp s H,JG (cxC X N scope cl C fp s H) tg bd)(hc:∀cl C fp s H,JIf (cxC X N scope cl C fp s H) ifs c)(he:∀cl C fp s H,JE (cxC X N scope cl C fp s H) elt f)(S:CompScope X N k is scope)(hsw:swapsWith (.ListComp elt [⟨tg,iter,ifs,0⟩] scope pos) (some (.Name x pos')) spos.line X.env=pure true:=by rfl)(hf:X.fn x=true\/X.env.scope.names.lookup x=some .local:=by first | exact .inl rfl | exact .inr rfl | assumption)(hs:∀x,foldedSetIterable iter X.env x=pure x:=by intro _;rfl):JS X (.Assign [.Name x pos'] (.ListComp elt [⟨tg,iter,ifs,0⟩] scope pos) spos) (aF i (eCompM it k is bd c f)):=⟨zvr hcalm hN hxi hx hi.out (fun cl C fp s H=>(hg cl C fp s H).out) (fun cl C fp s H=>(hc cl C fp s H).out) (fun cl C fp s H=>(he cl C fp s H).out) S hsw hf hs⟩
end
section
theorem zfb {X:Cx}{e:Expr}{es:List Expr}{f:SE}{g:SA}(ha:JE X e f)(hr:JA X es g)(hp:plainE e=true:=by rfl):JA X (e::es) (aB f g):=⟨zvy ha.out hr.out hp⟩
end
section
variable {X:Cx}{a b:Expr}{g:SA}{elts:List Expr}{k:Nat}{tpos p pos:Pos}
theorem zbaj (hg:Gl X "zip")(hm:X.mg "zip"=none)(ha:JA X [a, b] g)(hs:starEach [a, b] X.env=[(false, eval a X.env),(false, eval b X.env)]:=by rfl)(hs2:starEach [b] X.env=[(false, eval b X.env)]:=by rfl):JI X (.Tuple elts k tpos) (.Call (.Name "zip" p) [a, b] [] pos) (iZipT g):=⟨zbfq hg hm ha.out hs hs2⟩
end
section
end
end Dd
namespace L2
open PySem PySem.Spec PyProof.Rows
section
variable {prog:Program}{w:World}{A:Around}{R:Result->Shared->Prop}{I:Addr}{fp wr:List Addr}{n:Nat}{P:Nat->Value->Prop}{St:Nat->Heap->Prop}
end
section
variable {prog:Program}{w:World}{A:Around}{E:Value->Shared->Prop}{s:Shared}
end
section
variable {X:Cx}{p pos cpos kpos:Pos}{l:Expr}{t:TA}{d:Int}{j:Nat}
end
section
open PySem.AutoSeq1
end
end L2
namespace Dd
open PySem L2
section
variable {X:Cx}{p pos cpos kpos:Pos}{l:Expr}{f:SA}{d:Int}{j:Nat}
end
section
variable {X:Cx}{o e:Expr}{es:List Expr}{f:SE}{ga:SA}{apos cpos:Pos}
end
end Dd
namespace L2
open PySem PySem.Spec PyProof.Rows
section
variable {X:Cx}{p pos cpos kpos upos:Pos}{l:Expr}{t:TA}{d:Int}{j:Nat}
end
end L2
namespace Dd
open PySem L2 PyProof.Rows
section
variable {X:Cx}{p pos cpos kpos upos:Pos}{l:Expr}{f:SA}{d:Int}{j:Nat}
end
end Dd
namespace L2
open PySem PySem.Spec PyProof.Rows
section
variable {X:Cx}
end
theorem zie:fillsNumberSlot (.type "tuple") "mul"=pure false :=
 PySem.fillsNumberSlot_seq (id:="tuple.__mul__") (r:=some (.builtin "tuple.__rmul__")) xhq.lookup (by decide +kernel) F.slot_tuple_rmul.lookup (by decide +kernel)
theorem zxm:seqRepeat? (.type "tuple")=pure (some (.builtin "tuple.__mul__")):=by
 unfold seqRepeat?;rw[PySem.seqSlot_of (T:="tuple") (name:="__mul__") (id:="tuple.__mul__") xhq.lookup (by decide +kernel), PySem.seqSlot_of (T:="tuple") (name:="__rmul__") (id:="tuple.__rmul__") F.slot_tuple_rmul.lookup (by decide +kernel)]
 rfl
theorem zub (a:Int)(t:Tok)(l:Addr)(items:Array Value)(n:Nat)(dd:Option Addr)(sl:Array (Option Value)) :
  Meets (Builtin.«int.__rmul__» ⟨[.int a t, .ref l],[]⟩) (fun _ R s=>s.heap.get? l=some { cls:=.type "tuple", dict:=dd, data:=.seq items n, slots:=sl }/\R (.ok (.ret Value.notImplemented)) s) :=
 .of_wp fun prog w A R s h=>by
  obtain⟨hp,g,d,tk,os⟩:=s;obtain⟨hl,h⟩:=h
  wp_walk
  exact⟨_,rfl,h⟩
theorem nb {b:Bool}(h:b=false):decide (b=true)=false:=by rw[h];rfl
section
open PySem.AutoSeq1
variable (l:Addr)(items:Array Value)(n:Nat)(dd:Option Addr)(sl:Array (Option Value))(x:Int)(u:Tok)
theorem zqw (lo:-1000000<=x)(hx:x<=0)(ne:items.isEmpty=false) :
  Meets (Builtin.«tuple.__mul__» ⟨[.ref l, .int x u],[]⟩) (fun _ R s=>s.heap.get? l=some { cls:=.type "tuple", dict:=dd, data:=.seq items n, slots:=sl }/\R (.ok (.ret (.ref s.heap.objs.size))) { s with heap:=s.heap.push { cls:=.type "tuple", data:=.seq #[] } }) :=
 .of_wp fun prog w A R s h=>by
  obtain⟨hp,g,d,tk,os⟩:=s;obtain⟨hl,h⟩:=h
  wp_walk
  try
   refine xfd ?c1 ?_
   case c1=>exact nb (by rw[xfo];exact⟨xbt (by lia),xbt (by lia)⟩)
   wp_walk
  try
   refine xfd ?c1 ?_
   case c1=>exact nb (by rw[xfo];exact⟨ne,beq_false_of_ne (by lia)⟩)
   wp_walk
  try
   refine wpAny_ite_true ?c1 ?_
   case c1=>exact yb (by rw[xku];exact .inl (xce hx))
   wp_walk
  exact⟨_,rfl,h⟩
theorem zuy (hx:x=1) :
  Meets (Builtin.«tuple.__mul__» ⟨[.ref l, .int x u],[]⟩) (fun _ R s=>s.heap.get? l=some { cls:=.type "tuple", dict:=dd, data:=.seq items n, slots:=sl }/\R (.ok (.ret (.ref l))) s) :=
 .of_wp fun prog w A R s h=>by
  obtain⟨hp,g,d,tk,os⟩:=s;obtain⟨hl,h⟩:=h
  wp_walk
  try
   refine xfd ?c1 ?_
   case c1=>exact nb (by rw[xfo];exact⟨xbt (by lia),xbt (by lia)⟩)
   wp_walk
  try
   refine wpAny_ite_true ?c1 ?_
   case c1=>exact yb (by rw[xku];exact .inr (by rw[hx];rfl))
   wp_walk
  exact⟨_,rfl,h⟩
theorem zqx (hx:2<=x)(hi:x<=1000000)(ne:items.isEmpty=false)(hz:((items.size:Nat):Int) * x<=1000000)(c4:Builtin.Tuple.tupleTooMany (((items.size:Nat):Int) * x)=false)
  (hsz:(List.foldl (fun x1 x2=>x1++x2) #[] (List.replicate x.toNat items)).size<=sizeLine) :
  Meets (Builtin.«tuple.__mul__» ⟨[.ref l, .int x u],[]⟩) (fun _ R s=>s.heap.get? l=some { cls:=.type "tuple", dict:=dd, data:=.seq items n, slots:=sl }/\R (.ok (.ret (.ref s.heap.objs.size))) { s with heap:=s.heap.push { cls:=.type "tuple", data:=.seq (List.foldl (fun x1 x2=>x1++x2) #[] (List.replicate x.toNat items)) } }) :=
 .of_wp fun prog w A R s h=>by
  obtain⟨hp,g,d,tk,os⟩:=s;obtain⟨hl,h⟩:=h
  wp_walk
  try
   refine xfd ?c1 ?_
   case c1=>exact nb (by rw[xfo];exact⟨xbt (by lia),xbt (by lia)⟩)
   wp_walk
  try
   refine xfd ?c1 ?_
   case c1=>exact nb (by rw[xfo];exact⟨ne,beq_false_of_ne (by lia)⟩)
   wp_walk
  try
   refine xfd ?c1 ?_
   case c1=>exact nb (by rw[xfo];exact⟨xbt (by lia),ne⟩)
   wp_walk
  try
   refine xfd ?c1 ?_
   case c1=>exact xbt (by lia)
   wp_walk
  try
   refine xfd ?c1 ?_
   case c1=>exact nb c4
   wp_walk
  try (refine xfd (xbt (Nat.not_lt.mpr hsz)) ?_;wp_walk)
  exact⟨_,rfl,h⟩
end
noncomputable def timesL {α:Type} (xs:List α) (n:Int):List α:=(List.replicate n.toNat xs).flatten
theorem zio {α:Type}(xs:List α):∀(n:Nat) (acc:List α),(List.foldl (fun(x1 x2:Array α)=>x1++x2) acc.toArray (List.replicate n xs.toArray))=(acc++(List.replicate n xs).flatten).toArray
 | 0,acc=>by simp
 | n+1,acc=>by
  rw[xdq,xjk,xdq,xfs,← xcn,← zio xs n (acc++xs)]
  congr 1
  simp
theorem Vals.times {xs:List V}{us:List Value}(r:Vals xs us):∀n:Nat,Vals (List.replicate n xs).flatten (List.replicate n us).flatten
 | 0=>.nil
 | n+1=>by
  rw[xdq,xfs,xdq,xfs];exact r.append (Vals.times r n)
noncomputable def rMulT (K:Fg):R2:=fun x y H Q=>∃t xs n,x=.ref t/\y=.int n/\SqT K H t xs/\xs≠[]/\-1000000<=n/\n<=1000000/\(xs.length:Int) * n<=1000000/\(n=1->Q (.ref t) H)/\(n≠1->∀p,H p=none->Q (.ref p) (upd H p (.tup (timesL xs n))))
theorem zgs {α:Type}(xs:List α):∀n:Nat,(List.replicate n xs).flatten.length=n * xs.length
 | 0=>by simp
 | n+1=>by rw[xdq,xfs,xbp,zgs xs n,Nat.succ_mul];lia
theorem zyo {X:Cx}:OpR X (binaryOp .Mult) (rMulT X.K):=by
 intro aU s σ H x y v u Q I r1 r2 h;obtain⟨t,xs,n,rfl,rfl,ht,ne,lo,hi,hz,q1,q2⟩:=h;cases r1;obtain⟨tk,rfl⟩:=r2;obtain⟨its,r,⟨o,e,ty,m,dt⟩,z⟩:=I.tuple ht;obtain⟨cls,dd,data,sl⟩:=o;dsimp only at ty dt;subst ty dt;have len:=r.length;have ne':its.toArray.isEmpty=false:=by
  cases its with
  | nil=>cases r;exact absurd rfl ne
  | cons a l=>rfl
 have road:∀{Q':Value->Shared->Prop}, wpAny (model X.prog X.w) X.A (call (.builtin "tuple.__mul__") [.ref t, .int n tk]) Q' X.xe s->wpAny (model X.prog X.w) X.A (binaryOp .Mult (.ref t) (.int n tk)) Q' X.xe s:=fun {Q'} hq =>
  wpAny_binaryOp_repeat_ref (T:="tuple") (U:="int") (by decide) ⟨_, e, rfl⟩ (fun s'=>typeIs_int s' n tk) zie F.fills_int_mul F.slot_int_rmul zxm F.slot_int_index.lookup
   (xgz F.slot_int_rmul (typeIs_int s n tk) F.entry_int_rmul (F.args_int_rmul_2 _ _) (zub n tk t its.toArray m dd sl) ⟨e,rfl,⟨_,e,rfl⟩,hq⟩)
 refine road ?_;by_cases c:n=1
 ·exact xgz xhq ⟨_,e,rfl⟩ xkk (xjx _ _) (zuy t its.toArray m dd sl n tk c) ⟨e,.ref t,H,I,rfl,q1 c⟩
 have done:∀ ts:List Value, Vals (timesL xs n) ts->(timesL xs n).length<=sizeLine->EP X aU σ Q (.ref s.heap.objs.size) { s with heap:=s.heap.push { cls:=.type "tuple", data:=.seq ts.toArray } }:=fun ts rt hl =>
  ⟨.ref s.heap.objs.size,_,I.laid (t':=s.toks) (o:=.tup (timesL xs n)) (fun b ob hb=>xbb _ hb) (xbf _) ⟨hl,ts,rt,IsTup.new s.heap _⟩,rfl,q2 c _ (I.hok.fresh (xbf _))⟩
 have lenT:(timesL xs n).length=n.toNat * xs.length:=zgs xs n.toNat;by_cases c2:n<=0
 ·refine xgz xhq ⟨_,e,rfl⟩ xkk (xjx _ _) (zqw t its.toArray m dd sl n tk lo c2 ne') ⟨e,?_⟩;have e0:timesL xs n=[]:=by unfold timesL;rw[show n.toNat=0 by lia];rfl
  exact done [] (by rw[e0];exact .nil) (by rw[e0];exact xdg _)
 ·have hz2:n.toNat * xs.length<=1000000:=by
   have:((n.toNat * xs.length:Nat):Int)=(xs.length:Int) * n:=by rw[Int.natCast_mul,Int.toNat_of_nonneg (by lia),Int.mul_comm]
   lia
  have hsl:n.toNat * xs.length<=sizeLine:=by rw[xet];lia
  have ef:List.foldl (fun(x1 x2:Array Value)=>x1++x2) #[] (List.replicate n.toNat its.toArray)=((List.replicate n.toNat its).flatten).toArray:=by
   have:=zio its n.toNat []
   simpa using this
  have zi:((its.toArray.size:Nat):Int) * n<=1000000:=by rw[xbo,← len];exact hz
  refine xgz xhq ⟨_,e,rfl⟩ xkk (xjx _ _) (zqx t its.toArray m dd sl n tk (by lia) hi ne' zi (xbt (by rw[xet];lia)) (by rw[ef,xbo,zgs,← len];exact hsl)) ⟨e,?_⟩;rw[ef];exact done _ (r.times n.toNat) (by rw[lenT];exact hsl)
end L2
namespace Dd
open PySem L2 PyProof.Rows
noncomputable def oMulT (x y:D) (st:Store):Res D:=match x,y with
 | .tup xs,.int n=>if xs≠[]/\-1000000<=n/\n<=1000000/\(xs.length:Int) * n<=1000000 then .ok (.tup (timesL xs n)) st else .stuck
 | _,_=>.stuck
theorem AtAll.times {K:Fg}{ρ:Loc}{H:Hp}{ds:List D}{vs:List V}(h:AtAll K ρ H ds vs):∀n:Nat,AtAll K ρ H (List.replicate n ds).flatten (List.replicate n vs).flatten
 | 0=>.nil
 | n+1=>by
  rw[xdq,xfs,xdq,xfs];exact h.append (AtAll.times h n)
theorem zyx {K:Fg}:OpD K oMulT (rMulT K):=fun ρ H st x y u v z st' Q rp a b e q=>by
 unfold oMulT at e;split at e
 ·rename_i xs n;split at e
  ·rename_i hs;cases e;cases b;cases a with
   | tup h1 h2 h3 =>
    have hl:=h3.length;refine⟨_,_,n,rfl,rfl,SqT.of h1,fun z=>?_,hs.2.1,hs.2.2.1,by rw[hl];exact hs.2.2.2,fun z=>?_,fun z p hp=>?_⟩
    ·subst z;cases h3;exact hs.1 rfl
    ·subst z;refine q _ _ _ (.refl _ _) rp ?_;have e1:timesL xs 1=xs:=by simp[timesL]
     rw[e1];exact .tup h1 h2 h3
    ·exact q _ _ _ (Ext.new hp _) (rp.new hp _) (.newT rp hp (h3.times n.toNat))
  ·cases e
 ·cases e
end Dd
namespace L2
open PySem PySem.Spec PyProof.Rows PySem.W
section
variable {P:Program}{w:World}{B:Around}{sg:Shared}
end
end L2
namespace Dd
open PySem L2 PyProof.Rows
end Dd
namespace L2
open PySem PySem.Spec PyProof.Rows
end L2
namespace Dd
open PySem L2 PyProof.Rows
section
variable {X:Cx}{o e:Expr}{es:List Expr}{f:SE}{ga:SA}{apos cpos:Pos}
end
end Dd
namespace Dd
variable {α:Type}{motive:List α->Prop}
@[elab_as_elim] theorem len0 (us:List α) (hl:us.length=0) (h:motive []):motive us:=by rw[List.eq_nil_of_length_eq_zero hl];exact h
@[elab_as_elim] theorem lenS {n:Nat} (us:List α) (hl:us.length=n+1) (h:∀a us,us.length=n->motive (a::us)):motive us:=by
 cases us with
 | nil=>cases hl
 | cons a us=>exact h a us (Nat.succ.inj hl)
@[elab_as_elim] theorem len1 (us:List α) (hl:us.length=1) (h:∀a,motive [a]):motive us:=lenS us hl fun a us hl=>len0 us hl (h a)
@[elab_as_elim] theorem len2 (us:List α) (hl:us.length=2) (h:∀a b,motive [a,b]):motive us:=lenS us hl fun a us hl=>len1 us hl (h a)
@[elab_as_elim] theorem len3 (us:List α) (hl:us.length=3) (h:∀a b c,motive [a,b,c]):motive us:=lenS us hl fun a us hl=>len2 us hl (h a)
end Dd
namespace Dd
open PySem L2
end Dd
namespace L2
open PySem PySem.Spec PyProof.Rows
end L2
namespace Dd
open PySem L2 PyProof.Rows
end Dd
namespace L2
open PySem PySem.Spec PyProof.Rows
section
variable {X:Cx}{tg:Expr}
end
end L2
namespace Dd
open PySem L2
section
variable {X:Cx}{tg a b c:Expr}{g:SA}{p pos:Pos}
end
end Dd
namespace Dd
open PySem L2 PyProof.Rows
section
variable {X:Cx}{o e:Expr}{es:List Expr}{f:SE}{ga:SA}{apos cpos:Pos}
end
end Dd
namespace L2
open PySem PySem.Spec PyProof.Rows
variable {X:Cx}{e es:Expr}{te ts:TE}{pos p2:Pos}
end L2
namespace Dd
open PySem L2
section
variable {X:Cx}{e es:Expr}{f g:SE}{pos p2:Pos}
end
end Dd
namespace L2
open PySem PySem.Spec PyProof.Rows
section
variable {prog:Program}{w:World}{A:Around}{E:Value->Shared->Prop}{s:Shared}
end
variable {X:Cx}{e es:Expr}{te ts:TE}{pos p2:Pos}
end L2
namespace Dd
open PySem L2
section
variable {X:Cx}{e es:Expr}{f g:SE}{pos p2:Pos}
end
end Dd
namespace L2
open PySem PySem.Spec PyProof.Rows
theorem zlg {X:Cx}:CallR X (.type "str") (fun xs H Q=>∃ i:Int, xs=[.int i]/\-(2 ^ 60) < i/\i < 2 ^ 60/\Q (.str (toString i)) H):=by
 intro aU s σ H xs us Q I r h;obtain⟨i,rfl,h1,h2,q⟩:=h;obtain⟨u,rfl,t,rfl⟩:=vals1 r;exact str_of_int_fit (N:=2 ^ 60) (by split<;>lia) (by decide) fun _=>⟨.str (toString i),H,I.tok _,⟨_,rfl⟩,q⟩
end L2
namespace Dd
open PySem L2
noncomputable def bStrI:List D->Store->Res D:=fun xs st=>match xs with
 | [.int i]=>if -(2 ^ 60) < i/\i < 2 ^ 60 then .ok (.str (toString i)) st else .stuck
 | _=>.stuck
theorem zti {K:Fg}:CaD K bStrI (fun xs H Q=>∃i:Int,xs=[.int i]/\-(2 ^ 60) < i/\i < 2 ^ 60/\Q (.str (toString i)) H):=fun ρ H st xs us z st' Q rp aa e q=>by
 unfold bStrI at e;split at e
 ·split at e
  ·rename_i hi;cases e;obtain⟨u,rfl,a⟩:=aa.one;cases a;exact⟨_,rfl,hi.1,hi.2,q _ _ _ (.refl _ _) rp (.str _)⟩
  ·cases e
 ·cases e
end Dd
namespace L2
open PySem PySem.Spec PyProof.Rows
section
variable {X:Cx}{x:Str}{C:Addr}{bmB bmN:List Value}{newId nid initId inN B Bn:String}{e:Expr}{es:List Expr}{ta:TA}{np cpos pos:Pos}
end
section
variable {M:Model}{A:Around}{E:Value->Shared->Prop}{s:Shared}
end
section
variable {P:Program}{w:World}{K:Fg}{mg:Str->Option Value}{base:Heap}{N:List Str}{qual:Str}{scope:Scope}{f:Addr}{cd:Value}{A:Around}{outer:List Env}{s₀:Shared}{H₀:Hp}{E:XK}
end
section
variable {X:Cx}
end
section
variable {X:Cx}{aU pins':List (Addr×Obj)}{σ:St}{H:Hp}{s:Shared}{E:Value->Shared->Prop}{e:Value}
end
section
variable {X:Cx}{body:List Stmt}{x n:Str}{B:Addr}{i:Nat}{b0:Stmt}{suite:List Stmt}{xp hp pos:Pos}{tb:(St->Value->Option Addr->Hp->Prop)->TS}{ts:TS}
end
section
variable {prog:Program}{w:World}{A:Around}{E:Value->Shared->Prop}
end
section
variable {X:Cx}{pos:Pos}
end
section
variable {P:Program}{w:World}{K:Fg}{mg:Str->Option Value}{base:Heap}{N:List Str}{name qual:Str}{params:Arguments}{body:Expr}{scope:Scope}{f:Addr}{cd pm ct:Value}{cl:List (Str×Addr)}{A:Around}{outer:List Env}{s:Shared}{H:Hp}{E:XK}{τ:St}
end
section
variable {X:Cx}{aU:List (Addr×Obj)}{τ:St}{H:Hp}{s:Shared}{c T:Addr}{ps:Array Value}{params:Arguments}{body:Expr}{scope:Scope}{cl:List (Str×Addr)}{pos:Pos}{Q:Value->Shared->Prop}
end
section
variable {X:Cx}
end
section
variable {X:Cx}
end
end L2
namespace L2
open PySem
namespace St
end St
namespace St
/- the leaps meet all places -/
end St
namespace St
/- laid anew -/
end St
namespace St
end St
end L2
namespace L2
open PySem PySem.W PyProof.Rows PySem.Spec
namespace St
section
variable {P:Program}{w:World}{B:Around}{E:Value->Shared->Prop}{s:Shared}{a:Addr}
end
end St
namespace St
section
variable {P:Program}{w:World}{B:Around}{R:Result->Shared->Prop}{it:Addr}{fp wr:List Addr}{G:Array GenState->Array GenState->Prop}{N:Nat}{It:Nat->Value->Prop}{St:Nat->Shared->Prop}
end
section
variable {P:Program}{w:World}{B:Around}{E:Value->Shared->Prop}{s:Shared}
end
end St
namespace St
section
variable {P:Program}{w:World}{B:Around}{E:Value->Shared->Prop}{s:Shared}{a it:Addr}{es:Array (Int×Value)}{ep:Nat}{t:SetTable}{ks:List Nat}
end
end St
end L2
namespace L2
open PySem PySem.Spec PyProof.Rows PySem.W
end L2
namespace Dd
open PySem L2 PyProof.Rows
section
variable {X:Cx}{x y:Str}{p p2 pos pos2:Pos}{e:Expr}{f:SA}{g:List D->Store->Res D}
end
end Dd
namespace L2
open PySem PySem.Spec PyProof.Rows PySem.W
end L2
namespace Dd
open PySem L2 PyProof.Rows
section
variable {X:Cx}{p p2 pos pos2 cpos apos:Pos}{e o:Expr}{f:SA}{g:SE}
end
section
variable {X:Cx}{R:RXT}{e:Expr}{es:List Expr}{f:SE}{g:SA}{sm:Stmt}{rest body:List Stmt}{s t:SS}{pos p:Pos}{x:Str}{k:Nat}{ps:List Str}{F:DFn}
end
section
variable {P:Program}{w:World}{K:Fg}{mg:Str->Option Value}{base h:Heap}{x:Str}{st:Stmt}{N ps:List Str}{k:Nat}{b:SS}
end
section
variable {X:Cx}{R:RXT}{f:Addr}{σL:DS}{τL:L2.St}{g:SE}{x n y:Str}{p pos pos2 xp hp:Pos}{B:Addr}{i:Nat}{cs:List Str}{b0:Stmt}{suite rest:List Stmt}{u t:SS}
end
section
variable {X:Cx}{y:Str}{p pos lp:Pos}{params:Arguments}{body:Expr}{scope stS:Scope}{N NL:List Str}{is:List Nat}{c T fr:Addr}{fdR:FuncData}{stR:Stmt}{x:Str}{k:Nat}{lam:SE}{b:(Store->Res D)->SS}
end
end Dd
namespace L2
open PySem PySem.Spec PyProof.Rows
end L2
namespace Dd
open PySem L2 PyProof.Rows
section
variable {X:Cx}{o e:Expr}{es:List Expr}{f:SE}{ga:SA}{apos cpos:Pos}
end
end Dd
namespace L2
open PySem PySem.Spec PyProof.Rows
end L2
namespace Dd
open PySem L2 PyProof.Rows
section
variable {X:Cx}{R:RXT}{f:Addr}{σL:DS}{τL:L2.St}{g:SE}{x n y:Str}{p pos pos2 xp hp:Pos}{B:Addr}{i:Nat}{cs:List Str}{b0:Stmt}{suite rest:List Stmt}{u t:SS}
end
section
variable {K:Fg}{cv:Value}
end
section
variable {X:Cx}{pos:Pos}{es:List Expr}{u:List D->DS->Option DS}
end
end Dd
namespace L2
open PySem PySem.Spec PyProof.Rows
section
variable {prog:Program}{w:World}{A:Around}{R:Result->Shared->Prop}{I:Addr}{fp wr:List Addr}{n:Nat}{P:Nat->Value->Prop}{St:Nat->Heap->Prop}
end
section
variable {prog:Program}{w:World}{A:Around}{E:Value->Shared->Prop}{s:Shared}
end
section
variable {X:Cx}{p pos cpos kpos:Pos}{l:Expr}{t:TA}{d:Int}{j:Nat}
end
section
variable {X:Cx}
end
end L2
namespace Dd
open PySem L2 PyProof.Rows
section
variable {X:Cx}{p pos cpos kpos:Pos}{l:Expr}{f:SA}{j:Nat}
end
end Dd
namespace L2
open PySem PySem.Spec PyProof.Rows
section
variable {P:Program}{w:World}{A:Around}{E:Value->Shared->Prop}{s:Shared}{K:Fg}{C fI:Addr}{us:List Value}
end
section
variable {X:Cx}{C f:Addr}{fd:FuncData}{ps:List Str}{sp:Sp}{k:Nat}{x:Str}{p pos:Pos}{e:Expr}{es:List Expr}{t:TA}
end
section
variable {X:Cx}{aU:List (Addr×Obj)}{σ:St}{H:Hp}{s:Shared}
end
end L2
namespace L2
open PySem PySem.Spec PyProof.Rows Builtin Builtin.ObjectAttr
section
variable {P:Program}{w:World}{A:Around}{E:Value->Shared->Prop}{s:Shared}{K:Fg}{C fI ea:Addr}{v:Value}
end
end L2
namespace L2
open PySem PySem.Spec PyProof.Rows
section
variable {X:Cx}{aU:List (Addr×Obj)}{σ:St}{H:Hp}{s:Shared}
end
section
variable {P:Program}{w:World}{K:Fg}{mg:Str->Option Value}{base h:Heap}{C fI R:Addr}{xR qual:Str}{st:Stmt}{fd:FuncData}
end
section
variable {X:Cx}
end
section
variable {X:Cx}{e:Expr}{pos:Pos}{te:TE}
end
section
variable {P:Program}{w:World}{K:Fg}{mg:Str->Option Value}{base:Heap}{N:List Str}{qual:Str}{scope:Scope}{f:Addr}{cd:Value}{A:Around}{outer:List Env}{s₀:Shared}{H₀:Hp}{E:XK}
end
end L2
namespace Dd
open PySem L2 PyProof.Rows
section
variable {X:Cx}{R:RXT}{e:Expr}{es:List Expr}{f:SE}{g:SA}{sm:Stmt}{rest body:List Stmt}{s t:SS}{pos p:Pos}{x:Str}
end
section
variable {X:Cx}{R:RXT}{e:Expr}{es:List Expr}{f:SE}{g:SA}{sm:Stmt}{rest body:List Stmt}{s t:SS}{pos p:Pos}{x:Str}
end
end Dd
namespace L2
open PySem PySem.Spec PyProof.Rows
end L2
namespace Dd
open PySem L2 PyProof.Rows
section
variable {X:Cx}{R:RXT}{e:Expr}{es:List Expr}{f:SE}{g:SA}{pos p:Pos}{x:Str}
end
end Dd
namespace L2
open PySem PySem.Spec PyProof.Rows
section
variable {X:Cx}
end
end L2
namespace Dd
open PySem L2 PyProof.Rows
end Dd
namespace L2
open PySem PySem.Spec PyProof.Rows
theorem zkf:∀{ts:List Str} {its:List Value},Vals (ts.map V.str) its->∃l:List (Str×Tok),its=strValues l/\l.map (·.1)=ts
 | [],_,h=>by cases h;exact⟨[],rfl,rfl⟩
 | x::ts,_,h=>by
  cases h with
  | cons a b =>
   obtain⟨l,rfl,e⟩:=zkf b;obtain⟨t,rfl⟩:=(show ∃t,_=Value.str x t from a)
   exact⟨(x,t)::l,rfl,by rw[xbx,e]⟩
noncomputable def rJoin (K:Fg):V->List V->Hp->VK->Prop:=fun x vs H Q=>∃(sep:Str) (l:Addr) (ts:List Str),x=.str sep/\vs=[.ref l]/\SqL K H l (ts.map V.str)/\JoinOk sep ts=true/\Q (.str (Txt.join sep ts)) H
theorem zyz {X:Cx}:MtR X "str.join" (rJoin X.K):=by
 intro aU s σ H x vs v us Q I rx rv h;obtain⟨sep,l,ts,rfl,rfl,hl,hok,q⟩:=h;obtain⟨t,rfl⟩:=rx;obtain⟨u,rfl,ru⟩:=rv.one;cases(show u=Value.ref l from ru);obtain⟨its,r,pl,_⟩:=I.list hl;obtain⟨ps,rfl,e⟩:=zkf r;exact SC.join pl.isList e hok fun t' k=>⟨.str _,H,I.tok k,⟨t',rfl⟩,q⟩
end L2
namespace Dd
open PySem L2 PyProof.Rows
noncomputable def asStrs:List D->Option (List Str)
 | []=>some []
 | .str x::ds=>(asStrs ds).map (x::·)
 | _::_=>none
theorem zln {K:Fg}{ρ:Loc}{H:Hp}:∀{ds:List D} {us:List V} {ts:List Str},AtAll K ρ H ds us->asStrs ds=some ts->us=ts.map V.str
 | [],us,ts,a,h=>by cases h;cases a;rfl
 | d::ds,us,ts,a,h=>by
  unfold asStrs at h;split at h
  ·rename_i e;cases e
  ·rename_i x ds' e;cases e;obtain⟨ts',e,rfl⟩:=xch.mp h;cases a with
   | cons a1 a2=>cases a1;rw[zln a2 e];rfl
  ·cases h
noncomputable def eJoin (f:SE) (g:SA):SE:=fun σ st=>(f σ st).bind fun x st1=>match x with
 | .str sep=>(g σ st1).bind fun ys st2=>match ys with
  | [.lst ds]=>match asStrs ds with
   | some ts=>if JoinOk sep ts=true then .ok (.str (Txt.join sep ts)) st2 else .stuck
   | none=>.stuck
  | _=>.stuck
 | _=>.stuck
section
variable {X:Cx}{o e:Expr}{es:List Expr}{f:SE}{ga:SA}{apos cpos:Pos}
theorem zld (ho:JE X o f)(ha:JA X (e::es) ga)(hbase:attributeBase o "join" X.env (eval o X.env)=eval o X.env:=by rfl)
  (hfew:((backTo cpos (starEach (e::es) X.env)).all (fun x=>!x.1)&&(backToKw cpos (keywordEach [] X.env)).all (fun x=>x.1.isSome)
   && decide ((e::es).length+([]:List Keyword).length+(if([]:List Keyword).isEmpty then 0 else 1) < 30))=true:=by rfl)
  (hline:(apos.endLine==cpos.line)=true:=by rfl)(hs:starEach (e::es) X.env=(false,eval e X.env)::starEach es X.env:=by rfl)(hplain:(backTo cpos (starEach es X.env)).any (·.1)=false:=by rfl) :
  JE X (.Call (.Attribute o "join" apos) (e::es) [] cpos) (eJoin f ga):=⟨zef (zbbv xim F.slot_str_join F.type_str_join zyz ho.out ha.out hbase hfew hline hs hplain) fun τ H Q hq0=>by
 obtain⟨ρ,σ,st,v,st',a,rp,e,q⟩:=hq0;obtain⟨x,st1,e1,e⟩:=za e;refine⟨ρ,σ,st,x,st1,a,rp,e1,fun ρ1 H1 u x1 rp1 a1=>?_⟩;split at e
 ·rename_i sep;obtain⟨ys,st2,e2,e⟩:=za e;cases a1;refine⟨rfl,ρ1,σ,st1,ys,st2,a.ext x1,rp1,e2,fun ρ2 H2 ws x2 rp2 a2=>?_⟩;split at e
  ·rename_i ds;split at e
   ·rename_i ts hn;split at e
    ·rename_i hj;cases e;obtain⟨w,rfl,a3⟩:=a2.one;cases a3 with
     | lst k1 k2 k3 =>
      have e:=zln k3 hn;subst e;exact⟨sep,_,ts,rfl,rfl,SqL.of k1,hj,q _ _ _ (x1.trans x2) rp2 (.str _)⟩
    ·cases e
   ·cases e
  ·cases e
 ·cases e⟩
end
end Dd
namespace L2
open PySem PySem.Spec PyProof.Rows
end L2
namespace Dd
open PySem L2 PyProof.Rows
section
variable {K:Fg}{ρ:Loc}{H:Hp}{kvs:List (Int×D)}{vs:List (Key×V)}
end
section
variable {X:Cx}{o e a:Expr}{es:List Expr}{f:SE}{ga:SA}{apos cpos pos:Pos}
end
end Dd
namespace L2
open PySem PySem.Spec PyProof.Rows
end L2
namespace Dd
open PySem L2 PyProof.Rows
end Dd
namespace L2
open PySem PySem.Spec PyProof.Rows
section
variable {X:Cx}{tg:Expr}
end
end L2
namespace Dd
open PySem PySem.Spec PyProof.Rows L2
section
variable {X:Cx}{tg l:Expr}{f:SE}{p pos:Pos}
end
end Dd
namespace L2
open PySem PySem.Spec PyProof.Rows PySem.W
section
variable {X:Cx}{aU:List (Addr×Obj)}{σ:St}{H:Hp}{s:Shared}
end
end L2
namespace Dd
open PySem PySem.Spec PyProof.Rows L2
section
variable {X:Cx}{l a b c o i e value:Expr}{f g h:SE}{elts:List Expr}{n:Nat}{tpos p pos pos':Pos}
end
end Dd
namespace Dd
open PySem L2 PyProof.Rows
section
variable {X:Cx}{pos pos' p:Pos}{x:Str}{i:Nat}
theorem sv (hN:X.N[i]?=some x:=by rfl)(hv:Vis X.env.scope x:=by first | exact Or.inl rfl | exact Or.inr (Or.inl rfl) | exact Or.inr (Or.inr rfl))(hd:(x==("__debug__" : Str))=false:=by decide)
 (hcd:(x==("__classdict__" : Str))=false:=by decide):JE X (.Name x pos) (aA i):=zbfu (pv i hN hv hd hcd)
theorem scl {k j:Nat}{ps:List Str}{F:DFn}{e:Expr}{es:List Expr}{g:SA}(c:CalD X.prog X.w X.K X.mg X.base x k ps F)(hr:Room j X.A)(ha:JA X (e::es) g)(hn:∀ds st v st',F ds st=.ok v st'->ds.length=ps.length:=by exact fun _ _ _ _ h=>zzp h)(hk:k<=j:=by first | decide | lia)(hg:Gl X x:=by rfl)
 (hdb:(x==("__debug__" : Str))=false:=by decide)(he:starEach (e::es) X.env=(false, eval e X.env)::starEach es X.env:=by rfl)(hpl:(backTo pos (starEach es X.env)).any (·.1)=false:=by rfl):JE X (.Call (.Name x p) (e::es) [] pos) (aE F g):=zbax c hn (hr.mono hk) hg ha hdb he hpl
theorem sst {e:Expr}{f:SE}(hN:X.N.Nodup)(he:JE X e f)(hi:X.N[i]?=some x:=by rfl)(hx:L2.Loc X.env.scope x:=by first | exact Or.inl rfl | exact Or.inr rfl)(hs:swapsWith e (some (.Name x pos')) pos.line X.env=pure false:=by rfl)(hf:X.fn x=true\/X.env.scope.names.lookup x=some .local:=by first | exact .inl rfl | exact .inr rfl | assumption) :
 JS X (.Assign [.Name x pos'] e pos) (aF i f):=zzx hN hi hx he hs hf
theorem sgn (hN:X.N.Nodup)(hi:X.N[i]?=some x:=by rfl)(hx:L2.Loc X.env.scope x:=by first | exact Or.inl rfl | exact Or.inr rfl)(hf:X.fn x=true\/X.env.scope.names.lookup x=some .local:=by first | exact .inl rfl | exact .inr rfl | assumption):JG X (.Name x pos) (gN i):=zcm hN hi hx hf
theorem sfr {tg iter:Expr}{body:List Stmt}{it:SA}{bd:SG}{b:SS}(hi:JI X tg iter it)(hg:JG X tg bd)(hb:JB X body b)(hp:PassesOwn (model X.prog X.w) X.A X.env X.xe:=by exact PassesOwn.never)(hc:X.calm=true:=by rfl)(hs:∀x,foldedSetIterable iter X.env x=pure x:=by intro _;rfl) :
 JS X (.For tg iter body [] pos) (sFor it bd b):=zzz hp hc hi hg hb hs
theorem scp {iter elt:Expr}{it:SA}{f:SE}(N:List Str){k:Nat}{is:List Nat}{scope:Scope}(hi:JI X (.Name x p) iter it)(he:∀cl C fp s H,JE (cxC X N scope cl C fp s H) elt f)(nd:N.Nodup:=by decide +kernel)(S:CompScope X N k is scope:=by exact zet (by rfl))(hcalm:X.calm=true:=by rfl)
  (hg:N.Nodup->∀cl C fp s H,JG (cxC X N scope cl C fp s H) (.Name x p) (gN 0):=by exact fun nd _ _ _ _ _=>sgn nd)(hs:∀x,foldedSetIterable iter X.env x=pure x:=by intro _;rfl):JE X (.ListComp elt [⟨.Name x p,iter,[],0⟩] scope pos) (aG it k is (gN 0) aI f) :=
 zit hcalm hi (hg nd) (fun _ _ _ _ _=>zen) he S hs
theorem sa1 {a:Expr}{f:SE}(ha:JE X a f)(hp:plainE a=true:=by rfl):JA X [a] (aB f aC):=zfb ha zlc hp
theorem sa2 {a b:Expr}{f g:SE}(ha:JE X a f)(hb:JE X b g)(hp:plainE a=true:=by rfl)(hq:plainE b=true:=by rfl):JA X [a,b] (aB f (aB g aC)):=zfb ha (sa1 hb hq) hp
theorem sad {a b:Expr}{f g:SE}(ha:JE X a f)(hb:JE X b g):JE X (.BinOp a .Add b pos) (aR aM f g):=zgf zyr zbdz ha hb
theorem ssb {a b:Expr}{f g:SE}(ha:JE X a f)(hb:JE X b g):JE X (.BinOp a .Sub b pos) (aR oSub f g):=zgf zbdq (zjs fun _ _ _ _=>.int _) ha hb
end
structure En where
 P:Program
 w:World
 K:Fg
 mg:Str->Option Value
 base:Heap
 h:Heap
 X:K.In h
 G:h.Ns mainGlobals mg
noncomputable abbrev Cl (Y:En) (x:Str) (k:Nat) (ps:List Str) (F:DFn):Prop:=CalD Y.P Y.w Y.K Y.mg Y.base x k ps F
section
variable {Y:En}{x:Str}{st:Stmt}{ps:List Str}{k:Nat}{b:SS}
theorem cmk (N:List Str)(T:TopF Y.K x st)(hbody:N.Nodup->∀(f:Addr) (cdv:Value) (A:Around) (outer:List Env) (s:Shared) (H:Hp) (E:XK),Room k (A.deeper (envOfC x (defScope st) s.heap.objs.size f cdv))->JB (cxOf CX0 Y.P Y.w Y.K Y.mg Y.base N x (defScope st) f cdv A outer s H E).nox (defBody st) b)
 (S:FnScope N ps (defScope st):=by exact⟨rfl,rfl,rfl,by decide +kernel,rfl,by decide +kernel,by decide +kernel⟩)
 (bd:∀(kV doc pm:Value) (an:Option Addr) (cdv ct:Value) (us:List Value),us.length=ps.length->bindArgs (W.fnOf x x (defArgs st) (defBody st) (defScope st) .none kV doc pm an cdv ct) ⟨us,[]⟩=pure (ps.zip us):=by
  first | exact fun _ _ _ _ _ _ us hl=>len1 us hl fun _=>rfl | exact fun _ _ _ _ _ _ us hl=>len2 us hl fun _ _=>rfl | exact fun _ _ _ _ _ _ us hl=>len3 us hl fun _ _ _=>rfl | exact fun _ _ _ _ _ _ us hl=>len4 us hl fun _ _ _ _=>rfl | exact fun _ _ _ _ _ _ us hl=>len0 us hl rfl) :
 Cl Y x (k+1) ps (fnD N.length ps.length b):=zwi T Y.X Y.G S bd (hbody S.nd)
end
end Dd
namespace L2
open PySem PySem.Spec PyProof.Rows PySem.W
end L2
namespace Dd
open PySem L2 PyProof.Rows
section
variable {X:Cx}{R:RXT}{e:Expr}{es:List Expr}{f f':SE}{g:SA}{pos p:Pos}{x:Str}{k:Nat}{ps:List Str}{F:DFn}
end
end Dd
namespace L2
open PySem PySem.Spec PyProof.Rows
theorem zhu:typeLookup (.type "str") "__int__"=pure none:=by rw[typeLookup_type, xjd]; kernel_rfl
theorem zff:typeLookup (.type "str") "__index__"=pure none:=by rw[typeLookup_type, xjd]; kernel_rfl
theorem zfe:typeLookup (.type "str") "__trunc__"=pure none:=by rw[typeLookup_type, xjd]; kernel_rfl
theorem digs {e:Nat}(he:e < 10):e=0\/e=1\/e=2\/e=3\/e=4\/e=5\/e=6\/e=7\/e=8\/e=9:=by lia
theorem zig (c d:Nat)(hc:c < 10)(hd:d < 10)(u:Tok):Meets (Builtin.«int.__new__» ⟨[.type "int", .str ⟨#[48 + c, 48 + d]⟩ u],[]⟩) (Made.int ((10 * c + d:Nat):Int)).spec :=
 Meets.of_wp fun prog w A R s hs=>by
  obtain⟨hp,g,dd,tk,os⟩:=s;have f1:=F.conv_sub_int;have f2:=F.madeHere_int;have hT:(⟨hp, g, dd, tk, os⟩:Shared).TypeIs (.str ⟨#[48 + c, 48 + d]⟩ u) "str":=rfl
  have f3:=zhu;have f4:=zff;have f5:=zfe
  repeat (any_goals (first | assumption | wp_step))
  have e1:((⟨#[48+c,48+d]⟩:Str).cps.all fun x=>decide (x < 128))=true:=by simp;lia
  have e2:(if((⟨#[48+c,48+d]⟩:Str).cps.all fun x=>decide (x < 128))=true then(⟨#[48+c,48+d]⟩:Str).cps.toList else Unicode.numberText (⟨#[48+c,48+d]⟩:Str).cps.toList)=[48+c,48+d]:=by rw[if_pos e1]
  rw[e2];have e3:List.takeWhile (fun x=>x != 0) [48+c,48+d]=[48+c,48+d]:=by simp
  rw[e3,if_pos (by simp)];refine xba (xbe ?_);clear f1 f2 hT f3 f4 f5 e1 e2 e3;dsimp only;split
  ·rename_i heq
   exfalso
   rcases digs hc with rfl | rfl | rfl | rfl | rfl | rfl | rfl | rfl | rfl | rfl<;>rcases digs hd with rfl | rfl | rfl | rfl | rfl | rfl | rfl | rfl | rfl | rfl<;>cases heq
  ·rename_i heq
   exfalso
   rcases digs hc with rfl | rfl | rfl | rfl | rfl | rfl | rfl | rfl | rfl | rfl<;>rcases digs hd with rfl | rfl | rfl | rfl | rfl | rfl | rfl | rfl | rfl | rfl<;>cases heq
  ·rename_i i heq;have hi:i=((10 * c+d:Nat):Int):=by
    rcases digs hc with rfl | rfl | rfl | rfl | rfl | rfl | rfl | rfl | rfl | rfl<;>rcases digs hd with rfl | rfl | rfl | rfl | rfl | rfl | rfl | rfl | rfl | rfl<;>(cases heq;rfl)
   subst hi;rw[if_pos (by simp)]
   repeat (any_goals (first | assumption | wp_step))
   all_goals first | exact⟨_,rfl,hs⟩ | skip
  ·rename_i heq
   exfalso
   rcases digs hc with rfl | rfl | rfl | rfl | rfl | rfl | rfl | rfl | rfl | rfl<;>rcases digs hd with rfl | rfl | rfl | rfl | rfl | rfl | rfl | rfl | rfl | rfl<;>cases heq
theorem zih (c:Nat)(hc:c < 10)(u:Tok):Meets (Builtin.«int.__new__» ⟨[.type "int", .str ⟨#[48 + c]⟩ u],[]⟩) (Made.int (c:Int)).spec :=
 Meets.of_wp fun prog w A R s hs=>by
  obtain⟨hp,g,dd,tk,os⟩:=s;have f1:=F.conv_sub_int;have f2:=F.madeHere_int;have hT:(⟨hp, g, dd, tk, os⟩:Shared).TypeIs (.str ⟨#[48 + c]⟩ u) "str":=rfl
  have f3:=zhu;have f4:=zff;have f5:=zfe
  repeat (any_goals (first | assumption | wp_step))
  have e1:((⟨#[48+c]⟩:Str).cps.all fun x=>decide (x < 128))=true:=by simp;lia
  have e2:(if((⟨#[48+c]⟩:Str).cps.all fun x=>decide (x < 128))=true then(⟨#[48+c]⟩:Str).cps.toList else Unicode.numberText (⟨#[48+c]⟩:Str).cps.toList)=[48+c]:=by rw[if_pos e1]
  rw[e2];have e3:List.takeWhile (fun x=>x != 0) [48+c]=[48+c]:=by simp
  rw[e3,if_pos (by simp)];refine xba (xbe ?_);clear f1 f2 hT f3 f4 f5 e1 e2 e3;dsimp only;split
  ·rename_i heq
   exfalso
   rcases digs hc with rfl | rfl | rfl | rfl | rfl | rfl | rfl | rfl | rfl | rfl<;>cases heq
  ·rename_i heq
   exfalso
   rcases digs hc with rfl | rfl | rfl | rfl | rfl | rfl | rfl | rfl | rfl | rfl<;>cases heq
  ·rename_i i heq;have hi:i=(c:Int):=by
    rcases digs hc with rfl | rfl | rfl | rfl | rfl | rfl | rfl | rfl | rfl | rfl<;>(cases heq;rfl)
   subst hi;rw[if_pos (by simp)]
   repeat (any_goals (first | assumption | wp_step))
   all_goals first | exact⟨_,rfl,hs⟩ | skip
  ·rename_i heq
   exfalso
   rcases digs hc with rfl | rfl | rfl | rfl | rfl | rfl | rfl | rfl | rfl | rfl<;>cases heq
noncomputable def numS (x:Str):Option Nat:=match x.cps.toList with
 | [c]=>if 48<=c/\c < 58 then some (c - 48) else none
 | [c,d]=>if(48<=c/\c < 58)/\48<=d/\d < 58 then some (10 * (c - 48)+(d - 48)) else none
 | _=>none
theorem zli {X:Cx}:CallR X (.type "int") (fun xs H Q=>∃ x n, xs=[.str x]/\numS x=some n/\Q (.int (n:Int)) H):=by
 intro aU s σ H xs us Q I r h;obtain⟨x,n,rfl,hn,q⟩:=h;obtain⟨u,rfl,ru⟩:=r.one;obtain⟨t,rfl⟩:=ru;unfold numS at hn;split at hn
 ·rename_i c e;split at hn
  ·rename_i hc;cases hn;obtain rfl:x=⟨#[48+(c - 48)]⟩:=by
    obtain⟨⟨l⟩⟩:=x;have:l=[c]:=e;subst this;rw[show 48+(c - 48)=c by lia]
   exact call_int_1 (zih _ (by lia) t) (show(Made.int _).post _ s from⟨rfl,⟨.int _,H,I.tok _,⟨_,rfl⟩,q⟩⟩)
  ·cases hn
 ·rename_i c d e;split at hn
  ·rename_i hc;cases hn;obtain rfl:x=⟨#[48+(c - 48),48+(d - 48)]⟩:=by
    obtain⟨⟨l⟩⟩:=x;have:l=[c,d]:=e;subst this;rw[show 48+(c - 48)=c by lia,show 48+(d - 48)=d by lia]
   exact call_int_1 (zig _ _ (by lia) (by lia) t) (show(Made.int _).post _ s from⟨rfl,⟨.int _,H,I.tok _,⟨_,rfl⟩,q⟩⟩)
  ·cases hn
 ·cases hn
theorem zkg:∀l:List (Str×Tok),Vals ((l.map (·.1)).map V.str) (strValues l)
 | []=>.nil
 | p::l=>.cons ⟨p.2,rfl⟩ (zkg l)
open Builtin Builtin.Str in
noncomputable def rSplit:V->List V->Hp->VK->Prop:=fun x vs H Q=>∃a b:Str,x=.str a/\vs=[.str b]/\(b.length==0)=false/\a.length<=sizeLine/\(Txt.split a b).length<=sizeLine/\∀p,H p=none->Q (.ref p) (upd H p (.lst ((Txt.split a b).map V.str)))
open Builtin Builtin.Str in
theorem zuz {X:Cx}:MtR X "str.split" rSplit:=by
 intro aU s σ H x vs v us Q I rx rv h;obtain⟨a,b,rfl,rfl,hb,la,lp,q⟩:=h;obtain⟨t,rfl⟩:=rx;obtain⟨w,rfl,rw'⟩:=rv.one;obtain⟨u,rfl⟩:=rw';have fin:∀(l:List (Str×Tok)) (k:Nat), l.map (·.1)=Txt.split a b->s.toks<=k->EP X aU σ Q (.ref s.heap.objs.size) { s with toks:=k, heap:=s.heap.push { cls:=.type "list", data:=.seq (strValues l).toArray } }:=fun l k e hk=>by
  have rv:=zkg l;rw[e] at rv;exact⟨.ref s.heap.objs.size,_,I.laid (t':=k) (o:=.lst ((Txt.split a b).map V.str)) (fun b ob hb=>xbb _ hb) (xbf _) ⟨by rw[xbd];exact lp,_,0,rv,xbm _ rfl⟩,rfl,q _ (I.hok.fresh (xbf _))⟩
 cases h1:(decide (a.length < b.length)||decide (strKind a < strKind b))
 ·cases hf:(occurrences a b 0 a.length (a.length+1)).isEmpty
  ·have es:Txt.split a b=partsBetween a (occurrences a b 0 a.length (a.length+1)) b.length:=(if_neg (xjp h1)).trans (if_neg (xjp hf));refine xgz F.slot_str_split (xia _ _ _) xkl (xjy _ _) (meets_str_split_sep a b t u h1 hb hf la (by rw[← es];exact lp)) ?_;show wants _ _ _ { s with toks:=_, heap:=s.heap.push { cls:=.type "list", data:=.seq (strsFrom s.toks (partsBetween a (occurrences a b 0 a.length (a.length + 1)) b.length)).toArray } }
   rw[strsFrom_eq];exact fin (numbered s.toks _) _ ((numbered_texts _ _).trans es.symm) (xbr _ _)
  ·exact xgz F.slot_str_split (xia _ _ _) xkl (xjy _ _) (meets_str_split_not_found a b t u h1 hb hf)
    (fin [(a,t)] s.toks ((if_neg (xjp h1)).trans (if_pos hf)).symm (xbf _))
 ·exact xgz F.slot_str_split (xia _ _ _) xkl (xjy _ _) (meets_str_split_cannot_occur a b t u h1)
   (fin [(a,t)] s.toks (if_pos h1).symm (xbf _))
noncomputable def Its (x:Str):It:=⟨fun i _=>i < x.cps.toList.length,fun i H y H'=>H'=H/\∃c,x.cps.toList[i]?=some c/\y=.str ⟨#[c]⟩,fun i _=>x.cps.toList.length<=i⟩
theorem ztx {P:Program}{w:World}{K:Fg}{tg:Expr}(it:Addr)(x:Str)(t:Tok):Turn P w K tg (Its x) [it] it (fun i h=>h.IsStrIter it "str_ascii_iterator" x t i) where
 mem:=by simp
 obj:=fun i h st b hb=>by
  have e:b=it:=by simpa using hb
  subst e;obtain⟨o,e,c,d⟩:=st;exact⟨o,e,fun v z=>by rw[d] at z;cases z⟩
 keep:=fun i h h' st k=>let ⟨o,e,r⟩:=st;⟨o,k it (by simp) o e,r⟩
 item:=by
  intro X hP hw hK hc i aU s σ H E I hf st hg;subst hP hw hK;obtain⟨c,hx⟩:∃c,x.cps.toList[i]?=some c:=⟨_,xbi (show i < x.cps.toList.length from hg)⟩
  obtain⟨f0,f1,f2,f3,f4,f5⟩:=hf it (by simp);refine wpAny_pyNext_ascii_item st (c:=c) (by rw[← xby];exact hx) fun h' st' sb=>?_
  have I1:Inv X aU σ H {s with heap:=h',toks:=s.toks+1}:=I.turned (t':=s.toks+1) (fun b o hb e=>(sb.2 b hb).trans e) f0 f1 f3 f4 f5;obtain⟨o,e,c',d⟩:=id st';exact⟨_,rfl,zzn (s:={s with heap:=h',toks:=s.toks+1}) e c' d (by decide) ⟨.str ⟨#[c]⟩,H,I1,⟨_,rfl⟩,⟨rfl,c,hx,rfl⟩,st',fun b hb=>(hf b hb).1⟩⟩
 done:=by
  intro X hP hw hK hc i aU s σ H E I hf st hg;subst hP hw hK;obtain⟨f0,f1,f2,f3,f4,f5⟩:=hf it (by simp);exact wpAny_pyNext_ascii_end (I.ok.hd hc) st (by rw[← xby];exact xhi hg) fun h' eb=>⟨rfl,I.turned (t':=s.toks) (fun b o hb e=>eb b o hb e) f0 f1 f3 f4 f5⟩
 self:=fun _ _ _ _ _ st h=>wpAny_pyIter_striter_ascii st h
section
variable {X:Cx}{tg:Expr}
noncomputable def iStr (tl:TE):TI:=fun σ H R=>tl σ H fun x H1=>∃z:Str,x=.str z/\(z.cps.all (· < 128))=true/\R (Its z) H1
theorem zbde {l:Expr}{tl:TE}(hl:PE X l tl):PI X tg l (iStr tl):=by
 intro aU s σ H R I h;refine thn (hl aU s σ H _ I h) fun v s1 hq0=>?_
 obtain⟨x,H1,I1,r1,q1⟩:=hq0;obtain⟨z,e,hz,q⟩:=q1;subst e;obtain⟨t,rfl⟩:=r1;refine wpAny_pyIter_ascii hz ?_;refine⟨s1.heap.objs.size,[s1.heap.objs.size],_,_,H1,rfl,I1.kept (t':=s1.toks) fun b o e=>xbb _ e,ztx _ z t,⟨_,xbm _ rfl,rfl,rfl⟩,fun b hb=>?_,q⟩;have e:b=s1.heap.objs.size:=by simpa using hb
 subst e;exact I1.fpOk (xbf _) (I1.hok.fresh (xbf _))
end
end L2
namespace Dd
open PySem L2 PyProof.Rows
noncomputable def bIntS:List D->Store->Res D:=fun xs st=>match xs with
 | [.str x]=>match numS x with
  | some n=>.ok (.int (n:Int)) st
  | none=>.stuck
 | _=>.stuck
theorem ztj {K:Fg}:CaD K bIntS (fun xs H Q=>∃x n,xs=[.str x]/\numS x=some n/\Q (.int (n:Int)) H):=fun ρ H st xs us z st' Q rp aa e q=>by
 unfold bIntS at e;split at e
 ·split at e
  ·rename_i hn;cases e;obtain⟨u,rfl,a⟩:=aa.one;cases a;exact⟨_,_,rfl,hn,q _ _ _ (.refl _ _) rp (.int _)⟩
  ·cases e
 ·cases e
noncomputable def bLenS:List D->Store->Res D:=fun xs st=>match xs with
 | [.str z]=>if z.length<=sizeLine then .ok (.int z.length) st else .stuck
 | _=>.stuck
theorem zpg {K:Fg}:CaD K bLenS (fun xs H Q=>∃z,xs=[.str z]/\z.length<=sizeLine/\Q (.int z.length) H):=fun ρ H st xs us z st' Q rp aa e q=>by
 unfold bLenS at e;split at e
 ·split at e
  ·rename_i hn;cases e;obtain⟨u,rfl,a⟩:=aa.one;cases a;exact⟨_,rfl,hn,q _ _ _ (.refl _ _) rp (.int _)⟩
  ·cases e
 ·cases e
noncomputable def oInS (neg:Bool) (x y:D) (st:Store):Res D:=match x,y with
 | .str i,.str j=>.ok (.bl (if neg then !(!(Builtin.Str.occurrences j i 0 j.length 1).isEmpty) else !(Builtin.Str.occurrences j i 0 j.length 1).isEmpty)) st
 | _,_=>.stuck
theorem zyw {K:Fg}:OpD K (oInS true) (fun x y H Q=>∃i j,x=.str i/\y=.str j/\Q (.bl (!(!(Builtin.Str.occurrences j i 0 j.length 1).isEmpty))) H):=fun ρ H st x y u v z st' Q rp a b e q=>by
 unfold oInS at e;split at e
 ·cases a;cases b;cases e
  exact⟨_,_,rfl,rfl,q _ _ _ (.refl _ _) rp (.bl _)⟩
 ·cases e
noncomputable def oAddS (x y:D) (st:Store):Res D:=match x,y with
 | .str i,.str j=>if i.length+j.length<=sizeLine then .ok (.str (i++j)) st else .stuck
 | _,_=>.stuck
theorem zzl {X:Cx}:PIp X .Add (fun x y H Q=>∃i j,x=.str i/\y=.str j/\i.length+j.length<=sizeLine/\Q (.str (i++j)) H):=zmo
theorem zbii {K:Fg}:IpD K oAddS (fun x y H Q=>∃i j,x=.str i/\y=.str j/\i.length+j.length<=sizeLine/\Q (.str (i++j)) H):=fun ρ H st x y u v z st' Q rp a b e q=>by
 unfold oAddS at e;split at e
 ·split at e
  ·rename_i hl;cases a;cases b;cases e
   exact⟨_,_,rfl,rfl,hl,q _ _ _ (.refl _ _) rp (.str _)⟩
  ·cases e
 ·cases e
noncomputable def signs (z:Str):List D:=z.cps.toList.map fun c=>.str ⟨#[c]⟩
noncomputable def iTxt (f:SE):SA:=fun σ st=>(f σ st).bind fun x st1=>match x with
 | .str z=>if(z.cps.all (· < 128))=true then .ok (signs z) st1 else .stuck
 | _=>.stuck
theorem zbeo {K:Fg}{ρ:Loc}{H:Hp}{z:Str}:ItOk K ρ H (Its z) (signs z) where
 item:=fun ρ2 H2 x i d e=>by
  unfold signs at e;rw[xcm,xch] at e;obtain⟨c,hc,rfl⟩:=e;refine⟨(xbk.mp hc).1,fun y H3 hy=>?_⟩;obtain⟨rfl,c',hc',rfl⟩:=hy;rw[hc] at hc';cases hc';exact⟨.refl _ _,fun _ r=>⟨r,.str _⟩⟩
 done:=fun ρ2 H2 x i h=>by
  unfold signs at h;rw[xbd] at h;exact h
section
variable {X:Cx}{tg l o e:Expr}{es:List Expr}{f:SE}{ga:SA}{apos cpos pos:Pos}
theorem ztb (hl:JE X l f):JI X tg l (iTxt f):=⟨zwr (zbde hl.out) fun τ H R hq0=>by
 obtain⟨ρ,σ,st,xs,st',a,rp,e,q⟩:=hq0;obtain⟨x,st1,e1,e⟩:=za e;refine⟨ρ,σ,st,x,st1,a,rp,e1,fun ρ1 H1 u x1 rp1 a1=>?_⟩;split at e
 ·split at e
  ·rename_i z hz;cases e;cases a1;exact⟨z,rfl,hz,q _ _ _ x1 rp1 zbeo⟩
  ·cases e
 ·cases e⟩
noncomputable def eSplit (f:SE) (g:SA):SE:=fun σ st=>(f σ st).bind fun x st1=>match x with
 | .str a=>(g σ st1).bind fun ys st2=>match ys with
  | [.str b]=>if(b.length==0)=false/\a.length<=sizeLine/\(Txt.split a b).length<=sizeLine then .ok (.lst ((Txt.split a b).map .str)) st2 else .stuck
  | _=>.stuck
 | _=>.stuck
theorem ztk {K:Fg}{ρ:Loc}{H:Hp}:∀l:List Str,AtAll K ρ H (l.map .str) (l.map V.str)
 | []=>.nil
 | _::l=>.cons (.str _) (ztk l)
theorem zvz (ho:JE X o f)(ha:JA X (e::es) ga)(hbase:attributeBase o "split" X.env (eval o X.env)=eval o X.env:=by rfl)
  (hfew:((backTo cpos (starEach (e::es) X.env)).all (fun x=>!x.1)&&(backToKw cpos (keywordEach [] X.env)).all (fun x=>x.1.isSome)
   && decide ((e::es).length+([]:List Keyword).length+(if([]:List Keyword).isEmpty then 0 else 1) < 30))=true:=by rfl)
  (hline:(apos.endLine==cpos.line)=true:=by rfl)(hs:starEach (e::es) X.env=(false,eval e X.env)::starEach es X.env:=by rfl)(hplain:(backTo cpos (starEach es X.env)).any (·.1)=false:=by rfl) :
  JE X (.Call (.Attribute o "split" apos) (e::es) [] cpos) (eSplit f ga):=⟨zef (zbbv xim F.slot_str_split F.type_str_split zuz ho.out ha.out hbase hfew hline hs hplain) fun τ H Q hq0=>by
 obtain⟨ρ,σ,st,v,st',a,rp,e,q⟩:=hq0;obtain⟨x,st1,e1,e⟩:=za e;refine⟨ρ,σ,st,x,st1,a,rp,e1,fun ρ1 H1 u x1 rp1 a1=>?_⟩;split at e
 ·rename_i s;obtain⟨ys,st2,e2,e⟩:=za e;cases a1;refine⟨rfl,ρ1,σ,st1,ys,st2,a.ext x1,rp1,e2,fun ρ2 H2 ws x2 rp2 a2=>?_⟩;split at e
  ·rename_i b;split at e
   ·rename_i hh;cases e;obtain⟨w,rfl,a3⟩:=a2.one;cases a3;exact⟨s,b,rfl,rfl,hh.1,hh.2.1,hh.2.2,fun p hp=>q _ _ _ ((x1.trans x2).trans (Ext.new hp _)) (rp2.new hp _) (.newL rp2 hp (ztk _))⟩
   ·cases e
  ·cases e
 ·cases e⟩
end
end Dd
namespace L2
open PySem PySem.Spec PyProof.Rows
structure ZAtS (h:Heap) (z TI TO i1 i2:Addr) (x0:Str) (tk:Tok) (t2:Addr) (f0:Value) (j:Nat):Prop where
 zip:IsZip h z TI TO f0
 its:IsPair h TI (.ref i1) (.ref i2)
 out:∃a b,IsPair h TO a b
 it1:h.IsStrIter i1 "str_ascii_iterator" x0 tk j
 it2:h.IsTupleIter i2 t2 j
theorem zuc {prog:Program}{w:World}{A:Around}{E:Value->Shared->Prop}{s:Shared}{it:Addr}{x:Str}{t:Tok}{i:Nat}{Q:Value->Shared->Prop}(hh:A.handled=none)(hit:s.heap.IsStrIter it "str_ascii_iterator" x t i)
  (hQ:∀ c, x.cps[i]?=some c->∀ h', h'.IsStrIter it "str_ascii_iterator" x t (i + 1)->Heap.SameBut it s.heap h'->Q (.str ⟨#[c]⟩ s.toks) { s with heap:=h', toks:=s.toks + 1 })
  (hE:x.cps[i]?=none->∀ h' e, Heap.ExtBut it s.heap h'->(∃ o, h'.get? e=some o/\o.cls=.type "StopIteration")->E (.ref e) { s with heap:=h' }):wpAny (model prog w) A (Builtin.SmallTypes.nextOf (.ref it)) Q E s:=by
 obtain⟨o,ho,hc,hd⟩:=id hit;refine xba (wpAny_callSpecial?_slot (name:=Str.ofString "__next__") hit.typeIs F.slot_str_ascii_iterator_next (xdy F.slot_str_ascii_iterator_next hit.typeIs F.entry_str_ascii_iterator_next ?_ (F.args_str_ascii_iterator_next_1 _)))
 show wpAny _ _ (field (.ref it) 0 >>= _) _ _ s;refine xba (xeh ho hd (x:=.str x t) rfl ?_);show wpAny _ _ (field (.ref it) 1 >>= _) _ _ s;refine xba (xeh ho hd (x:=.int i 0) rfl ?_);cases hx:x.cps[i]? with
 | some c =>
  simp only[xen,hx];refine xba (xhl ho hd (by simp) (xba (wpAny_mkStr (xbe ⟨_,rfl,xbe (hQ c hx _ ?_ (xgn ..))⟩) (by show 1<=sizeLine;decide))));exact⟨_,xhe _ ho (xja (xgd hd _)),(xkg ..).trans hc,by rw[xgd hd];simp[rawInt]⟩
 | none =>
  simp only[xen,hx];refine xba (xgb (xba (xhl ho hd (by simp) (xba (xjq ?_)))));show wpAny _ _ (newExc (.type "StopIteration") [] >>= _) _ _ _
  refine xba ?_;simp only[newExc,newTuple];refine xba (xeb ?_ (by size_fits));refine xba (m:=firstArgMember _ _) (wpAny_of_eq (a:=Value.none) (by first | rfl | (simp only[firstArgMember];rfl)) ?_);refine xeb ?_ (by size_fits);simp only[raiseNew];refine xba (wpAny_handled ?_);rw[show A.in1.handled=none from hh];exact xba (xbe (wpAny_throw (hE hx _ _ (((xgn ..).extBut.push _).push _) ⟨_,xbm _ rfl,rfl⟩)))
section
variable {prog:Program}{w:World}{A:Around}{E:Value->Shared->Prop}{s:Shared}{z TI TO i1 i2 t2:Addr}{x0:Str}{tk:Tok}{ys:Array Value}{j:Nat}
theorem zps {Q:Fin->Shared->Prop}(hh:A.handled=none)(R:ZRec z TI TO i1 i2 t2 t2)(Z:ZAtS s.heap z TI TO i1 i2 x0 tk t2 .none j)(hy:s.heap.IsTuple t2 ys)
  (hQ:∀c y,x0.cps[j]?=some c->ys[j]?=some y->∀g,ZAtS g z TI TO i1 i2 x0 tk t2 (rawInt s.heap.objs.size) (j+1)->IsPair g s.heap.objs.size (.str ⟨#[c]⟩ s.toks) y->g.objs.size=s.heap.objs.size+1 ->
   (∀c o,c∉[z,TO,i1,i2]->s.heap.get? c=some o->g.get? c=some o)->Q (.done (.ret (.ref s.heap.objs.size))) {s with heap:=g,toks:=s.toks+1})
  (hE:x0.cps[j]?=none\/ys[j]?=none->∀ g e k,(∀ c o, c∉[z, TO, i1, i2]->s.heap.get? c=some o->g.get? c=some o)->(∃ o, g.get? e=some o/\o.cls=.type "StopIteration")->E (.ref e) { s with heap:=g, toks:=k }):wpAny (model prog w) A (Builtin.«zip.__next__» ⟨[.ref z],[]⟩) Q E s:=by
 obtain⟨n1,n2,n3,n4,n5,n6,n7,n8,n9,n10⟩:=zke z TI TO i1 i2 0 R.nd;have a2:=R.o2;simp only[xbn,xdx,xhd,not_or] at a2;obtain⟨q1,q2,q3,q4,q5⟩:=a2;obtain⟨hz,hI,⟨a,b,hO⟩,k1,k2⟩:=Z;refine(?_:wpAny _ _ (field (.ref z) 2 >>= _) Q E s);refine xba (xeh hz rfl (x:=.bool false) rfl (?_:wpAny _ _ (field (.ref z) 3 >>= _) _ _ _));refine xba (xeh hz rfl (x:=.ref TI) rfl (xba (xfk hI rfl (?_:wpAny _ _ (Builtin.SmallTypes.ownedTupleIsFree (.ref z) >>= _) _ _ _))));refine xba (m:=Builtin.SmallTypes.ownedTupleIsFree (.ref z)) (show wpAny _ _ (field (.ref z) 0 >>= _) _ _ _ from xba (xeh hz rfl (x:=.none) rfl (xbe ?_)));simp only[xew];refine xba (xgb (xba (xeh hz rfl (x:=.ref TO) rfl (xba (xdu hz (by simp) fun g1 hz1 e1=>?_)))));have hz1':IsZip g1 z TI TO .ellipsis:=hz1;simp only[xjh,xkp,List.forIn_nil,List.zipIdx_nil];refine xba (xba (xba (xkf (?_:wpAny _ _ (Builtin.SmallTypes.nextOf (.ref i1) >>= _) _ _ _))));refine xba (zuc hh (s:={s with heap:=g1}) (k1.extBut e1.extBut (xci n3)) (fun c hx1 g2 k3 e2=>xbe ?_) fun hx1 g2 ee eb he=>?_)
 ·generalize hx0:Value.str ⟨#[c]⟩ s.toks=x;have hO2:IsPair g2 TO a b:=e2.extBut _ _ n8 (e1.extBut _ _ (xci n2) hO);refine xba (xfk hO2 rfl (xba (xhr (s:={s with heap:=g2,toks:=s.toks+1}) hO2 fun g3 hO3 e3=>xba (xjq (xbe ?_)))));have hO3':IsPair g3 TO x b:=hO3;refine xba (xba (xkf (?_:wpAny _ _ (Builtin.SmallTypes.nextOf (.ref i2) >>= _) _ _ _)));refine xba (zjm hh (s:={s with heap:=g3,toks:=s.toks+1}) (((k2.extBut e1.extBut (xci n4)).extBut e2.extBut (xci n10)).extBut e3.extBut (xci n9)) (((hy.extBut e1.extBut q1).extBut e2.extBut q4).extBut e3.extBut q3) (fun y hy1 g4 k4 e4=>xbe ?_) fun hy1 g4 ee eb he=>?_)
  ·have hO4:IsPair g4 TO x b:=e4.extBut _ _ n9 hO3';refine xba (xfk hO4 rfl (xba (xhr (s:={s with heap:=g4,toks:=s.toks+1}) hO4 fun g5 hO5 e5=>xba (xjq (xbe (xbe ?_))))));have hO5':IsPair g5 TO x y:=hO5;refine xba (xfk hO5' rfl (xba (wpAny_newTuple ?_)));have sz:g5.objs.size=s.heap.objs.size:=by rw[e5.1,e4.1,e3.1,e2.1,e1.1]
   have hz5:IsZip g5 z TI TO .ellipsis:=e5.extBut _ _ n2 (e4.extBut _ _ n4 (e3.extBut _ _ n2 (e2.extBut _ _ n3 hz1')));have kp:∀c o,c∉[z,TO,i1,i2]->s.heap.get? c=some o->g5.get? c=some o:=fun c o hc e=>by
    simp only[xbn,xdx,xhd,not_or] at hc;exact e5.extBut _ _ hc.2.1 (e4.extBut _ _ hc.2.2.2 (e3.extBut _ _ hc.2.1 (e2.extBut _ _ hc.2.2.1 (e1.extBut _ _ hc.1 e))))
   have m1:g5.IsStrIter i1 "str_ascii_iterator" x0 tk (j + 1):=((k3.extBut e3.extBut (xci n8)).extBut e4.extBut n10).extBut e5.extBut (xci n8)
   have m2:g5.IsTupleIter i2 t2 (j+1):=k4.extBut e5.extBut (xci n9);have lz:z < g5.objs.size:=xbl hz5;have hz6:IsZip (g5.push { cls:=.type "tuple", data:=.seq #[x, y] }) z TI TO .ellipsis:=xbb _ hz5
   refine xba (m:=Builtin.SmallTypes.ownedTupleHandOut (.ref z) (.ref g5.objs.size)) (xba (xdu hz6 (by simp) fun g7 hz7 e7=>?_));have hz7':IsZip g7 z TI TO (rawInt g5.objs.size):=hz7;refine xdu hz7' (by simp) fun g8 hz8 e8=>xbe ?_
   have hz8':IsZip g8 z TI TO (rawInt g5.objs.size):=hz8;have up:∀c o,c≠z->g5.get? c=some o->g8.get? c=some o:=fun c o hc e=>e8.extBut _ _ hc (e7.extBut _ _ hc (xbb _ e))
   have hT:IsPair g8 g5.objs.size x y:=e8.extBut _ _ (xfm lz) (e7.extBut _ _ (xfm lz) (xbm _ rfl));have s8:g8.objs.size=g5.objs.size+1:=by rw[e8.1,e7.1,xem]
   rw[sz] at hz8' hT s8;have hI5:IsPair g5 TI (.ref i1) (.ref i2):=kp _ _ (by simp[xci n1,n5,n6,n7]) hI;have fin:=hQ c y hx1 hy1 g8 ⟨hz8',up _ _ (xci n1) hI5,⟨x,y,up _ _ (xci n2) hO5'⟩,(let ⟨o,e,r⟩:=m1;⟨o,up _ o (xci n3) e,r⟩),m2.at fun o e=>up _ o (xci n4) e⟩ (hx0 ▸ hT) s8 fun c o hc e=>up c o (fun q=>hc (by simp[q])) (kp c o hc e)
   show Q (.done (.ret (.ref g5.objs.size))) _;rw[sz];exact fin
  ·obtain⟨oe,he1,he2⟩:=he;have hz4:IsZip g4 z TI TO .ellipsis:=eb _ _ n4 (e3.extBut _ _ n2 (e2.extBut _ _ n3 hz1'));have nz:ee≠z:=fun q=>by rw[q,hz4] at he1;cases he1;simp at he2
   refine xdu hz4 (by simp) fun g5 _ e5=>hE (.inr hy1) g5 ee _ (fun c o hc e=>?_) ⟨oe,e5.extBut _ _ nz he1,he2⟩
   simp only[xbn,xdx,xhd,not_or] at hc;exact e5.extBut _ _ hc.1 (eb _ _ hc.2.2.2 (e3.extBut _ _ hc.2.1 (e2.extBut _ _ hc.2.2.1 (e1.extBut _ _ hc.1 e))))
 ·obtain⟨oe,he1,he2⟩:=he;have hz2:IsZip g2 z TI TO .ellipsis:=eb _ _ n3 hz1';have nz:ee≠z:=fun q=>by rw[q,hz2] at he1;cases he1;simp at he2
  refine xdu hz2 (by simp) fun g3 _ e3=>hE (.inl hx1) g3 ee _ (fun c o hc e=>?_) ⟨oe,e3.extBut _ _ nz he1,he2⟩
  simp only[xbn,xdx,xhd,not_or] at hc;exact e3.extBut _ _ hc.1 (eb _ _ hc.2.2.1 (e1.extBut _ _ hc.1 e))
theorem zkd {Q:Option Value->Shared->Prop}(hh:A.handled=none)(R:ZRec z TI TO i1 i2 t2 t2)(Z:ZAtS s.heap z TI TO i1 i2 x0 tk t2 .none j)(hy:s.heap.IsTuple t2 ys)
  (hQ:∀c y,x0.cps[j]?=some c->ys[j]?=some y->∀g,ZAtS g z TI TO i1 i2 x0 tk t2 (rawInt s.heap.objs.size) (j+1)->IsPair g s.heap.objs.size (.str ⟨#[c]⟩ s.toks) y->g.objs.size=s.heap.objs.size+1 ->
   (∀c o,c∉[z,TO,i1,i2]->s.heap.get? c=some o->g.get? c=some o)->Q (some (.ref s.heap.objs.size)) {s with heap:=g,toks:=s.toks+1})
  (hE:x0.cps[j]?=none\/ys[j]?=none->∀g k,(∀c o,c∉[z,TO,i1,i2]->s.heap.get? c=some o->g.get? c=some o)->Q none {s with heap:=g,toks:=k}):wpAny (model prog w) A (pyNext (.ref z)) Q E s:=by
 have T:s.TypeIs (.ref z) "zip":=⟨_, Z.zip, rfl⟩
 unfold pyNext;refine xba (xip (wpAny_callSpecial?_slot (name:=Str.ofString "__next__") T xhj (xdy xhj T F.entry_zip_next (zps hh R Z hy (fun x y h1 h2 g k1 k2 k3 k4=>⟨_, rfl, xbe (hQ x y h1 h2 g k1 k2 k3 k4)⟩) fun h1 g e tt k he=>?_) (F.args_zip_next_1 _))))
 obtain⟨o,ho,hc⟩:=he;exact xba (wpAny_isInstance (T:="StopIteration") (b:=true) ⟨o, ho, hc⟩ isSubtype_stop (xbe (hE h1 g tt k)))
end
noncomputable def ItzS (K:Fg) (x0:Str) (b:Addr):It :=
 ⟨fun i H=>∃ys c y,SqT K H b ys/\x0.cps.toList[i]?=some c/\ys[i]?=some y,
  fun i H u H'=>∃p,H p=none/\u=.ref p/\∀ys c y,SqT K H b ys->x0.cps.toList[i]?=some c->ys[i]?=some y->H'=upd H p (.tup [.str ⟨#[c]⟩,y]),
  fun i H=>∃ys,SqT K H b ys/\(x0.cps.toList.length<=i\/ys.length<=i)⟩
theorem zqe {P:Program}{w:World}{K:Fg}{elts:List Expr}{k:Nat}{tpos:Pos}{z TI TO i1 i2 b:Addr}{x0:Str}{tk:Tok}(R:ZRec z TI TO i1 i2 b b) :
  Turn P w K (.Tuple elts k tpos) (ItzS K x0 b) [z,TI,TO,i1,i2] z (fun i h=>ZAtS h z TI TO i1 i2 x0 tk b .none i) where
 mem:=by simp
 obj:=fun i h st c hc=>by
  obtain⟨u,v,hO⟩:=st.out;obtain⟨o1,e1,_,d1⟩:=st.it1;obtain⟨o2,e2,_,d2⟩:=st.it2;have hc':c=z\/c=TI\/c=TO\/c=i1\/c=i2:=by simpa using hc
  rcases hc' with rfl | rfl | rfl | rfl | rfl
  ·exact⟨_,st.zip,fun v q=>by cases(show Data.fields _=Data.cell v from q)⟩
  ·exact⟨_,st.its,fun v q=>by cases(show Data.seq _ _=Data.cell v from q)⟩
  ·exact⟨_,hO,fun v q=>by cases(show Data.seq _ _=Data.cell v from q)⟩
  ·exact⟨o1,e1,fun v q=>by rw[d1] at q;cases q⟩
  ·exact⟨o2,e2,fun v q=>by rw[d2] at q;cases q⟩
 keep:=fun i h h' st kk=>by
  obtain⟨u,v,hO⟩:=st.out;exact⟨kk z (by simp) _ st.zip,kk TI (by simp) _ st.its,⟨u,v,kk TO (by simp) _ hO⟩,(let ⟨o,e,r⟩:=st.it1;⟨o,kk i1 (by simp) o e,r⟩),st.it2.at fun o e=>kk i2 (by simp) o e⟩
 item:=by
  intro X hP hw hK hc i aU s σ H E I hf st hg;subst hP hw hK;obtain⟨ys,cc,y,hq2,hx,hy⟩:=hg;obtain⟨its2,rv2,p2,hz2⟩:=I.tuple hq2;obtain⟨u2,hu2,ru2⟩:=rv2.get hy;have hx':x0.cps[i]?=some cc:=by rw[← xby];exact hx
  refine zkd (I.ok.hd hc) R st (show s.heap.IsTuple b its2.toArray from p2) (fun v1 v2 e1 e2 g Z hT hsz kp=>?_) fun e=>?_
  ·have f1:v1=cc:=by rw[hx'] at e1;exact(xck e1).symm
   have f2:v2=u2:=by rw[xed,hu2] at e2;exact(xck e2).symm
   subst f1 f2;refine⟨_,rfl,wpAny_letOwnedTupleGo_zip Z.zip fun g2 hz' e'=>?_⟩;have low:∀c∈[z,TI,TO,i1,i2],c < s.heap.objs.size:=fun c hc'=>by
    obtain⟨uu,vv,hO⟩:=st.out;obtain⟨o1,e1,_⟩:=st.it1;obtain⟨o2,e2,_⟩:=st.it2;have hc'':c=z\/c=TI\/c=TO\/c=i1\/c=i2:=by simpa using hc'
    rcases hc'' with rfl | rfl | rfl | rfl | rfl
    ·exact xbl st.zip
    ·exact xbl st.its
    ·exact xbl hO
    ·exact xbl e1
    ·exact xbl e2
   have hzl:=low z (by simp);have I1:Inv X aU σ (upd H s.heap.objs.size (.tup [.str ⟨#[v1]⟩, y])) { s with heap:=s.heap.push { cls:=.type "tuple", data:=.seq #[.str ⟨#[v1]⟩ s.toks, v2] }, toks:=s.toks + 1 } :=
    I.laid (fun _ _ q=>xbb _ q) (xbf _) ⟨by simp;decide,[.str ⟨#[v1]⟩ s.toks,v2],.cons ⟨_,rfl⟩ (.cons ru2 .nil),⟨_,xbm _ rfl,rfl,_,rfl⟩⟩
   have hf2:∀c∈[z,TI,TO,i1,i2],FpOk X aU (upd H s.heap.objs.size (.tup [.str ⟨#[v1]⟩,y])) c:=fun c hc'=>by
    obtain⟨f0,fr⟩:=hf c hc';exact⟨by rw[zr (xcj (low c hc'))];exact f0,fr⟩
   have I2:Inv X aU σ (upd H s.heap.objs.size (.tup [.str ⟨#[v1]⟩,y])) {s with heap:=g2,toks:=s.toks+1}:=by
    refine Inv.turnedL (s:={ s with heap:=s.heap.push { cls:=.type "tuple", data:=.seq #[.str ⟨#[v1]⟩ s.toks, v2] }, toks:=s.toks + 1 }) (h':=g2) (t':=s.toks + 1) (ch:=[z, TI, TO, i1, i2]) I1 (fun c o hc' q=>?_) hf2
    have q':(s.heap.push { cls:=.type "tuple", data:=.seq #[.str ⟨#[v1]⟩ s.toks, v2] }).get? c=some o:=q
    have cz:c≠z:=fun e=>hc' (by simp[e])
    rcases Heap.get?_push_cases q' with⟨e1,e2⟩ | e1
    ·rw[e1,e2];exact e'.extBut _ _ (xfm hzl) hT
    ·exact e'.extBut _ _ cz (kp c o (fun m=>hc' (by simp at m ⊢;rcases m with m | m | m | m<;>simp[m])) e1)
   obtain⟨d1,d2,d3,d4,_⟩:=zke z TI TO i1 i2 0 R.nd;obtain⟨uu,vv,hO⟩:=Z.out;refine⟨.ref s.heap.objs.size,_,I2,rfl,⟨s.heap.objs.size,I.fresh,rfl,fun bs c' y' hb ex ey=>?_⟩,⟨hz',e'.extBut _ _ (xci d1) Z.its,⟨uu,vv,e'.extBut _ _ (xci d2) hO⟩,(let ⟨o,e,r⟩:=Z.it1;⟨o,e'.extBut _ _ (xci d3) e,r⟩),Z.it2.extBut e'.extBut (xci d4)⟩,fun c hc'=>(hf2 c hc').1⟩;rw[hx] at ex;rw[I.tuple_inj hb hq2,hy] at ey;cases ex;cases ey
   rfl
  ·rcases e with e | e
   ·rw[hx'] at e;cases e
   ·rw[xed,hu2] at e;cases e
 done:=by
  intro X hP hw hK hc i aU s σ H E I hf st hg;subst hP hw hK;obtain⟨ys,hq2,hl⟩:=hg;obtain⟨its2,rv2,p2,hz2⟩:=I.tuple hq2;have l2:=rv2.length;refine zkd (I.ok.hd hc) R st (show s.heap.IsTuple b its2.toArray from p2) (fun v1 v2 e1 e2 g Z hT hsz kp=>?_) fun _ g kk kp=>⟨rfl,I.turnedL (t':=kk) (ch:=[z,TI,TO,i1,i2]) (fun c o hc' e=>kp c o (fun m=>hc' (by simp at m ⊢;rcases m with m | m | m | m<;>simp[m])) e) hf⟩
  rw[← xby] at e1;rw[xed] at e2;have g1:=(xbk.mp e1).1;have g2:=(xbk.mp e2).1;lia
 self:=fun A i s Q E st h=>xiw st.zip h
section
variable {prog:Program}{w:World}{A:Around}{E:Value->Shared->Prop}{s:Shared}
noncomputable abbrev strIt (x0:Str) (tk:Tok):Obj:={ cls:=.type "str_ascii_iterator", data:=.fields #[.str x0 tk, .int 0 0] }
noncomputable abbrev lay1S (h:Heap) (x0:Str) (tk:Tok):Heap:=h.push (strIt x0 tk)
noncomputable abbrev lay2S (h:Heap) (x0:Str) (tk:Tok) (l2:Addr):Heap:=(lay1S h x0 tk).push (tupIt l2)
noncomputable abbrev lay3S (h:Heap) (x0:Str) (tk:Tok) (l2:Addr):Heap:=(lay2S h x0 tk l2).push (two (.ref h.objs.size) (.ref (lay1S h x0 tk).objs.size))
noncomputable abbrev lay4S (h:Heap) (x0:Str) (tk:Tok) (l2:Addr):Heap:=(lay3S h x0 tk l2).push (two .none .none)
noncomputable abbrev lay5S (h:Heap) (x0:Str) (tk:Tok) (l2:Addr):Heap:=(lay4S h x0 tk l2).push (zipOb (lay2S h x0 tk l2).objs.size (lay3S h x0 tk l2).objs.size)
theorem ztr (x0:Str)(tk:Tok)(l2:Addr)(ys:Array Value) :
  Meets (Builtin.«zip.__new__» ⟨[.type "zip", .str x0 tk, .ref l2],[]⟩) (fun _ R s=>(x0.cps.all (· < 128))=true/\s.heap.IsTuple l2 ys/\R (.ok (.ret (.ref (lay4S s.heap x0 tk l2).objs.size))) { s with heap:=lay5S s.heap x0 tk l2 }) :=
 .of_wp fun prog w A R s h=>by
  obtain⟨hp,g,d,tkk,os⟩:=s;obtain⟨k1,k2,h⟩:=h;have sub:=sub_zip;have k2':Heap.IsTuple (Shared.heap ⟨hp.push (strIt x0 tk),g,d,tkk,os⟩) l2 ys:=k2.push _
  wp_walk using wpAny_pyIter_ascii k1,xgf k2'
  exact⟨_,rfl,h⟩
theorem zrz {x0:Str}{tk:Tok}{l2:Addr}{ys:Array Value}{Q:Value->Shared->Prop}(k1:(x0.cps.all (· < 128))=true)(k2:s.heap.IsTuple l2 ys)
  (h:∀g z TI TO i1 i2,ZRec z TI TO i1 i2 l2 l2->ZAtS g z TI TO i1 i2 x0 tk l2 .none 0->(∀c∈[z,TI,TO,i1,i2],s.heap.objs.size<=c) ->
   (∀ c o, s.heap.get? c=some o->g.get? c=some o)->Q (.ref z) { s with heap:=g }):wpAny (model prog w) A (call (.type "zip") [.str x0 tk, .ref l2]) Q E s:=by
 have lt2:l2 < s.heap.objs.size:=by obtain⟨_,e,_⟩:=k2;exact xbl e
 refine callType_new F.called_zip (by decide) (F.typeCall_zip_2 _ _) (F.newCall_zip_2 _ _) (fun obj=>xke obj _ _) F.entry_zip_new (ztr x0 tk l2 ys) ⟨k1,k2,?_⟩;have z1:(lay1S s.heap x0 tk).objs.size=s.heap.objs.size+1:=xem ..
 have z2:(lay2S s.heap x0 tk l2).objs.size=s.heap.objs.size+2:=(xem ..).trans (by rw[z1]);have z3:(lay3S s.heap x0 tk l2).objs.size=s.heap.objs.size+3:=(xem ..).trans (by rw[z2]);have z4:(lay4S s.heap x0 tk l2).objs.size=s.heap.objs.size+4:=(xem ..).trans (by rw[z3]);have g5:(lay5S s.heap x0 tk l2).get? (lay4S s.heap x0 tk l2).objs.size=some _:=xbm _ rfl;have g4:(lay5S s.heap x0 tk l2).get? (lay3S s.heap x0 tk l2).objs.size=some _:=xbb _ (xbm _ rfl);have g3:(lay5S s.heap x0 tk l2).get? (lay2S s.heap x0 tk l2).objs.size=some _:=xbb _ (xbb _ (xbm _ rfl));have g2:(lay5S s.heap x0 tk l2).get? (lay1S s.heap x0 tk).objs.size=some _:=xbb _ (xbb _ (xbb _ (xbm _ rfl)));have g1:(lay5S s.heap x0 tk l2).get? s.heap.objs.size=some _:=xbb _ (xbb _ (xbb _ (xbb _ (xbm _ rfl))));have fin:=h (lay5S s.heap x0 tk l2) (lay4S s.heap x0 tk l2).objs.size (lay2S s.heap x0 tk l2).objs.size (lay3S s.heap x0 tk l2).objs.size s.heap.objs.size (lay1S s.heap x0 tk).objs.size
  (by rw[z4,z3,z2,z1];exact(zgw lt2 lt2).1) ⟨g5,g3,⟨_,_,g4⟩,⟨_,g1,rfl,rfl⟩,⟨_,g2,rfl,rfl⟩⟩
  (by rw[z4,z3,z2,z1];exact(zgw lt2 lt2).2) fun c o e=>xbb _ (xbb _ (xbb _ (xbb _ (xbb _ e))))
 exact⟨⟨_,g5,rfl⟩,fin⟩
end
section
variable {X:Cx}
noncomputable def iZipS (K:Fg) (ta:TA):TI:=fun σ H R=>ta σ H fun vs H1=>∃x0 b,vs=[.str x0,.ref b]/\(x0.cps.all (· < 128))=true/\(∃xs,SqT K H1 b xs)/\R (ItzS K x0 b) H1
theorem zya {elts:List Expr}{k:Nat}{tpos p pos:Pos}{a b:Expr}{ta:TA}(hg:Gl X "zip")(hm:X.mg "zip"=none)(ha:PA X [a, b] ta)
  (hs:starEach [a,b] X.env=[(false,eval a X.env),(false,eval b X.env)]:=by rfl)(hs2:starEach [b] X.env=[(false,eval b X.env)]:=by rfl) :
  PI X (.Tuple elts k tpos) (.Call (.Name "zip" p) [a, b] [] pos) (iZipS X.K ta):=by
 intro aU s σ H R I h;refine Call_ (zmm I hg hm PyProof.Rows.boot_zip (xgc (thn (ha pos aU s σ H _ I h) fun us s1 ⟨vs,H1,I1,r1,q1⟩=>?_) (by rw[hs,hs2]) (by rw[hs2];rfl)));obtain⟨x0,b,e,hx,⟨ys,hy⟩,q⟩:=q1;subst e;obtain⟨u1,u2,rfl,e1,e2⟩:=vals2 r1;obtain⟨tk,rfl⟩:=e1;cases e2;obtain⟨its2,rv2,p2,hz2⟩:=I1.tuple hy;refine zrz hx (show s1.heap.IsTuple b its2.toArray from p2) fun g z TI TO i1 i2 R Z low kp=>?_
 refine xiw Z.zip ?_;exact⟨z,[z,TI,TO,i1,i2],_,_,H1,rfl,I1.kept (t':=s1.toks) kp,zqe R,Z,fun c hc=>I1.fpOk (low c hc) (I1.hok.fresh (low c hc)),q⟩
end
theorem zqy {X:Cx}:MtR X "str.startswith" (fun x vs H Q=>∃ a b:Str, x=.str a/\vs=[.str b]/\Q (.bl (Txt.startswith a b)) H):=by
 intro aU s σ H x vs v us Q I rx rv h;obtain⟨a,b,rfl,rfl,q⟩:=h;obtain⟨t,rfl⟩:=rx;obtain⟨w,rfl,rw'⟩:=rv.one;obtain⟨u,rfl⟩:=rw';exact SC.startswith ⟨.bl _,H,I,rfl,q⟩
theorem zsm {v:Value}{o:Option Int}(h:IsPart v o):∃l:Option (Int×Tok),v=partValue l/\l.map (·.1)=o:=by
 cases h with
 | none=>exact⟨none,rfl,rfl⟩
 | int i t=>exact⟨some (i,t),rfl,rfl⟩
theorem zbcl {X:Cx}:SlR X (fun x lo hi H Q=>∃z:Str,x=.str z/\z.length<=sizeLine/\(StrLaws.sliceText z lo hi).length<=sizeLine/\Q (.str (StrLaws.sliceText z lo hi)) H):=by
 intro aU s σ H x v vl vu lo hi sl Q I rx hs pl pu h;obtain⟨z,rfl,hz,hz2,q⟩:=h;obtain⟨t,rfl⟩:=rx;obtain⟨l,rfl,rfl⟩:=zsm pl;obtain⟨u,rfl,rfl⟩:=zsm pu;refine⟨"str", _, F.slot_str_getitem.lookup, xia s z t, wpAny_getItem_str_slice (l:=l) (u:=u) (st:=none) hs rfl ?_⟩
 unfold sliceMade;unfold StrLaws.sliceText at q hz2;have e:slicePicked z l u none=Builtin.Str.strSliceIndices (l.map (·.1)) (u.map (·.1)) 1 z.length:=rfl;rw[e];split
 ·rename_i hc;have hc':((1:Int)==1&&(Builtin.Str.strSliceIndices (l.map (·.1)) (u.map (·.1)) 1 z.length).length==z.length)=true:=hc;rw[if_pos hc'] at q;exact⟨.str z,H,I,⟨t,rfl⟩,q⟩
 ·rename_i hc;have hc':¬ ((1:Int)==1&&(Builtin.Str.strSliceIndices (l.map (·.1)) (u.map (·.1)) 1 z.length).length==z.length)=true:=hc;rw[if_neg hc'] at q hz2;exact⟨hz2,⟨.str _,H,I.tok _,⟨_,rfl⟩,q⟩⟩
theorem zuo {X:Cx}{v1 v2:Expr}{t1 t2:TE}{q1 q2 pos:Pos}(h1:PE X v1 t1)(h2:PE X v2 t2):PE X (.JoinedStr [.FormattedValue v1 (-1) none q1,.FormattedValue v2 (-1) none q2] pos)
  (fun σ H Q=>t1 σ H fun x H1=>∃z:Str,x=.str z/\z.length<=1000/\t2 σ H1 fun y H2=>∃i:Int,y=.int i/\0<=i/\i<=1000/\Q (.str (Str.empty++z++toString i)) H2):=by
 intro aU s σ H Q I h;have ap:∀x y:Str,(x++y).length=x.length+y.length:=strLen_append
 have z0:(Str.empty).length=0:=rfl;refine JoinedStr_many (joinParts_cons (FormattedValue_plain (thn (h1 aU _ σ H _ I h) fun u s1 hq0=>?_)));obtain⟨x,H1,I1,rx,z,ex,hz,q⟩:=hq0;subst ex;obtain⟨tk,rfl⟩:∃tk,u=Value.str z tk:=rx
 refine formatField_str (fun t' k=>⟨by rw[ap,z0,xet];lia,joinParts_cons (FormattedValue_plain (thn (h2 aU _ σ H1 _ (I1.tok k) q) fun u s2 ⟨y,H2,I2,ry,i,ey,i0,i1,q⟩=>?_))⟩) (by rw[xet];lia);subst ey;obtain⟨tk2,rfl⟩:∃tk,u=Value.int i tk:=ry
 have len:=len_str_of_int i;have hi:i.natAbs<=1000:=by lia
 have e:(toString i:Str).length=(Str.ofString (toString i)).length:=rfl;refine formatField_int_small (xcp (Nat.log2_le_self _) (by lia)) ⟨?_,joinParts_nil ⟨.str (Str.empty++z++toString i),H2,(I2.tok _).tok _,⟨_,rfl⟩,q⟩ ?_⟩
 ·rw[ap,ap,z0,xet,e];lia
 ·rw[ap,ap,z0,xet,e];lia
end L2
namespace Dd
open PySem L2 PyProof.Rows
section
variable {X:Cx}{o a b e:Expr}{es:List Expr}{f f':SE}{ga g:SA}{apos cpos pos p2 q1 q2:Pos}{lo hi:Option Expr}{l h:DS->Store->Res (Option Int)}
noncomputable def eStarts (f:SE) (g:SA):SE:=fun σ st=>(f σ st).bind fun x st1=>match x with
 | .str a=>(g σ st1).bind fun ys st2=>match ys with
  | [.str b]=>.ok (.bl (Txt.startswith a b)) st2
  | _=>.stuck
 | _=>.stuck
theorem zrq (ho:JE X o f)(ha:JA X (e::es) ga)(hbase:attributeBase o "startswith" X.env (eval o X.env)=eval o X.env:=by rfl)
  (hfew:((backTo cpos (starEach (e::es) X.env)).all (fun x=>!x.1)&&(backToKw cpos (keywordEach [] X.env)).all (fun x=>x.1.isSome)
   && decide ((e::es).length+([]:List Keyword).length+(if([]:List Keyword).isEmpty then 0 else 1) < 30))=true:=by rfl)
  (hline:(apos.endLine==cpos.line)=true:=by rfl)(hs:starEach (e::es) X.env=(false,eval e X.env)::starEach es X.env:=by rfl)(hplain:(backTo cpos (starEach es X.env)).any (·.1)=false:=by rfl) :
  JE X (.Call (.Attribute o "startswith" apos) (e::es) [] cpos) (eStarts f ga):=⟨zef (zbbv xim F.slot_str_startswith F.type_str_startswith zqy ho.out ha.out hbase hfew hline hs hplain) fun τ H Q hq0=>by
 obtain⟨ρ,σ,st,v,st',a,rp,e,q⟩:=hq0;obtain⟨x,st1,e1,e⟩:=za e;refine⟨ρ,σ,st,x,st1,a,rp,e1,fun ρ1 H1 u x1 rp1 a1=>?_⟩;split at e
 ·rename_i s;obtain⟨ys,st2,e2,e⟩:=za e;cases a1;refine⟨rfl,ρ1,σ,st1,ys,st2,a.ext x1,rp1,e2,fun ρ2 H2 ws x2 rp2 a2=>?_⟩;split at e
  ·rename_i b;cases e;obtain⟨w,rfl,a3⟩:=a2.one;cases a3;exact⟨s,b,rfl,rfl,q _ _ _ (x1.trans x2) rp2 (.bl _)⟩
  ·cases e
 ·cases e⟩
noncomputable def eSlS (f:SE) (lo hi:DS->Store->Res (Option Int)):SE:=fun σ st=>(f σ st).bind fun x st1=>(lo σ st1).bind fun l st2=>(hi σ st2).bind fun h st3=>match x with
 | .str z=>if z.length<=sizeLine/\(StrLaws.sliceText z l h).length<=sizeLine then .ok (.str (StrLaws.sliceText z l h)) st3 else .stuck
 | _=>.stuck
theorem zwa (he:JE X e f)(hl:JO X lo l)(hu:JO X hi h):JE X (.Subscript e (.Slice lo hi none p2) pos) (eSlS f l h):=⟨zef (znr zbcl he.out hl.out hu.out) fun τ H Q hq0=>by
 obtain⟨ρ,σ,st,v,st',a,rp,e,q⟩:=hq0;obtain⟨x,st1,e1,e⟩:=za e;obtain⟨y,st2,e2,e⟩:=za e;obtain⟨z,st3,e3,e⟩:=za e;refine⟨ρ,σ,st,x,st1,a,rp,e1,fun ρ1 H1 u x1 rp1 a1=>?_⟩;refine⟨ρ1,σ,st1,y,st2,a.ext x1,rp1,e2,fun ρ2 H2 x2 rp2=>?_⟩;refine⟨ρ2,σ,st2,z,st3,a.ext (x1.trans x2),rp2,e3,fun ρ3 H3 x3 rp3=>?_⟩;split at e
 ·split at e
  ·rename_i hz;cases e;cases a1;exact⟨_,rfl,hz.1,hz.2,q _ _ _ (x1.trans (x2.trans x3)) rp3 (.str _)⟩
  ·cases e
 ·cases e⟩
noncomputable def oIxS (x y:D) (st:Store):Res D:=match x,y with
 | .str z,.int i=>if 0<=i/\i < 2 ^ 63/\i < z.length then(match z.cps[i.toNat]? with
  | some c=>.ok (.str ⟨#[c]⟩) st
  | none=>.stuck) else .stuck
 | _,_=>.stuck
theorem zbdw {K:Fg}:OpD K oIxS (fun x y H Q=>∃z i c,x=.str z/\y=.int i/\0<=i/\i < 2 ^ 63/\i < z.length/\z.cps[i.toNat]?=some c/\Q (.str ⟨#[c]⟩) H):=fun ρ H st x y u v z st' Q rp a b e q=>by
 unfold oIxS at e;split at e
 ·split at e
  ·rename_i hz;split at e
   ·rename_i c hc;cases a;cases b;cases e
    exact⟨_,_,c,rfl,rfl,hz.1,hz.2.1,hz.2.2,hc,q _ _ _ (.refl _ _) rp (.str _)⟩
   ·cases e
  ·cases e
 ·cases e
theorem zbfy (ha:JE X a f)(hb:JE X b f')(hs:PlainIxT b):JE X (.Subscript a b pos) (aR oIxS f f'):=⟨zef (zlz ha.out hb.out hs) (zyn zbdw)⟩
noncomputable def oFs (x y:D) (st:Store):Res D:=match x,y with
 | .str z,.int i=>if z.length<=1000/\0<=i/\i<=1000 then .ok (.str (Str.empty++z++toString i)) st else .stuck
 | _,_=>.stuck
theorem zbas (ha:JE X a f)(hb:JE X b f'):JE X (.JoinedStr [.FormattedValue a (-1) none q1,.FormattedValue b (-1) none q2] pos) (aR oFs f f'):=⟨zef (zuo ha.out hb.out) fun τ H Q hq0=>by
 obtain⟨ρ,σ,st,v,st',a,rp,e,q⟩:=hq0;obtain⟨x,st1,e1,e⟩:=za e;obtain⟨y,st2,e2,e⟩:=za e;refine⟨ρ,σ,st,x,st1,a,rp,e1,fun ρ1 H1 u x1 rp1 a1=>?_⟩;unfold oFs at e;split at e
 ·split at e
  ·rename_i hz;cases e;cases a1;refine⟨_,rfl,hz.1,ρ1,σ,st1,_,_,a.ext x1,rp1,e2,fun ρ2 H2 w x2 rp2 a2=>?_⟩;cases a2;exact⟨_,rfl,hz.2.1,hz.2.2,q _ _ _ (x1.trans x2) rp2 (.str _)⟩
  ·cases e
 ·cases e⟩
noncomputable def eTruS (f:SE):ST:=fun σ st=>(f σ st).bind fun v st1=>match v with
 | .str z=>if z.length<=sizeLine then .ok ((z.length:Int) != 0) st1 else .stuck
 | _=>.stuck
theorem zoq (h:JE X a f)(he:∀whole,isTrue a X.env whole=(do let v ← whole;standAt a.pos;holding [v] (truthy v)):=by intro _;rfl):JT X a (eTruS f):=⟨zxo (znm h.out he) fun τ H Q hq0=>by
 obtain⟨ρ,σ,st,v,st',at',rp,e,q⟩:=hq0;obtain⟨x,st1,e1,e⟩:=za e;refine⟨ρ,σ,st,x,st1,at',rp,e1,fun ρ1 H1 u x1 rp1 a1=>?_⟩;split at e
 ·split at e
  ·rename_i hz;cases e;cases a1;exact⟨_,⟨hz,rfl⟩,q _ _ x1 rp1⟩
  ·cases e
 ·cases e⟩
noncomputable def iZipX (g:SA):SA:=fun σ st=>(g σ st).bind fun xs st1=>match xs with
 | [.str z,.tup b]=>if(z.cps.all (· < 128))=true then .ok (pairsF (signs z) b) st1 else .stuck
 | _=>.stuck
theorem zvv {elts:List Expr}{k:Nat}{tpos p:Pos}(hg:Gl X "zip")(hm:X.mg "zip"=none)(ha:JA X [a, b] g)(hs:starEach [a, b] X.env=[(false, eval a X.env),(false, eval b X.env)]:=by rfl)(hs2:starEach [b] X.env=[(false, eval b X.env)]:=by rfl) :
  JI X (.Tuple elts k tpos) (.Call (.Name "zip" p) [a, b] [] pos) (iZipX g):=⟨zwr (zya hg hm ha.out hs hs2) fun τ H R hq0=>by
 obtain⟨ρ,σ,st,xs,st',a,rp,e,q⟩:=hq0;obtain⟨x,st1,e1,e⟩:=za e;refine⟨ρ,σ,st,x,st1,a,rp,e1,fun ρ1 H1 u x1 rp1 a1=>?_⟩;split at e
 ·rename_i z bs;split at e
  ·rename_i hz;cases e;obtain⟨u1,u2,rfl,b1,b2⟩:=a1.two;cases b1;cases b2 with
   | tup k1 k2 k3 =>
    refine⟨z,_,rfl,hz,⟨_,SqT.of k1⟩,q _ _ _ x1 rp1 ⟨fun ρ2 H2 x2 i d e=>?_,fun ρ2 H2 x2 i h=>?_⟩⟩
    ·obtain⟨x',y',ex,ey,rfl⟩:=zfi e;unfold signs at ex;rw[xcm,xch] at ex;obtain⟨c,hc,rfl⟩:=ex;obtain⟨v2,hv2,av2⟩:=k3.get ey;refine⟨⟨_,c,v2,SqT.of (x2.out k1 k2).1,hc,hv2⟩,fun y H3 hy=>?_⟩;obtain⟨p,hp,rfl,hH⟩:=hy;rw[hH _ _ _ (SqT.of (x2.out k1 k2).1) hc hv2];exact⟨Ext.new hp _,fun st rp2=>⟨rp2.new hp _,At.newT rp2 hp (.cons (.str _) (.cons (av2.extG x2) .nil))⟩⟩
    ·rw[zcg] at h;unfold signs at h;rw[xbd] at h;exact⟨_,SqT.of (x2.out k1 k2).1,by rw[k3.length];lia⟩
  ·cases e
 ·cases e⟩
end
end Dd
namespace Dd
open PySem L2
noncomputable def zed:DFn:=fnD 5 2 (aD (aF 2 (eC (.int 0)))
 (aD (sIf (eB (aR oLtT (aA 1) (aE bLen (aB (aA 0) aC)))) (aF 2 (aE bAbs (aB (aR oIx (aA 0) (aA 1)) aC))) sNx)
 (aD (aF 3 (aR aM (aR oMulI (eC (.int 7919)) (aA 1)) (eC (.int 17))))
 (aD (sFor (iR1 (aB (aE bMin2 (aB (aE bLen (aB (aA 0) aC)) (aB (eC (.int 60)) aC))) aC)) (gN 4) (aF 3 (aR oMod (aR aM (aR aM (aR oMulI (aA 3) (eC (.int 48271))) (aR oMod (aR oIx (aA 0) (aA 4)) (eC (.int 2147483647)))) (aA 4)) (eC (.int 2147483629)))))
 (aD (sIf (eB (aR oLtT (aA 2) (aR oPow (eC (.int 10)) (eC (.int 18))))) (aF 2 (eC (.int 0))) sNx)
 (sRet (eLstM (aB (aA 2) (aB (aA 3) aC)))))))))
noncomputable def zbb:DFn:=fnD 3 1 (aD (aF 1 eDNew)
 (aD (sFor (aH (aA 0)) (gN 2) (sDPut (aA 1) (aA 2) (aR aM (eDGet2 (aA 1) (aA 2) (eC (.int 0))) (eC (.int 1)))))
 (sRet (aE bTuple (aB (aE bSorted (aB (aG (iDict (aA 1)) 1 [1] (gN 0) (eB (aR oEq (aR oMod (aR oDGet (aA 1) (aA 0)) (eC (.int 2))) (eC (.int 1)))) (aA 0)) aC)) aC)))))
noncomputable def zc:DFn:=fnD 5 2 (aD (sIf (eB (aR oGt (aR oIx (aA 0) (eC (.int 0))) (eC (.int 0)))) (aD (aF 2 (aR oMod (aR oIx (aA 0) (eC (.int 0))) (aA 1)))
 (aD (sSetIx (aA 0) (eC (.int 0)) (aR oFdiv (aR oIx (aA 0) (eC (.int 0))) (aA 1)))
 (sRet (aA 2)))) sNx)
 (aD (aF 3 (eC (.int 0)))
 (aD (aF 4 (eC (.int 1)))
 (aD (sWhile (eB (aR oLtT (aA 4) (aA 1))) (aD (sSetIx (aA 0) (eC (.int 1)) (aR oMod (aR aM (aR oMulI (aR oIx (aA 0) (eC (.int 1))) (eC (.int 48271))) (eC (.int 7919))) (eC (.int 2147483647))))
 (aD (aF 3 (aR aM (aR oMulI (aA 3) (eC (.int 1073741789))) (aR oMod (aR oMulI (aR oFdiv (aR oIx (aA 0) (eC (.int 1))) (eC (.int 8))) (eC (.int 69621))) (eC (.int 1073741789)))))
 (aF 4 (aR oMulI (aA 4) (eC (.int 1073741789)))))))
 (sRet (aR oMod (aA 3) (aA 1)))))))
noncomputable def zee:DFn:=fnD 1 1 (sRet (eAnd (aE bIsinst (aB (aA 0) (aB (eC (.ty "int")) aC))) (eNot (aE bIsinst (aB (aA 0) (aB (eC (.ty "bool")) aC))))))
noncomputable def zdh:DFn:=fnD 1 1 (sRet (aE (bAny true) (aB (aG (iZipT (aB (aA 0) (aB (eSl (aA 0) (pSome (eC (.int 1))) pNone) aC))) 2 [] (gT 2 (gsCons (gN 0) (gsCons (gN 1) gsNil))) aI (aR oLtT (aA 0) (aA 1))) aC)))
noncomputable def zbx:SS:=(aD (aF 7 (aE zc (aB (aA 0) (aB (aR aM (aA 3) (eC (.int 1))) aC))))
 (aD (sSetIx (aA 5) (aR oMod (aR aM (aA 4) (aA 6)) (aA 1)) (aA 7))
 (aF 3 (aR oSub (aA 3) (aA 7)))))
noncomputable def zg:DFn:=fnD 8 3 (aD (aF 3 (aE zc (aB (aA 0) (aB (aR aM (aA 2) (eC (.int 1))) aC))))
 (aD (aF 4 (aE zc (aB (aA 0) (aB (aA 1) aC))))
 (aD (aF 5 (eCompM (iR1 (aB (aA 1) aC)) 1 [] (gN 0) aI (eC (.int 0))))
 (aD (sFor (iR1 (aB (aR oSub (aA 1) (eC (.int 1))) aC)) (gN 6) zbx)
 (aD (sSetIx (aA 5) (aR oMod (aR oSub (aR aM (aA 4) (aA 1)) (eC (.int 1))) (aA 1)) (aA 3))
 (sRet (aE bTuple (aB (aA 5) aC))))))))
noncomputable def zbv:DFn:=fnD 6 2 (aD (aF 2 (aR oIx (eLst (aB (eC (.int 24)) (aB (eC (.int 10)) aC))) (aE bInt (aB (aR oGt (aA 1) (eC (.int 3))) aC))))
 (aD (aF 3 (aE zc (aB (aA 0) (aB (eC (.int 7)) aC))))
 (aD (sIf (eB (aR oEq (aE zc (aB (aA 0) (aB (eC (.int 8)) aC))) (eC (.int 3)))) (aF 3 (aE zc (aB (aA 0) (aB (aR oIx (eLst (aB (eC (.int 41)) (aB (eC (.int 9)) aC))) (aE bInt (aB (aR oGt (aA 1) (eC (.int 3))) aC))) aC)))) sNx)
 (aD (aF 4 (aG (iR1 (aB (aA 3) aC)) 1 [0,1,2] (gN 0) aI (aE zg (aB (aA 1) (aB (aA 2) (aB (aA 3) aC))))))
 (aD (sIf (bAnd (eB (aR oEq (aE zc (aB (aA 0) (aB (eC (.int 2)) aC))) (eC (.int 1)))) (eB (aR oGt (aA 3) (eC (.int 0))))) (aD (aF 5 (aE (bBest true) (aB (aG (aH (aA 4)) 1 [] (gN 0) aI (aE bSum (aB (aA 0) aC))) aC)))
 (aF 4 (aG (aH (aA 4)) 1 [5] (gN 0) aI (aR aM (eSl (aA 0) pNone (pSome (eUn oNeg (eC (.int 1))))) (aQ (aB (aR oSub (aR aM (aR oIx (aA 0) (eUn oNeg (eC (.int 1)))) (aA 1)) (aE bSum (aB (aA 0) aC))) aC)))))) sNx)
 (sRet (aE zbb (aB (aA 4) aC))))))))
noncomputable def zcv:DFn:=fnD 2 2 (aD (sIf (bOr (bNot (eTru (aE bIsinst (aB (aA 1) (aB (eC (.ty "tuple")) aC))))) (eB (aR oNe (aE bLen (aB (aA 1) aC)) (aA 0)))) (sRet (eC (.bl false))) sNx)
 (sRet (aE (bAny true) (aB (aG (aH (aA 1)) 1 [] (gN 0) aI (eAnd (aE zee (aB (aA 0) aC)) (aR oGe (aA 0) (eC (.int 0))))) aC))))
noncomputable def zhq:DFn:=fnD 2 2 (aD (sIf (bNot (eTru (aE bIsinst (aB (aA 1) (aB (eC (.ty "tuple")) aC))))) (sRet (eC (.bl false))) sNx)
 (sRet (eAnd (aE (bAny true) (aB (aG (aH (aA 1)) 1 [0] (gN 0) aI (aE zcv (aB (aA 1) (aB (aA 0) aC)))) aC)) (aE zdh (aB (aA 1) aC)))))
noncomputable def zbt:SS:=(aD (sIf (eB (aR (oInS true) (aA 2) (eC (.str "0123456789")))) sBrk sNx)
 (sAug 1 oAddS (aA 2)))
noncomputable def zu:DFn:=fnD 3 1 (aD (aF 1 (eC (.str "")))
 (aD (sFor (iTxt (aA 0)) (gN 2) zbt)
 (sRet (aA 1))))
noncomputable def zcj:DFn:=fnD 1 1 (aD (sIf (bOr (bNot (eB (eChain oLe oLe (eC (.int 1)) (aE bLenS (aB (aA 0) aC)) (eC (.int 2))))) (eB (aR oNe (aE zu (aB (aA 0) aC)) (aA 0)))) (sRet (eC .non)) sNx)
 (sRet (eIf (eB (aR oEq (aE bStrI (aB (aE bIntS (aB (aA 0) aC)) aC)) (aA 0))) (aE bIntS (aB (aA 0) aC)) (eC .non))))
noncomputable def zeb:DFn:=fnD 1 1 (sRet (eIf (eTru (aA 0)) (eJoin (eC (.str " + ")) (aB (aA 0) aC)) (eC (.str "0"))))
noncomputable def zea:DFn:=fnD 1 1 (aD (sIf (bNot (eTru (aE bIsinst (aB (aA 0) (aB (eC (.ty "str")) aC))))) sStuck sNx)
 (sRet (eIf (eB (aR oNe (aA 0) (eC (.str "0")))) (eSplit (aA 0) (aB (eC (.str " + ")) aC)) (eLst aC))))
noncomputable def zcf:SS:=(sIf (bOr (bNot (eTru (aE bIsinst (aB (aA 1) (aB (eC (.ty "tuple")) aC))))) (eB (aR oGt (aE bLen (aB (aG (aH (aA 1)) 1 [] (gN 0) (eTru (aE bIsinst (aB (aA 0) (aB (eC (.ty "bool")) aC)))) (aA 0)) aC)) (eC (.int 0))))) (sRet (eC (.bl false))) sNx)
noncomputable def zbm:DFn:=fnD 2 1 (aD (sFor (aH (aA 0)) (gN 1) zcf)
 (sRet (aE bIsinst (aB (aA 0) (aB (eC (.ty "tuple")) aC)))))
noncomputable def zbz:SS:=(sIf (eB (aR oGt (aR oIx (aA 0) (aA 2)) (eC (.int 0)))) (sDrop (eAppend (aA 1) (aB (aR aM (aR oIxS (eC (.str "abcdefghij")) (aA 2)) (eIf (eB (aR oGt (aR oIx (aA 0) (aA 2)) (eC (.int 1)))) (aE bStrI (aB (aR oIx (aA 0) (aA 2)) aC)) (eC (.str "")))) aC))) sNx)
noncomputable def zbk:DFn:=fnD 3 1 (aD (aF 1 (eLstM aC))
 (aD (sFor (iR1 (aB (aE bLen (aB (aA 0) aC)) aC)) (gN 2) zbz)
 (sRet (eIf (eB (aR oGt (aE bLen (aB (aA 1) aC)) (eC (.int 0)))) (eJoin (eC (.str "")) (aB (eFz (aA 1)) aC)) (eC (.str "1"))))))
noncomputable def zq:DFn:=fnD 1 1 (sRet (eIf (eB (aR oGt (aE bLen (aB (aA 0) aC)) (eC (.int 0)))) (eJoin (eC (.str " + ")) (aB (aG (aH (aA 0)) 1 [] (gN 0) aI (aE zbk (aB (aA 0) aC))) aC)) (eC (.str "0"))))
noncomputable def zbu:DFn:=fnD 1 1 (sRet (eIf (eTruS (aA 0)) (aE zcj (aB (aA 0) aC)) (eC (.int 1))))
noncomputable def zcw:SS:=(aD (aF 4 (eC (.int 0)))
 (aD (sIf (eTru (eStarts (aA 1) (aB (aA 3) aC))) (aD (aF 5 (aE zu (aB (eSlS (aA 1) (pSome (eC (.int 1))) pNone) aC)))
 (aD (aF 1 (eSlS (aA 1) (pSome (aR aM (eC (.int 1)) (aE bLenS (aB (aA 5) aC)))) pNone))
 (aF 4 (aE zbu (aB (aA 5) aC))))) sNx)
 (sDrop (eAppend (aA 2) (aB (aA 4) aC)))))
noncomputable def zcd:DFn:=fnD 6 2 (aD (sIf (eB (aR oEq (aA 1) (eC (.str "1")))) (sRet (aR oMulT (aQ (aB (eC (.int 0)) aC)) (aA 0))) sNx)
 (aD (aF 2 (eLstM aC))
 (aD (sFor (iTxt (eSlS (eC (.str "abcdefghij")) pNone (pSome (aA 0)))) (gN 3) zcw)
 (sRet (eIf (eB (aR oEq (aA 1) (eC (.str "")))) (aE bTuple (aB (aA 2) aC)) (eC .non))))))
noncomputable def zci:DFn:=fnD 2 2 (aD (sIf (eB (aR oEq (aA 1) (eC (.int 0)))) (sRet (eC (.str ""))) sNx)
 (sRet (eIf (eB (aR oEq (aA 1) (eC (.int 1)))) (aA 0) (aR oFs (aA 0) (aA 1)))))
noncomputable def zcc:DFn:=fnD 2 1 (aD (aF 1 (eJoin (eC (.str "")) (aB (aG (iZipX (aB (eC (.str "abcdefghij")) (aB (aA 0) aC))) 2 [] (gT 2 (gsCons (gN 0) (gsCons (gN 1) gsNil))) aI (aE zci (aB (aA 0) (aB (aA 1) aC)))) aC)))
 (sRet (eIf (eTruS (aA 1)) (aA 1) (eC (.str "1")))))
noncomputable def zbw:DFn:=fnD 1 1 (sRet (aE zeb (aB (aG (aH (aA 0)) 1 [] (gN 0) aI (aE zcc (aB (aA 0) aC))) aC)))
noncomputable def zec:DFn:=fnD 3 2 (aD (aF 2 (aE bTuple (aB (aG (aH (aE zea (aB (aA 1) aC))) 1 [0] (gN 0) aI (aE zcd (aB (aA 1) (aB (aA 0) aC)))) aC)))
 (aD (sIf (bOr (bNot (eTru (aE zhq (aB (aA 0) (aB (aA 2) aC))))) (eB (aR oNe (aE zbw (aB (aA 2) aC)) (aA 1)))) sStuck sNx)
 (sRet (aA 2))))
noncomputable def zx:DFn:=fnD 2 2 (sRet (eAnd (aE bIsinst (aB (aA 0) (aB (eC (.ty "str")) aC))) (aR oEq (aA 0) (aA 1))))
noncomputable def zbc:DFn:=fnD 2 2 (sRet (aE bTuple (aB (aG (iR1 (aB (aA 1) aC)) 1 [0] (gN 0) aI (aE zc (aB (aA 1) (aB (aR oIx (eLst (aB (eC (.int 1000)) (aB (eC (.int 3)) aC))) (aE zc (aB (aA 1) (aB (eC (.int 2)) aC)))) aC)))) aC)))
noncomputable def zbn:DFn:=fnD 4 2 (aD (aF 2 (aE zc (aB (aA 0) (aB (aR oIx (eLst (aB (eC (.int 41)) (aB (eC (.int 9)) aC))) (aE bInt (aB (aR oGt (aA 1) (eC (.int 3))) aC))) aC))))
 (aD (aF 3 (aE zbb (aB (aG (iR1 (aB (aA 2) aC)) 1 [0,1] (gN 0) aI (aE zbc (aB (aA 1) (aB (aA 2) aC)))) aC)))
 (sRet (aE zx (aB (aE zbw (aB (aA 3) aC)) (aB (aE zq (aB (aA 3) aC)) aC))))))
noncomputable def zw:DFn:=fnD 2 2 (sRet (aE bTuple (aB (aG (iR1 (aB (aA 1) aC)) 1 [0] (gN 0) aI (aE zc (aB (aA 1) (aB (eC (.int 100)) aC)))) aC)))
noncomputable def zhp:SS:=(aF 4 (eSl (aA 4) (pSome (eC (.int 1))) pNone))
noncomputable def zpq:SS:=(aD (aF 2 (aE zed (aB (aA 0) (aB (aA 1) aC))))
 (aD (aF 3 (aR aM (eC (.int 1)) (aE zc (aB (aA 2) (aB (eC (.int 10)) aC)))))
 (aD (aF 4 (aE zbv (aB (aA 2) (aB (aA 3) aC))))
 (aD (aF 5 (aR oEq (aE zc (aB (aA 2) (aB (eC (.int 8)) aC))) (eC (.int 3))))
 (aD (sIf (eTru (aA 5)) (aD (aF 4 (aE zbb (aB (aG (iR1 (aB (aE zc (aB (aA 2) (aB (eC (.int 9)) aC))) aC)) 1 [2,3] (gN 0) aI (aE zw (aB (aA 1) (aB (aA 2) aC)))) aC)))
 (aD (sIf (eB (aR oEq (aE zc (aB (aA 2) (aB (eC (.int 2)) aC))) (eC (.int 1)))) (aF 4 (aE zbb (aB (aG (iR1 (aB (aE zc (aB (aA 2) (aB (eC (.int 61)) aC))) aC)) 1 [2,3] (gN 0) aI (aE zg (aB (aA 1) (aB (aA 2) (aB (eC (.int 20)) aC))))) aC))) sNx)
 (sWhile (eB (aR oGt (aE bLenS (aB (aE zq (aB (aA 4) aC)) aC)) (eC (.int 1500)))) zhp))) sNx)
 (aD (aF 6 (aE zq (aB (aA 4) aC)))
 (aD (sIf (bAnd (bNot (eTru (aA 5))) (bNot (eTru (aE zx (aB (aE zbw (aB (aA 4) aC)) (aB (aA 6) aC)))))) (sRet (eC (.bl false))) sNx)
 (aD (sIf (bNot (eTru (aE zbn (aB (aA 2) (aB (aA 3) aC))))) (sRet (eC (.bl false))) sNx)
 (aD (aF 7 (aE zec (aB (aA 3) (aB (aA 6) aC))))
 (sIf (bOr (eB (aR oNe (aA 7) (aA 4))) (bNot (eTru (aE zbm (aB (aA 7) aC))))) (sRet (eC (.bl false))) sNx))))))))))
noncomputable def zbgu:DFn:=fnD 8 1 (aD (sFor (iR1 (aB (aE bMax2 (aB (eC (.int 1)) (aB (aE bMin2 (aB (eC (.int 10)) (aB (aE bLen (aB (aA 0) aC)) aC))) aC))) aC)) (gN 1) zpq)
 (sRet (eC (.bl true))))
noncomputable def RngOk (j:Int):Prop:=-(2 ^ 62)<=j/\j < 2 ^ 62
noncomputable instance (j:Int):Decidable (RngOk j):=by unfold RngOk;infer_instance
theorem rngOk {j:Int}(h1:-1000000000000<=j)(h2:j<=1000000000000):RngOk j:=⟨by lia,by lia⟩
section
variable {σ:DS}{st:Store}
@[simp] theorem eC_v {d:D}:eC d σ st=.ok d st:=rfl
@[simp] theorem zbex {i:Nat}:aA i σ st=(match σ[i]? with
 | some (some d)=>.ok d st
 | _=>.stuck):=rfl
@[simp] theorem zbhh {g:D->D->Store->Res D} {f f':SE}:aR g f f' σ st=(f σ st).bind fun x st1=>(f' σ st1).bind fun y st2=>g x y st2:=rfl
@[simp] theorem zbjm {g:D->Store->Res D} {f:SE}:eUn g f σ st=(f σ st).bind fun x st1=>g x st1:=rfl
@[simp] theorem zsy {g:List D->Store->Res D} {f:SA}:aE g f σ st=(f σ st).bind fun xs st1=>g xs st1:=rfl
@[simp] theorem zbgs:aC σ st=.ok [] st:=rfl
@[simp] theorem zpp {f:SE} {g:SA}:aB f g σ st=(f σ st).bind fun x st1=>(g σ st1).bind fun xs st2=>.ok (x::xs) st2:=rfl
@[simp] theorem eB_v {f:SE}:eB f σ st=(f σ st).bind fun v st1=>(match v with
 | .bl b=>.ok b st1
 | _=>.stuck):=rfl
@[simp] theorem zbez {f:SE}:eTru f σ st=(f σ st).bind fun v st1=>(match tru st1 v with
 | some b=>.ok b st1
 | none=>.stuck):=rfl
@[simp] theorem zbfd {f f':SE}:eAnd f f' σ st=(f σ st).bind fun v st1=>(match v with
 | .bl true=>f' σ st1
 | .bl false=>.ok (.bl false) st1
 | _=>.stuck):=rfl
@[simp] theorem zbio {f f':SE}:eOr f f' σ st=(f σ st).bind fun v st1=>(match v with
 | .bl true=>.ok (.bl true) st1
 | .bl false=>f' σ st1
 | _=>.stuck):=rfl
@[simp] theorem zbfa {f:SE}:eNot f σ st=(f σ st).bind fun v st1=>(match v with
 | .bl b=>.ok (.bl (!b)) st1
 | _=>.stuck):=rfl
@[simp] theorem zbgn {f f':ST}:bAnd f f' σ st=(f σ st).bind fun b st1=>if b=true then f' σ st1 else .ok false st1:=rfl
@[simp] theorem zbji {f f':ST}:bOr f f' σ st=(f σ st).bind fun b st1=>if b=true then .ok true st1 else f' σ st1:=rfl
@[simp] theorem zbjj {f:ST}:bNot f σ st=(f σ st).bind fun b st1=>.ok (!b) st1:=rfl
@[simp] theorem zbjh:aI σ st=.ok true st:=rfl
@[simp] theorem zbip {c:ST} {f f':SE}:eIf c f f' σ st=(c σ st).bind fun b st1=>if b=true then f σ st1 else f' σ st1:=rfl
@[simp] theorem zbey {g:SA}:aQ g σ st=(g σ st).bind fun xs st1=>if xs.length<=sizeLine then .ok (.tup xs) st1 else .stuck:=rfl
@[simp] theorem zbfb {g:SA}:eLst g σ st=(g σ st).bind fun xs st1=>if xs.length<=sizeLine then .ok (.lst xs) st1 else .stuck:=rfl
@[simp] theorem zzv {g:SA}:eLstM g σ st=(g σ st).bind fun xs st1=>if xs.length<=sizeLine then .ok (.ref st1.length) (st1++[.lst xs]) else .stuck:=rfl
@[simp] theorem zbfc {g g':D->D->Store->Res D} {f f' f'':SE}:eChain g g' f f' f'' σ st=(f σ st).bind fun x st1=>(f' σ st1).bind fun y st2=>(g x y st2).bind fun z st3=>(match z with
 | .bl true=>(f'' σ st3).bind fun w st4=>g' y w st4
 | .bl false=>.ok (.bl false) st3
 | _=>.stuck):=rfl
@[simp] theorem zbhj:eDNew σ st=.ok (.ref st.length) (st++[.dT []]):=rfl
@[simp] theorem zbjl:sNx σ st=.ok (.nx σ) st:=rfl
@[simp] theorem zbht:sBrk σ st=.ok (.brk σ) st:=rfl
@[simp] theorem zbcr {f:SE}:sRet f σ st=(f σ st).bind fun v st1=>.ok (.ret v) st1:=rfl
@[simp] theorem zbgy:sRetN σ st=.ok (.ret .non) st:=rfl
@[simp] theorem zbgz {f:SE}:sDrop f σ st=(f σ st).bind fun _ st1=>.ok (.nx σ) st1:=rfl
@[simp] theorem zbhq {i:Nat} {f:SE}:aF i f σ st=(f σ st).bind fun v st1=>.ok (.nx (σ.set i (some v))) st1:=rfl
@[simp] theorem zbcq {s t:SS}:aD s t σ st=(match s σ st with
 | .ok (.nx σ1) st1=>t σ1 st1
 | r=>r):=rfl
@[simp] theorem zbhr {c:ST} {s t:SS}:sIf c s t σ st=(c σ st).bind fun b st1=>if b=true then s σ st1 else t σ st1:=rfl
@[simp] theorem zbct {i:Nat} {g:D->D->Store->Res D} {f:SE}:sAug i g f σ st=(match σ[i]? with
 | some (some x)=>(f σ st).bind fun y st1=>(g x y st1).bind fun z st2=>.ok (.nx (σ.set i (some z))) st2
 | _=>.stuck):=rfl
@[simp] theorem zbhs {it:SA} {bd:SG} {body:SS}:sFor it bd body σ st=(it σ st).bind fun xs st1=>forF bd body xs σ st1:=rfl
@[simp] theorem zbes {f:SE}:aH f σ st=(f σ st).bind fun x st1=>(match seqV x with
 | some xs=>.ok xs st1
 | none=>.stuck):=rfl
@[simp] theorem zbik {g:SA}:iR1 g σ st=(g σ st).bind fun xs st1=>(match xs with
 | [.int j]=>if RngOk j then .ok (rng 0 j.toNat) st1 else .stuck
 | _=>.stuck):=rfl
@[simp] theorem zbij {g:SA}:iR2 g σ st=(g σ st).bind fun xs st1=>(match xs with
  | [.int i, .int j]=>if RngOk i/\RngOk j then .ok (rng i (j - i).toNat) st1 else .stuck
  | _=>.stuck):=by
  show(g σ st).bind _=_
  congr 1
  funext xs st1
  split
  · unfold RngOk
    simp only[and_assoc]
  · rename_i h
    first
      | rfl
      | (split
         · rename_i i j
           exact absurd rfl (h i j)
         · rfl)
@[simp] theorem zbhg {f:SE}:iDict f σ st=(f σ st).bind fun x st1=>(match x with
 | .ref n=>(match st1[n]? with
  | some (.dT kvs)=>.ok (aJ (kvs.map (·.1))) (st1.set n (.fT kvs))
  | _=>.stuck)
 | _=>.stuck):=rfl
@[simp] theorem zsx {it:SA} {k:Nat} {is:List Nat} {bd:SG} {c:ST} {f:SE}:aG it k is bd c f σ st=(it σ st).bind fun xs st1=>if xs.length<=sizeLine then(compF bd c f xs (aS k is σ) st1).bind fun ys st2=>.ok (.lst ys) st2 else .stuck:=rfl
@[simp] theorem zbiq {f:SE}:eFz f σ st=(f σ st).bind fun x st1=>(match x with
 | .ref n=>(match st1[n]? with
  | some (.lst xs)=>.ok (.lst xs) (st1.set n .dead)
  | _=>.stuck)
 | _=>.stuck):=rfl
@[simp] theorem zbhe:pNone σ st=.ok none st:=rfl
@[simp] theorem zym {f:SE}:pSome f σ st=(f σ st).bind fun v st1=>(match v with
 | .int i=>.ok (some i) st1
 | _=>.stuck):=rfl
@[simp] theorem zbin {f:SE} {lo hi:DS->Store->Res (Option Int)}:eSl f lo hi σ st=(f σ st).bind fun x st1=>(lo σ st1).bind fun l st2=>(hi σ st2).bind fun h st3=>(match x with
 | .tup xs=>.ok (.tup (cutD xs l h)) st3
 | x=>match asL st3 x with
  | some xs=>.ok (.lst (cutD xs l h)) st3
  | none=>.stuck):=rfl
@[simp] theorem zrl {f:SE} {g:SA}:eAppend f g σ st=(f σ st).bind fun x st1=>(match x,asL st1 x with
 | .ref n,some _=>(g σ st1).bind fun ys st2=>(match ys,st2[n]? with
  | [y],some (.lst xs)=>if xs.length < sizeLine then .ok .non (st2.set n (.lst (xs++[y]))) else .stuck
  | _,_=>.stuck)
 | _,_=>.stuck):=rfl
@[simp] theorem zbca {f:SE} {g:SA}:eExtend f g σ st=(f σ st).bind fun x st1=>(match x,asL st1 x with
 | .ref n,some _=>(g σ st1).bind fun ys st2=>(match ys,st2[n]? with
  | [y],some (.lst xs)=>(match asL st2 y with
   | some zs=>if xs.length+zs.length<=sizeLine then .ok .non (st2.set n (.lst (xs++zs))) else .stuck
   | none=>.stuck)
  | _,_=>.stuck)
 | _,_=>.stuck):=rfl
@[simp] theorem ztz {f g h:SE}:sSetIx f g h σ st=(h σ st).bind fun v st1=>(f σ st1).bind fun x st2=>(g σ st2).bind fun y st3=>(match x,y with
 | .ref n,.int k=>(match st3[n]? with
  | some (.lst xs)=>(match ixN xs.length k with
   | some j=>.ok (.nx σ) (st3.set n (.lst (xs.set j v)))
   | none=>.stuck)
  | _=>.stuck)
 | _,_=>.stuck):=rfl
@[simp] theorem zvm {f g h:SE}:eDGet2 f g h σ st=(f σ st).bind fun x st1=>(match pairsOf st1 x with
 | some _=>(g σ st1).bind fun y st2=>(h σ st2).bind fun z st3=>(match pairsOf st3 x,keyOf y with
  | some kvs,some k=>.ok ((valD kvs k).getD z) st3
  | _,_=>.stuck)
 | none=>.stuck):=rfl
@[simp] theorem zbhi {f g:SE}:eDPop f g σ st=(f σ st).bind fun x st1=>(match pairsOf st1 x with
 | some _=>(g σ st1).bind fun y st2=>(match x,keyOf y with
  | .ref n,some k=>(match st2[n]? with
   | some (.dT kvs)=>(match valD kvs k with
    | some v=>.ok v (st2.set n (.dT (dropD kvs k)))
    | none=>.stuck)
   | _=>.stuck)
  | _,_=>.stuck)
 | none=>.stuck):=rfl
@[simp] theorem zxk {f g h:SE}:sDPut f g h σ st=(h σ st).bind fun v st1=>(f σ st1).bind fun x st2=>(g σ st2).bind fun y st3=>(match x,keyOf y with
 | .ref n,some k=>(match st3[n]? with
  | some (.dT kvs)=>if kvs.length < sizeLine then .ok (.nx σ) (st3.set n (.dT (putD kvs k v))) else .stuck
  | _=>.stuck)
 | _,_=>.stuck):=rfl
theorem zbim {n np:Nat}{b:SS}{ds:List D}:fnD n np b ds st=if ds.length=np then(match b (ds.map some++List.replicate (n - np) none) st with
 | .ok (.ret v) st'=>.ok v st'
 | .ok (.nx _) st'=>.ok .non st'
 | .exc x st'=>.exc x st'
 | _=>.stuck) else .stuck:=rfl
end
section
variable {st:Store}{i j:Int}
@[simp] theorem oI_v {C:Int->Int->Prop} [DecidableRel C] {h:Int->Int->D}:oI C h (.int i) (.int j) st=if C i j then .ok (h i j) st else .stuck:=rfl
@[simp] theorem zbdy:aM (.int i) (.int j) st=.ok (.int (i+j)) st:=rfl
@[simp] theorem zbdx {a b:List D}:aM (.tup a) (.tup b) st=if a.length+b.length<=sizeLine then .ok (.tup (a++b)) st else .stuck:=rfl
@[simp] theorem zbie:oLtT (.int i) (.int j) st=.ok (.bl (decide (i < j))) st:=rfl
@[simp] theorem zbic:oNeg (.int i) st=.ok (.int (-i)) st:=rfl
@[simp] theorem zce (ns:List Int):asInts (ns.map .int)=some ns:=by
 induction ns with
 | nil=>rfl
 | cons n ns ih=>rw[xbx,asInts,ih];rfl
@[simp] theorem zpk (l:List (List Int)):asRows (aJ l)=some l:=by
 induction l with
 | nil=>rfl
 | cons n ns ih =>
  unfold aJ at ih ⊢;rw[xbx,asRows,zce,ih];rfl
@[simp] theorem zku (ns:List Int):keyOf (aL ns)=some ns:=zce ns
theorem zhl:dataOf st (.int i)=some (.int i):=rfl
@[simp] theorem zbig:oEq (.int i) (.int j) st=.ok (.bl (decide (i=j))) st:=by
 show oEqG false (.int i) (.int j) st=_;unfold oEqG;rw[zhl,zhl];dsimp only;rw[if_pos ⟨rfl,rfl⟩];show Res.ok (D.bl (i==j)) st=_;rw[show(i==j)=decide (i=j) from by rw[xgu];simp]
@[simp] theorem zbid:oNe (.int i) (.int j) st=.ok (.bl (!decide (i=j))) st:=by
 show oEqG true (.int i) (.int j) st=_;unfold oEqG;rw[zhl,zhl];dsimp only;rw[if_pos ⟨rfl,rfl⟩];show Res.ok (D.bl (!(i==j))) st=_;rw[show(i==j)=decide (i=j) from by rw[xgu];simp]
noncomputable abbrev aK (l:List (List Int)):D:=.tup (aJ l)
theorem small (n:Nat)(h:n<=1000000):n<=sizeLine:=by rw[xet];lia
theorem smallT (n:Nat)(h:n<=1000000):n < sizeLine:=by rw[xet];lia
end
theorem zsw {bd:SG}{body:SS}(I:Nat->DS->Store->Prop):∀(xs:List D) (k:Nat) (σ:DS) (st:Store),I k σ st ->
  (∀i x σ st,xs[i]?=some x->I (k+i) σ st->∃σ1 σ2 st2,bd x σ=some σ1/\body σ1 st=.ok (.nx σ2) st2/\I (k+i+1) σ2 st2)->∃σ' st',forF bd body xs σ st=.ok (.nx σ') st'/\I (k+xs.length) σ' st'
 | [],k,σ,st,h,_=>⟨σ,st,rfl,h⟩
 | x::xs,k,σ,st,h,s=>by
  obtain⟨σ1,σ2,st2,e1,e2,h2⟩:=s 0 x σ st rfl h;obtain⟨σ',st',e3,h3⟩:=zsw I xs (k+1) σ2 st2 h2 fun i y σ st hy hi=>by
   have:=s (i+1) y σ st (by simpa using hy) (by rw[show k+(i+1)=k+1+i by lia];exact hi);rw[show k+(i+1)+1=k+1+i+1 by lia] at this;exact this
  refine⟨σ',st',?_,by rw[xbu,show k+(xs.length+1)=k+1+xs.length by lia];exact h3⟩;unfold forF;rw[e1];dsimp only;rw[e2];exact e3
theorem zzo {bd:SG}{body:SS}(I:Nat->DS->Store->Prop){xs:List D}{σ:DS}{st:Store}(h0:I 0 σ st)
  (s:∀i x σ st,xs[i]?=some x->I i σ st->∃σ1 σ2 st2,bd x σ=some σ1/\body σ1 st=.ok (.nx σ2) st2/\I (i+1) σ2 st2):∃σ' st',forF bd body xs σ st=.ok (.nx σ') st'/\I xs.length σ' st':=by
 have:=zsw I xs 0 σ st h0 fun i x σ st hx hi=>by
  rw[xdo] at hi ⊢;exact s i x σ st hx hi
 rw[xdo] at this;exact this
theorem zbcv {lo:Int}{n i:Nat}{x:D}(h:(rng lo n)[i]?=some x):i < n/\x=.int (lo+i):=zhz h
theorem zp (lo:Int)(n:Nat):(rng lo n).length=n:=by simp[rng]
theorem zjy {bd:SG}{c:ST}{f:SE}(I:Nat->List D->DS->Store->Prop):∀(xs:List D) (k:Nat) (acc:List D) (σ:DS) (st:Store),I k acc σ st ->
  (∀i x acc σ st,xs[i]?=some x->I (k+i) acc σ st->∃σ1 b st1,bd x σ=some σ1/\c σ1 st=.ok b st1/\((b=false/\I (k+i+1) acc σ1 st1)\/(b=true/\∃y st2,f σ1 st1=.ok y st2/\I (k+i+1) (acc++[y]) σ1 st2))) ->
  ∃ys σ' st',compF bd c f xs σ st=.ok ys st'/\I (k+xs.length) (acc++ys) σ' st'
 | [],k,acc,σ,st,h,_=>⟨[],σ,st,rfl,by rw[xef];exact h⟩
 | x::xs,k,acc,σ,st,h,s=>by
  have s':∀i y acc σ st,xs[i]?=some y->I (k+1+i) acc σ st->∃σ1 b st1,bd y σ=some σ1/\c σ1 st=.ok b st1/\((b=false/\I (k+1+i+1) acc σ1 st1)\/(b=true/\∃z st2,f σ1 st1=.ok z st2/\I (k+1+i+1) (acc++[z]) σ1 st2)):=fun i y acc σ st hy hi=>by
   have:=s (i+1) y acc σ st (by simpa using hy) (by rw[show k+(i+1)=k+1+i by lia];exact hi);rw[show k+(i+1)+1=k+1+i+1 by lia] at this;exact this
  obtain⟨σ1,b,st1,e1,e2,h2⟩:=s 0 x acc σ st rfl h;rcases h2 with⟨rfl,h2⟩ | ⟨rfl,y,st2,e3,h2⟩
  ·obtain⟨ys,σ',st',e4,h3⟩:=zjy I xs (k+1) acc σ1 st1 h2 s';refine⟨ys,σ',st',?_,by rw[xbu,show k+(xs.length+1)=k+1+xs.length by lia];exact h3⟩;unfold compF;rw[e1];dsimp only;rw[e2];exact e4
  ·obtain⟨ys,σ',st',e4,h3⟩:=zjy I xs (k+1) (acc++[y]) σ1 st2 h2 s';refine⟨y::ys,σ',st',?_,by rw[xbu,show k+(xs.length+1)=k+1+xs.length by lia];rw[xcn] at h3;exact h3⟩;unfold compF;rw[e1];dsimp only;rw[e2];dsimp only[zdz];rw[if_pos rfl,e3];dsimp only[zdz];rw[e4]
   rfl
theorem zbbc {bd:SG}{c:ST}{f:SE}(I:Nat->List D->DS->Store->Prop){xs:List D}{σ:DS}{st:Store}(h0:I 0 [] σ st)
  (s:∀i x acc σ st,xs[i]?=some x->I i acc σ st->∃σ1 b st1,bd x σ=some σ1/\c σ1 st=.ok b st1/\((b=false/\I (i+1) acc σ1 st1)\/(b=true/\∃y st2,f σ1 st1=.ok y st2/\I (i+1) (acc++[y]) σ1 st2))) :
  ∃ys σ' st',compF bd c f xs σ st=.ok ys st'/\I xs.length ys σ' st':=by
 have:=zjy I xs 0 [] σ st h0 fun i x acc σ st hx hi=>by
  rw[xdo] at hi ⊢;exact s i x acc σ st hx hi
 rw[xdo] at this
 simpa using this
theorem zpw {c:ST}{body:SS}(I:Nat->DS->Store->Prop)(post:DS->Store->Prop){σ:DS}{st:Store}{k:Nat}(h0:I k σ st)(hm:k < wCap)
  (s:∀j σ st,I j σ st->∃b st1,c σ st=.ok b st1/\((b=false/\post σ st1)\/(b=true/\∃i σ2 st2,body σ st1=.ok (.nx σ2) st2/\I i σ2 st2/\i < j))):∃σ' st',sWhile c body σ st=.ok (.nx σ') st'/\post σ' st':=by
 have main:∀n j σ st,I j σ st->j < n->∃σ' st',whileF c body n σ st=.ok (.nx σ') st'/\post σ' st':=by
  intro n
  induction n with
  | zero=>intro j σ st _ h;lia
  | succ n ih =>
   intro j σ st hI hlt;obtain⟨b,st1,e1,h⟩:=s j σ st hI;unfold whileF;rw[e1];dsimp only[zdz];rcases h with⟨rfl,h⟩ | ⟨rfl,i,σ2,st2,e2,h2,h3⟩
   ·exact⟨σ,st1,by rw[if_neg (by decide)],h⟩
   ·obtain⟨σ',st',e3,h4⟩:=ih i σ2 st2 h2 (by lia);refine⟨σ',st',?_,h4⟩;rw[if_pos rfl,e2];exact e3
 exact main wCap k σ st h0 hm
section
variable {st:Store}{n:Nat}{xs:List D}{i:Int}
@[simp] theorem zbbs:seqOf st (.tup xs)=some xs:=rfl
@[simp] theorem zbbt:seqOf st (.scr xs)=some xs:=rfl
@[simp] theorem zbbu:seqOf st (.lst xs)=some xs:=rfl
@[simp] theorem zbcn:seqV (.tup xs)=some xs:=rfl
@[simp] theorem zbcp:seqV (.lst xs)=some xs:=rfl
@[simp] theorem zbco:seqV (.scr xs)=some xs:=rfl
@[simp] theorem zbhl:asL st (.lst xs)=some xs:=rfl
theorem zpl (h:st[n]?=some (.lst xs)):asL st (.ref n)=some xs:=by
 unfold asL;dsimp only;rw[h]
theorem zkm (h:st[n]?=some (.lst xs)):seqOf st (.ref n)=some xs:=zpl h
theorem zmj {x:D}{d:D}(h:seqOf st x=some xs)(h2:L2.atI xs i=some d):oIx x (.int i) st=.ok d st:=by
 unfold oIx;rw[h];dsimp only;rw[h2]
@[simp] theorem zbgk:bLen [.tup xs] st=.ok (.int xs.length) st:=rfl
@[simp] theorem zbgm:bLen [.lst xs] st=.ok (.int xs.length) st:=rfl
@[simp] theorem zbgl:bLen [.scr xs] st=.ok (.int xs.length) st:=rfl
@[simp] theorem zbjk:bAbs [.int i] st=.ok (.int (if i < 0 then -i else i)) st:=rfl
@[simp] theorem zbjn {g:Int->Int->Int} {j:Int}:b2I g [.int i,.int j] st=.ok (.int (g i j)) st:=rfl
@[simp] theorem zbgj {ns:List Int}:bSum [aL ns] st=.ok (.int ns.sum) st:=by
 unfold bSum;simp
@[simp] theorem zbbo:bTuple [.tup xs] st=.ok (.tup xs) st:=rfl
@[simp] theorem zpf:bTuple [.lst xs] st=.ok (.tup xs) st:=rfl
theorem zpe (h:st[n]?=some (.lst xs)):bTuple [.ref n] st=.ok (.tup xs) st:=by
 unfold bTuple;dsimp only;rw[zpl h]
theorem zkc {l:List (List Int)}(h:l.length<=1000000):bSorted [.lst (aJ l)] st=.ok (.lst (aJ (sortR l))) st:=by
 unfold bSorted;simp[h]
theorem zpi {j:Nat}{d:D}(h:xs[j]?=some d):L2.atI xs (j:Int)=some d:=ztm h
theorem zhy {o:O}(h:n < st.length):(st.set n o)[n]?=some o:=xdv h
theorem zch {o:O}(h:st[n]?=some o):n < st.length:=(xbk.mp h).1
theorem zbcm {o:O}(h:st[n]?=some o):st.set n o=st:=by
 apply xki;intro i;by_cases e:i=n
 ·subst e;rw[xdv (zch h),h]
 ·rw[xcr (xci e)]
end
theorem zon {n np:Nat}{b:SS}{ds:List D}{st st':Store}{v:D}(h:ds.length=np)(e:b (ds.map some++List.replicate (n - np) none) st=.ok (.ret v) st'):fnD n np b ds st=.ok v st':=by
 rw[zbim,if_pos h,e]
noncomputable abbrev bagO (c x:Int):O:=.lst [.int c,.int x]
noncomputable def BagAt (st:Store) (n:Nat):Prop:=∃c x:Int,st[n]?=some (bagO c x)/\0<=c/\0<=x
structure Drew (st st':Store) (n:Nat):Prop where
 len:st.length<=st'.length
 keep:∀ i, i < st.length->i≠n->st'[i]?=st[i]?
 bag:BagAt st' n
theorem Drew.refl {st:Store}{n:Nat}(h:BagAt st n):Drew st st n:=⟨xbf _,fun _ _ _=>rfl,h⟩
theorem Drew.trans {st st1 st2:Store}{n:Nat}(a:Drew st st1 n)(b:Drew st1 st2 n):Drew st st2 n :=
 ⟨xbc a.len b.len,fun i h1 h2=>(b.keep i (xbg h1 a.len) h2).trans (a.keep i h1 h2),b.bag⟩
theorem Drew.set {st:Store}{n:Nat}{c x:Int}(h:BagAt st n)(hc:0<=c)(hx:0<=x):Drew st (st.set n (bagO c x)) n:=by
 obtain⟨_,_,e,_⟩:=h;exact⟨by rw[xep];exact xbf _,fun i _ h2=>xcr (xci h2),c,x,zhy (zch e),hc,hx⟩
theorem Drew.more {st:Store}{n:Nat}(h:BagAt st n)(g:Store):Drew st (st++g) n:=by
 obtain⟨c,x,e,h1,h2⟩:=h;exact⟨by rw[xbp];lia,fun i h _=>xbv h,c,x,by rw[xbv (zch e)];exact e,h1,h2⟩
theorem zxe {st:Store}{n:Nat}{m:Int}(hb:BagAt st n)(h1:1<=m)(h2:m < 2 ^ 1000) :
  ∃r st',zc [.ref n,.int m] st=.ok (.int r) st'/\0<=r/\r < m/\Drew st st' n/\st'.length=st.length:=by
 obtain⟨c,x,hn,hc,hx⟩:=id hb;have s0:∀{c x:Int} {st:Store},st[n]?=some (bagO c x)->oIx (.ref n) (.int 0) st=.ok (.int c) st:=fun h=>zmj (zkm h) rfl
 have s1:∀{c x:Int} {st:Store},st[n]?=some (bagO c x)->oIx (.ref n) (.int 1) st=.ok (.int x) st:=fun h=>zmj (zkm h) rfl
 by_cases h0:0 < c
 ·have d1:CDivP c m:=⟨by lia,h2⟩
  have e0:ixN 2 0=some 0:=rfl;refine⟨c % m,st.set n (bagO (c / m) x),zon rfl ?_,xgx _ (by lia),xjz _ (by lia),Drew.set hb (Int.ediv_nonneg hc (by lia)) hx,xep⟩;simp[s0 hn,h0,hn,e0,show(0:Int) < m by lia,d1]
 ·have hlen:=zch hn
  have W:=zpw (c:=eB (aR oLtT (aA 4) (aA 1))) (body:=aD (sSetIx (aA 0) (eC (.int 1)) (aR oMod (aR aM (aR oMulI (aR oIx (aA 0) (eC (.int 1))) (eC (.int 48271))) (eC (.int 7919))) (eC (.int 2147483647))))
   (aD (aF 3 (aR aM (aR oMulI (aA 3) (eC (.int 1073741789))) (aR oMod (aR oMulI (aR oFdiv (aR oIx (aA 0) (eC (.int 1))) (eC (.int 8))) (eC (.int 69621))) (eC (.int 1073741789)))))
   (aF 4 (aR oMulI (aA 4) (eC (.int 1073741789)))))) (k:=1000) (σ:=[some (.ref n),some (.int m),none,some (.int 0),some (.int 1)]) (st:=st)
   (fun j σ s=>∃c' x' nn rr:Int,σ=[some (.ref n),some (.int m),none,some (.int nn),some (.int rr)]/\s=st.set n (bagO c' x')/\0<=c'/\0<=x'/\0<=nn/\j<=1000/\2 ^ (1000 - j)<=rr)
   (fun σ s=>∃c' x' nn:Int,(∃rr,σ=[some (.ref n),some (.int m),none,some (.int nn),some (.int rr)])/\s=st.set n (bagO c' x')/\0<=c'/\0<=x'/\0<=nn)
   ⟨c,x,0,1,rfl,(zbcm hn).symm,hc,hx,by lia,by lia,by decide⟩ (by decide) (by
    rintro j σ s ⟨c',x',nn,rr,rfl,rfl,a1,a2,a3,a4,a5⟩;have g1:(st.set n (bagO c' x'))[n]?=some (bagO c' x'):=zhy hlen;by_cases hlt:rr < m
    ·have hj:1<=j:=by
      rcases xka j with z | z
      ·subst z;have a5':(2:Int) ^ 1000<=rr:=a5;lia
      ·exact z
     have e1:ixN 2 1=some 1:=rfl;have m1:CMul x' 48271:=.inr ⟨by decide,by decide⟩;have m2:CMul nn 1073741789:=.inr ⟨by decide,by decide⟩;have m3:CMul rr 1073741789:=.inr ⟨by decide,by decide⟩;have g2:∀y:Int,(st.set n (bagO c' y))[n]?=some (bagO c' y):=fun y=>zhy hlen
     have m4:∀y:Int,CMul y 69621:=fun y=>.inr ⟨by decide,by decide⟩
     have d8:∀y:Int,CDivP y 8:=fun y=>⟨by decide,by decide +kernel⟩
     refine⟨true,st.set n (bagO c' x'),by simp[hlt],.inr ⟨rfl,j - 1,_,st.set n (bagO c' ((x' * 48271+7919) % 2147483647)),?_,⟨c',(x' * 48271+7919) % 2147483647,nn * 1073741789+(x' * 48271+7919) % 2147483647 / 8 * 69621 % 1073741789,rr * 1073741789,rfl,rfl,a1,?_,?_,by lia,?_⟩,by lia⟩⟩
     ·simp[s1 g1,g1,e1,m1,m2,m3,m4,d8,s1 (g2 _)]
     ·exact xgx _ (by lia)
     ·have a1:0<=nn * 1073741789:=Int.mul_nonneg a3 (by lia);have a2:=xgx ((x' * 48271+7919) % 2147483647 / 8 * 69621) (show(1073741789:Int)≠0 by lia);lia
     ·have e:(2:Int) ^ (1000 - (j - 1))=2 ^ (1000 - j) * 2:=by
       rw[← Int.pow_succ];congr 1;lia
      rw[e];have hp:(0:Int)<=2 ^ (1000 - j):=Int.pow_nonneg (by decide);lia
    ·exact⟨false,_,by simp[hlt],.inl ⟨rfl,c',x',nn,⟨rr,rfl⟩,rfl,a1,a2,a3⟩⟩)
  obtain⟨σ',st',e,c',x',nn,hσ,hst,k1,k2,k3⟩:=W;obtain⟨rr,rfl⟩:=hσ;subst hst;refine⟨nn % m,st.set n (bagO c' x'),zon rfl ?_,xgx _ (by lia),xjz _ (by lia),Drew.set hb k1 k2,xep⟩;simp[s0 hn,h0,e,show(0:Int) < m by lia]
theorem ziy {ns:List Int}{j:Nat}(h:j < ns.length):L2.atI (ns.map D.int) (j:Int)=some (.int ns[j]):=ztm (by rw[xcm,xbi h];rfl)
theorem zbgi {st:Store}{ns:List Int}{i:Nat}(hl:ns.length<=63)(hi:i<=100000):∃c x:Int,0<=c/\0<=x/\zed [.scr (ns.map .int),.int i] st=.ok (.ref st.length) (st++[bagO c x]):=by
 have cell:∃c:Int,0<=c/\sIf (eB (aR oLtT (aA 1) (aE bLen (aB (aA 0) aC)))) (aF 2 (aE bAbs (aB (aR oIx (aA 0) (aA 1)) aC))) sNx [some (.scr (ns.map .int)),some (.int i),some (.int 0),none,none] st
   = .ok (.nx [some (.scr (ns.map .int)),some (.int i),some (.int c),none,none]) st:=by
  by_cases h:i < ns.length
  ·have e:oIx (.scr (ns.map .int)) (.int i) st=.ok (.int ns[i]) st:=zmj rfl (ziy h);refine⟨if ns[i] < 0 then -ns[i] else ns[i],by split<;>lia,?_⟩;simp[h,e]
  ·exact⟨0,by lia,by simp[h]⟩
 obtain⟨c,hc,ec⟩:=cell;have hmin:(if(60:Int) < (ns.length:Int) then(60:Int) else ns.length).toNat<=ns.length:=by split<;>lia
 have W:=zzo (bd:=gN 4) (body:=aF 3 (aR oMod (aR aM (aR aM (aR oMulI (aA 3) (eC (.int 48271))) (aR oMod (aR oIx (aA 0) (aA 4)) (eC (.int 2147483647)))) (aA 4)) (eC (.int 2147483629))))
  (xs:=rng 0 (if(60:Int) < (ns.length:Int) then(60:Int) else ns.length).toNat) (σ:=[some (.scr (ns.map .int)),some (.int i),some (.int c),some (.int (7919 * i+17)),none]) (st:=st)
  (fun j σ s=>s=st/\∃(mix:Int) (v:Option D),σ=[some (.scr (ns.map .int)),some (.int i),some (.int c),some (.int mix),v]/\0<=mix) ⟨rfl,_,none,rfl,by lia⟩ (by
   rintro j x σ s hx ⟨rfl,mix,v,rfl,hm⟩;obtain⟨hj,rfl⟩:=zbcv hx;have hj2:j < ns.length:=by lia
   have e:oIx (.scr (ns.map .int)) (.int (0+j)) s=.ok (.int ns[j]) s:=zmj rfl (by rw[xjl];exact ziy hj2);rw[xjl] at e;have m1:CMul mix 48271:=.inr ⟨by decide,by decide⟩;refine⟨_,[some (.scr (ns.map .int)),some (.int i),some (.int c),some (.int ((mix * 48271+ns[j] % 2147483647+j) % 2147483629)),some (.int (0+j))],s,rfl,?_,rfl,_,_,rfl,xgx _ (by lia)⟩
   simp[e,m1])
 obtain⟨σ',st',e,rfl,mix,v,rfl,hm⟩:=W;have m0:CMul 7919 (i:Int):=.inl ⟨by decide,by decide⟩;have p0:CPow 10 18:=⟨by decide,by decide,by decide⟩
 have hr:RngOk (if(60:Int) < (ns.length:Int) then(60:Int) else ns.length):=by
  split<;>exact rngOk (by lia) (by lia)
 by_cases hlt:c < 1000000000000000000
 ·refine⟨0,mix,by lia,hm,zon rfl ?_⟩;have hs:=small 2 (by lia);simp at ec;simp[ec,m0,hr,e,p0,hlt,hs]
 ·refine⟨c,mix,hc,hm,zon rfl ?_⟩;have hs:=small 2 (by lia);simp at ec;simp[ec,m0,hr,e,p0,hlt,hs]
theorem seqN {s t:SS}{σ σ1:DS}{st st1:Store}{r:Res Fl}(h:s σ st=.ok (.nx σ1) st1)(k:t σ1 st1=r):aD s t σ st=r:=by
 rw[zbcq,h];exact k
noncomputable def aP (ks:List (List Int)) (k:List Int):List (List Int):=if k∈ks then ks.filter (fun x=>decide (x≠k)) else ks++[k]
noncomputable def aN (l:List (List Int)):List (List Int):=l.foldl aP []
theorem zey {ks:List (List Int)}{k x:List Int}:x∈aP ks k↔(x∈ks/\x≠k)\/(x=k/\k∉ks):=by
 unfold aP;split
 ·rename_i h;simp[xje,h]
 ·rename_i h;simp only[xbs,xcg];constructor
  ·rintro(z | rfl)
   ·exact .inl ⟨z,fun e=>h (e ▸ z)⟩
   ·exact .inr ⟨rfl,h⟩
  ·rintro(⟨z,_⟩ | ⟨z,_⟩)
   ·exact .inl z
   ·exact .inr z
theorem zmp {ks:List (List Int)}{k:List Int}(h:ks.Nodup):(aP ks k).Nodup:=by
 unfold aP;split
 ·exact h.filter _
 ·rename_i hk;rw[List.nodup_append];exact⟨h,by simp,fun a ha b hb=>by simp at hb;subst hb;exact fun e=>hk (e ▸ ha)⟩
theorem zjv (ks:List (List Int))(k:List Int):(aP ks k).length<=ks.length+1:=by
 unfold aP;split
 ·exact xfr (List.length_filter_le _ _)
 ·simp
theorem zkp:∀(l ks:List (List Int)),ks.Nodup->(l.foldl aP ks).Nodup/\(l.foldl aP ks).length<=ks.length+l.length/\∀x,x∈l.foldl aP ks↔(l.count x+if x∈ks then 1 else 0) % 2=1
 | [],ks,h=>⟨h,by simp,fun x=>by by_cases e:x∈ks<;>simp[e]⟩
 | a::l,ks,h=>by
  obtain⟨h1,h2,h3⟩:=zkp l (aP ks a) (zmp h);refine⟨h1,?_,fun x=>?_⟩
  ·have:=zjv ks a;rw[xjk,xbu];lia
  ·rw[xjk,h3 x,List.count_cons];by_cases e:x=a
   ·subst e;by_cases k:x∈ks
    ·have q:x∉aP ks x:=by rw[zey];simp[k]
     simp only[q,k,xew,xfq,xfx]<;>lia
    ·have q:x∈aP ks x:=by rw[zey];simp[k]
     simp only[q,k,xew,xfq,xfx]<;>lia
   ·have e':(a==x)=false:=by simpa using fun z:a=x=>e z.symm
    by_cases k:x∈ks
    ·have q:x∈aP ks a:=by rw[zey];simp[k,e]
     simp[q,k,e']
    ·have q:x∉aP ks a:=by rw[zey];simp[k,e]
     simp[q,k,e']
theorem zid (l:List (List Int)):(aN l).Nodup:=(zkp l [] xhz).1
theorem zmi (l:List (List Int)):(aN l).length<=l.length:=by have:=(zkp l [] xhz).2.1;simpa [aN] using this
theorem zny {l:List (List Int)}{x:List Int}:x∈aN l↔l.count x % 2=1:=by have:=(zkp l [] xhz).2.2 x;simpa [aN] using this
theorem zlx {a b:List (List Int)}(h1:a.Nodup)(h2:b.Nodup)(h:∀x,x∈a↔x∈b):a.Perm b:=(List.perm_ext_iff_of_nodup h1 h2).mpr h
theorem zlt {a b:List (List Int)}(h:a.Perm b):sortR a=sortR b:=zji ((zcp a).trans h) (zgt a)
noncomputable def aO (l:List (List Int)):List (List Int):=sortR (aN l)
theorem zyv {l m:List (List Int)}(h1:m.Nodup)(h:∀x,x∈m↔l.count x % 2=1):sortR m=aO l:=zlt (zlx h1 (zid l) fun x=>by rw[h,zny])
theorem zuv {l:List (List Int)}{x:List Int}:x∈aO l↔l.count x % 2=1:=by unfold aO;rw[(zcp _).mem_iff,zny]
theorem zfn {l:List (List Int)}{x:List Int}(h:x∈aO l):x∈l:=by
 rw[zuv] at h;rcases xka (l.count x) with z | z
 ·rw[z] at h;cases h
 ·exact List.count_pos_iff.mp z
theorem zek (l:List (List Int)):(aO l).length<=l.length:=by unfold aO;rw[zjj];exact zmi l
theorem znx (l:List (List Int)):(aO l).Nodup:=(zcp _).nodup_iff.mpr (zid l)
theorem zuu {st:Store}{n:Nat}{kvs:List (List Int×D)}(h:st[n]?=some (.dT kvs)):pairsOf st (.ref n)=some kvs:=by
 unfold pairsOf;dsimp only;rw[h]
theorem zut {st:Store}{n:Nat}{kvs:List (List Int×D)}(h:st[n]?=some (.fT kvs)):pairsOf st (.ref n)=some kvs:=by
 unfold pairsOf;dsimp only;rw[h]
theorem zuw {st:Store}{n:Nat}{kvs:List (List Int×D)}{k:List Int}{v:D}(h:pairsOf st (.ref n)=some kvs)(hv:valD kvs k=some v):oDGet (.ref n) (aL k) st=.ok v st:=by
 unfold oDGet;rw[zku,h];dsimp only;rw[hv]
noncomputable abbrev cntD (cs:List (List Int×Int)):List (List Int×D):=cs.map fun p=>(p.1,.int p.2)
structure Cnt (cs:List (List Int×Int)) (l:List (List Int)):Prop where
 nd:(cs.map (·.1)).Nodup
 mem:∀k,k∈cs.map (·.1)↔k∈l
 val:∀p∈cs,p.2=(l.count p.1:Nat)
 len:cs.length<=l.length
theorem zbbf {cs:List (List Int×Int)}{l:List (List Int)}(h:Cnt cs l)(k:List Int):valD (cntD cs) k=if k∈l then some (.int (l.count k:Nat)) else none:=by
 have gen:∀cs:List (List Int×Int),(∀p∈cs,p.2=(l.count p.1:Nat))->valD (cntD cs) k=if k∈cs.map (·.1) then some (.int (l.count k:Nat)) else none:=by
  intro cs
  induction cs with
  | nil=>intro _;rfl
  | cons a cs ih =>
   intro hv;have ih:=ih fun p hp=>hv p (xca _ hp)
   unfold valD cntD at ih ⊢;rw[xbx,xfc];by_cases e:a.1=k
   ·have:=hv a xbz;simp only[e,xhc,Option.map_some,xbx,xbn,true_or,xew];rw[this,e]
   ·simp only[xbt e];rw[ih];simp only[xbx,xbn,show ¬ k=a.1 from fun z=>e z.symm,false_or]
 rw[gen cs h.val];simp only[h.mem]
theorem zbbe {cs:List (List Int×Int)}{l:List (List Int)}(h:Cnt cs l)(k:List Int):∃cs',putD (cntD cs) k (.int ((l.count k:Nat)+1))=cntD cs'/\Cnt cs' (l++[k]):=by
 have any:((cntD cs).any fun kv=>decide (kv.1=k))=decide (k∈l):=by
  rw[xgu,xfb,← h.mem,List.any_eq_true,xdb];constructor
  ·rintro⟨x,hx,e⟩;obtain⟨p,hp,rfl⟩:=xdb.mp hx;exact⟨p,hp,by simpa using e⟩
  ·rintro⟨p,hp,e⟩;exact⟨_,xdb.mpr ⟨p,hp,rfl⟩,by simpa using e⟩
 unfold putD;rw[any];by_cases hk:k∈l
 ·rw[if_pos (by simpa using hk)];refine⟨cs.map fun p=>if p.1=k then(p.1,p.2+1) else p,?_,?_,fun x=>?_,fun p hp=>?_,?_⟩
  ·unfold cntD;rw[xdn,xdn];apply List.map_congr_left;intro p hp;have:=h.val p hp;dsimp only[Function.comp];by_cases e:p.1=k
   ·rw[if_pos e,if_pos e];dsimp only;rw[this,e]
   ·rw[if_neg e,if_neg e]
  ·rw[xdn];have:(((fun x:List Int×Int=>x.1) ∘ fun p:List Int×Int=>if p.1=k then(p.1,p.2+1) else p))=fun p=>p.1:=by
    funext p
    dsimp only[Function.comp];split<;>rfl
   rw[this];exact h.nd
  ·rw[xdn];have:(((fun x:List Int×Int=>x.1) ∘ fun p:List Int×Int=>if p.1=k then(p.1,p.2+1) else p))=fun p=>p.1:=by
    funext p
    dsimp only[Function.comp];split<;>rfl
   rw[this,h.mem,xbs,xcg];constructor
   ·exact .inl
   ·rintro(z | rfl)
    ·exact z
    ·exact hk
  ·obtain⟨q,hq,rfl⟩:=xdb.mp hp;have:=h.val q hq;by_cases e:q.1=k
   ·rw[if_pos e];dsimp only;rw[this,e,xij];simp
   ·rw[if_neg e,this,xij];have:List.count q.1 [k]=0:=by rw[xgy];simpa using e
    rw[this];rfl
  ·rw[xbd,xbp];have:=h.len;lia
 ·rw[if_neg (by simpa using hk)];refine⟨cs++[(k,1)],?_,?_,fun x=>?_,fun p hp=>?_,?_⟩
  ·rw[xgy.mpr hk];simp[cntD]
  ·rw[xfp,List.nodup_append];refine⟨h.nd,by simp,fun a ha b hb=>?_⟩;simp at hb;subst hb;exact fun e=>hk ((h.mem _).mp (e ▸ ha))
  ·rw[xfp,xbs,h.mem,xbs];simp
  ·rcases xbs.mp hp with hp | hp
   ·have e1:=h.val p hp;have e2:p.1≠k:=fun e=>hk ((h.mem _).mp (e ▸ xdb.mpr ⟨p,hp,rfl⟩))
    rw[e1,xij];have:List.count p.1 [k]=0:=by rw[xgy];simpa using e2
    rw[this];rfl
   ·simp at hp;subst hp;rw[xij,xgy.mpr hk];simp
  ·rw[xbp,xbp];have:=h.len;simp;exact this
theorem zdq {l:List (List Int)}{i:Nat}{x:D}(h:(aJ l)[i]?=some x):∃k,l[i]?=some k/\x=aL k:=by
 unfold aJ at h;rw[xcm] at h;cases e:l[i]? with
 | none=>rw[e] at h;cases h
 | some k=>rw[e] at h;exact⟨k,rfl,(xck h).symm⟩
theorem zn (l:List (List Int)):(aJ l).length=l.length:=xbd _
theorem zbp {α:Type}{l:List α}{i:Nat}{k:α}(h:l[i]?=some k):l.take (i+1)=l.take i++[k]:=by
 obtain⟨hi,e⟩:=xbk.mp h;rw[xgm hi,e]
theorem zoy (xs:List D)(k:Nat):cutD xs (some (k:Int)) none=xs.drop k:=by
 unfold cutD;rw[HT.zua,HT.zxj];rcases Nat.le_total k xs.length with h | h
 ·rw[xeg h,xel (by rw[xde];exact xbf _)]
 ·rw[xir h,List.drop_length,List.drop_of_length_le h];simp
end Dd
namespace K07
open PySem L2
end K07
namespace K23
open PySem L2 K07
end K23
namespace Dd
open PySem L2 K07 K23
noncomputable def slowAt (r:List Int) (p:Nat):Prop:=∃a b:Int,r[p]?=some a/\r[p+1]?=some b/\a < 2 * b
noncomputable instance (r:List Int) (p:Nat):Decidable (slowAt r p) :=
 match h1:r[p]?,h2:r[p+1]? with
 | some a,some b=>if h:a < 2 * b then .isTrue ⟨a,b,h1,h2,h⟩ else .isFalse fun⟨x,y,e1,e2,e3⟩=>by rw[h1] at e1;rw[h2] at e2;cases e1;cases e2;exact h e3
 | none,_=>.isFalse fun⟨x,y,e1,_⟩=>by rw[h1] at e1;cases e1
 | some _,none=>.isFalse fun⟨x,y,_,e2,_⟩=>by rw[h2] at e2;cases e2
theorem rngN {j:Int}(h1:-10000<=j)(h2:j<=10000):RngOk j:=rngOk (by lia) (by lia)
theorem Drew.over {st s:Store}{n k:Nat}{o:O}(d:Drew st s n)(hn:n < st.length)(hk:st.length<=k):Drew st (s.set k o) n:=by
 obtain⟨c,x,eb,c0,x0⟩:=d.bag;exact⟨by rw[xep];exact d.len,fun i h1 h2=>by rw[xcr (by lia)];exact d.keep i h1 h2,c,x,by rw[xcr (by lia)];exact eb,c0,x0⟩
theorem zwm (xs:List D)(y:D):L2.atI (xs++[y]) (-1)=some y:=by
 unfold L2.atI ixN;rw[xbp];have e:((-1:Int)+((xs.length+[y].length:Nat):Int)).toNat=xs.length:=by simp;lia
 rw[if_neg (by lia),if_pos (by simp;lia),e];simp
end Dd
namespace Dd
open PySem L2
noncomputable def WP {α:Type} (r:Res α) (Q:α->Store->Prop):Prop:=match r with
 | .ok a st=>Q a st
 | _=>False
theorem WP.get {α:Type}{r:Res α}{Q:α->Store->Prop}(h:WP r Q):∃a st,r=.ok a st/\Q a st:=by
 cases r with
 | ok a st=>exact⟨a,st,rfl,h⟩
 | exc x st=>exact h.elim
 | stuck=>exact h.elim
theorem WP.of {α:Type}{r:Res α}{Q:α->Store->Prop}{a:α}{st:Store}(e:r=.ok a st)(h:Q a st):WP r Q:=by rw[e];exact h
theorem WP.mono {α:Type}{r:Res α}{Q Q':α->Store->Prop}(h:WP r Q)(k:∀a st,Q a st->Q' a st):WP r Q':=by
 obtain⟨a,st,rfl,q⟩:=h.get;exact k a st q
theorem zf {α β:Type}{r:Res α}{f:α->Store->Res β}{Q:β->Store->Prop}:WP (r.bind f) Q=WP r (fun a st=>WP (f a st) Q):=by
 cases r<;>rfl
noncomputable def seqK (t:SS) (Q:Fl->Store->Prop):Fl->Store->Prop:=fun fl st=>match fl with
 | .nx σ=>WP (t σ st) Q
 | fl=>Q fl st
theorem ztt {s t:SS}{σ:DS}{st:Store}{Q:Fl->Store->Prop}:WP (aD s t σ st) Q=WP (s σ st) (seqK t Q):=by
 unfold aD;cases s σ st with
 | ok fl st1=>cases fl<;>rfl
 | exc x st=>rfl
 | stuck=>rfl
theorem zpu {α:Type}{c:Prop}[Decidable c]{a b:Res α}{Q:α->Store->Prop}:WP (if c then a else b) Q=if c then WP a Q else WP b Q:=by
 split<;>rfl
theorem zjd {α:Type}{c:Prop}[Decidable c]{a:Res α}{Q:α->Store->Prop}:WP (if c then a else .stuck) Q=(c/\WP a Q):=by
 by_cases h:c
 ·rw[if_pos h];simp[h]
 ·rw[if_neg h];simp[h,WP]
noncomputable def retK (Q:D->Store->Prop):Fl->Store->Prop:=fun fl st=>match fl with
 | .ret v=>Q v st
 | .nx _=>Q .non st
 | _=>False
theorem zex {n np:Nat}{b:SS}{ds:List D}{st:Store}{Q:D->Store->Prop}(h:ds.length=np)(k:WP (b (ds.map some++List.replicate (n - np) none) st) (retK Q)):WP (fnD n np b ds st) Q:=by
 obtain⟨fl,st',e,q⟩:=k.get;unfold fnD;rw[if_pos h,e];cases fl<;>first | exact q | exact q.elim
noncomputable def bK (Q:Bool->Store->Prop):D->Store->Prop:=fun v st=>match v with
 | .bl b=>Q b st
 | _=>False
noncomputable def gK (bd:SG) (Q:Fl->Store->Prop) (σ:DS):D->Store->Prop:=fun v st=>match bd v σ with
 | some σ1=>Q (.nx σ1) st
 | none=>False
theorem W:(∀{α:Type} {a:α} {st:Store} {Q:α->Store->Prop},WP (.ok a st) Q=Q a st)
 /\ (∀{s t:SS} {σ:DS} {st:Store} {Q:Fl->Store->Prop},WP (aD s t σ st) Q=WP (s σ st) (seqK t Q))
 /\ (∀{t:SS} {σ:DS} {st:Store} {Q:Fl->Store->Prop},seqK t Q (.nx σ) st=WP (t σ st) Q)
 /\ (∀{t:SS} {v:D} {st:Store} {Q:Fl->Store->Prop},seqK t Q (.ret v) st=Q (.ret v) st)
 /\ (∀{t:SS} {σ:DS} {st:Store} {Q:Fl->Store->Prop},seqK t Q (.brk σ) st=Q (.brk σ) st)
 /\ (∀{t:SS} {σ:DS} {st:Store} {Q:Fl->Store->Prop},seqK t Q (.ct σ) st=Q (.ct σ) st)
 /\ (∀{v:D} {st:Store} {Q:D->Store->Prop},retK Q (.ret v) st=Q v st)
 /\ (∀{σ:DS} {st:Store} {Q:D->Store->Prop},retK Q (.nx σ) st=Q .non st)
 /\ (∀{b:Bool} {st:Store} {Q:Bool->Store->Prop},bK Q (.bl b) st=Q b st)
 /\ (∀{d:D} {σ:DS} {st:Store} {Q:D->Store->Prop},WP (eC d σ st) Q=Q d st)
 /\ (∀{g:D->D->Store->Res D} {f f':SE} {σ:DS} {st:Store} {Q:D->Store->Prop},WP (aR g f f' σ st) Q=WP (f σ st) (fun x st1=>WP (f' σ st1) (fun y st2=>WP (g x y st2) Q)))
 /\ (∀{g:D->Store->Res D} {f:SE} {σ:DS} {st:Store} {Q:D->Store->Prop},WP (eUn g f σ st) Q=WP (f σ st) (fun x st1=>WP (g x st1) Q))
 /\ (∀{g:List D->Store->Res D} {f:SA} {σ:DS} {st:Store} {Q:D->Store->Prop},WP (aE g f σ st) Q=WP (f σ st) (fun x st1=>WP (g x st1) Q))
 /\ (∀{σ:DS} {st:Store} {Q:List D->Store->Prop},WP (aC σ st) Q=Q [] st)
 /\ (∀{f:SE} {g:SA} {σ:DS} {st:Store} {Q:List D->Store->Prop},WP (aB f g σ st) Q=WP (f σ st) (fun x st1=>WP (g σ st1) (fun xs st2=>Q (x::xs) st2)))
 /\ (∀{f:SE} {σ:DS} {st:Store} {Q:Bool->Store->Prop},WP (eB f σ st) Q=WP (f σ st) (bK Q))
 /\ (∀{f f':ST} {σ:DS} {st:Store} {Q:Bool->Store->Prop},WP (bAnd f f' σ st) Q=WP (f σ st) (fun b st1=>if b=true then WP (f' σ st1) Q else Q false st1))
 /\ (∀{f f':ST} {σ:DS} {st:Store} {Q:Bool->Store->Prop},WP (bOr f f' σ st) Q=WP (f σ st) (fun b st1=>if b=true then Q true st1 else WP (f' σ st1) Q))
 /\ (∀{f:ST} {σ:DS} {st:Store} {Q:Bool->Store->Prop},WP (bNot f σ st) Q=WP (f σ st) (fun b st1=>Q (!b) st1))
 /\ (∀{σ:DS} {st:Store} {Q:Bool->Store->Prop},WP (aI σ st) Q=Q true st)
 /\ (∀{f f':SE} {σ:DS} {st:Store} {Q:D->Store->Prop},WP (eAnd f f' σ st) Q=WP (f σ st) (bK fun b st1=>if b=true then WP (f' σ st1) Q else Q (.bl false) st1))
 /\ (∀{f f':SE} {σ:DS} {st:Store} {Q:D->Store->Prop},WP (eOr f f' σ st) Q=WP (f σ st) (bK fun b st1=>if b=true then Q (.bl true) st1 else WP (f' σ st1) Q))
 /\ (∀{f:SE} {σ:DS} {st:Store} {Q:D->Store->Prop},WP (eNot f σ st) Q=WP (f σ st) (bK fun b st1=>Q (.bl (!b)) st1))
 /\ (∀{c:ST} {f f':SE} {σ:DS} {st:Store} {Q:D->Store->Prop},WP (eIf c f f' σ st) Q=WP (c σ st) (fun b st1=>if b=true then WP (f σ st1) Q else WP (f' σ st1) Q))
 /\ (∀{g:SA} {σ:DS} {st:Store} {Q:D->Store->Prop},WP (aQ g σ st) Q=WP (g σ st) (fun xs st1=>xs.length<=sizeLine/\Q (.tup xs) st1))
 /\ (∀{g:SA} {σ:DS} {st:Store} {Q:D->Store->Prop},WP (eLst g σ st) Q=WP (g σ st) (fun xs st1=>xs.length<=sizeLine/\Q (.lst xs) st1))
 /\ (∀{g:SA} {σ:DS} {st:Store} {Q:D->Store->Prop},WP (eLstM g σ st) Q=WP (g σ st) (fun xs st1=>xs.length<=sizeLine/\Q (.ref st1.length) (st1++[.lst xs])))
 /\ (∀{σ:DS} {st:Store} {Q:D->Store->Prop},WP (eDNew σ st) Q=Q (.ref st.length) (st++[.dT []]))
 /\ (∀{σ:DS} {st:Store} {Q:Fl->Store->Prop},WP (sNx σ st) Q=Q (.nx σ) st)
 /\ (∀{σ:DS} {st:Store} {Q:Fl->Store->Prop},WP (sBrk σ st) Q=Q (.brk σ) st)
 /\ (∀{σ:DS} {st:Store} {Q:Fl->Store->Prop},WP (sCt σ st) Q=Q (.ct σ) st)
 /\ (∀{σ:DS} {st:Store} {Q:Fl->Store->Prop},WP (sRetN σ st) Q=Q (.ret .non) st)
 /\ (∀{f:SE} {σ:DS} {st:Store} {Q:Fl->Store->Prop},WP (sRet f σ st) Q=WP (f σ st) (fun v st1=>Q (.ret v) st1))
 /\ (∀{f:SE} {σ:DS} {st:Store} {Q:Fl->Store->Prop},WP (sDrop f σ st) Q=WP (f σ st) (fun _ st1=>Q (.nx σ) st1))
 /\ (∀{i:Nat} {f:SE} {σ:DS} {st:Store} {Q:Fl->Store->Prop},WP (aF i f σ st) Q=WP (f σ st) (fun v st1=>Q (.nx (σ.set i (some v))) st1))
 /\ (∀{bd:SG} {f:SE} {σ:DS} {st:Store} {Q:Fl->Store->Prop},WP (sSetG bd f σ st) Q=WP (f σ st) (gK bd Q σ))
 /\ (∀{c:ST} {s t:SS} {σ:DS} {st:Store} {Q:Fl->Store->Prop},WP (sIf c s t σ st) Q=WP (c σ st) (fun b st1=>if b=true then WP (s σ st1) Q else WP (t σ st1) Q))
 /\ (∀{it:SA} {bd:SG} {body:SS} {σ:DS} {st:Store} {Q:Fl->Store->Prop},WP (sFor it bd body σ st) Q=WP (it σ st) (fun xs st1=>WP (forF bd body xs σ st1) Q))
 /\ (∀{it:SA} {k:Nat} {is:List Nat} {bd:SG} {c:ST} {f:SE} {σ:DS} {st:Store} {Q:D->Store->Prop},WP (aG it k is bd c f σ st) Q=WP (it σ st) (fun xs st1=>xs.length<=sizeLine/\WP (compF bd c f xs (aS k is σ) st1) (fun ys st2=>Q (.lst ys) st2)))
 /\ (∀{it:SA} {k:Nat} {is:List Nat} {bd:SG} {c:ST} {f:SE} {σ:DS} {st:Store} {Q:D->Store->Prop},WP (eCompM it k is bd c f σ st) Q=WP (it σ st) (fun xs st1=>xs.length<=sizeLine/\WP (compF bd c f xs (aS k is σ) st1) (fun ys st2=>Q (.ref st2.length) (st2++[.lst ys]))))
 /\ (∀{C:Int->Int->Prop} [DecidableRel C] {h:Int->Int->D} {i j:Int} {st:Store} {Q:D->Store->Prop},WP (oI C h (.int i) (.int j) st) Q=(C i j/\Q (h i j) st))
 /\ (∀{i j:Int} {st:Store} {Q:D->Store->Prop},WP (aM (.int i) (.int j) st) Q=Q (.int (i+j)) st)
 /\ (∀{a b:List D} {st:Store} {Q:D->Store->Prop},WP (aM (.tup a) (.tup b) st) Q=(a.length+b.length<=sizeLine/\Q (.tup (a++b)) st))
 /\ (∀{i j:Int} {st:Store} {Q:D->Store->Prop},WP (oLtT (.int i) (.int j) st) Q=Q (.bl (decide (i < j))) st)
 /\ (∀{i j:Int} {st:Store} {Q:D->Store->Prop},WP (oEqG false (.int i) (.int j) st) Q=Q (.bl (decide (i=j))) st)
 /\ (∀{i j:Int} {st:Store} {Q:D->Store->Prop},WP (oEqG true (.int i) (.int j) st) Q=Q (.bl (!decide (i=j))) st)
 /\ (∀{i:Int} {st:Store} {Q:D->Store->Prop},WP (oNeg (.int i) st) Q=Q (.int (-i)) st)
 /\ (∀{i j:Int} {g:Int->Int->Int} {st:Store} {Q:D->Store->Prop},WP (b2I g [.int i,.int j] st) Q=Q (.int (g i j)) st)
 /\ (∀{i:Int} {st:Store} {Q:D->Store->Prop},WP (bAbs [.int i] st) Q=Q (.int (if i < 0 then -i else i)) st)
 /\ (∀{b:Bool} {st:Store} {Q:D->Store->Prop},WP (bInt [.bl b] st) Q=Q (.int (if b=true then 1 else 0)) st)
 /\ (∀{xs:List D} {st:Store} {Q:D->Store->Prop},WP (bLen [.tup xs] st) Q=Q (.int xs.length) st)
 /\ (∀{xs:List D} {st:Store} {Q:D->Store->Prop},WP (bLen [.lst xs] st) Q=Q (.int xs.length) st)
 /\ (∀{xs:List D} {st:Store} {Q:D->Store->Prop},WP (bLen [.scr xs] st) Q=Q (.int xs.length) st)
 /\ (∀{xs:List D} {st:Store} {Q:D->Store->Prop},WP (bTuple [.tup xs] st) Q=Q (.tup xs) st)
 /\ (∀{xs:List D} {st:Store} {Q:D->Store->Prop},WP (bTuple [.lst xs] st) Q=Q (.tup xs) st)
 /\ (∀{xs:List D} {st:Store} {Q:D->Store->Prop},WP (bList [.tup xs] st) Q=Q (.lst xs) st)
 /\ (∀{xs:List D} {st:Store} {Q:D->Store->Prop},WP (bList [.lst xs] st) Q=Q (.lst xs) st)
 /\ (∀{d:D} {σ:DS} {st:Store} {Q:D->Store->Prop},WP (aA 0 (some d::σ) st) Q=Q d st)
 /\ (∀{i:Nat} {σ:DS} {st:Store} {Q:D->Store->Prop} {o:Option D},WP (aA (i+1) (o::σ) st) Q=WP (aA i σ st) Q)
 /\ (∀{f:SE} {σ:DS} {st:Store} {Q:List D->Store->Prop},WP (aH f σ st) Q=WP (f σ st) (fun x st1=>∃xs,seqV x=some xs/\Q xs st1))
 /\ (∀{f:SE} {σ:DS} {st:Store} {Q:Bool->Store->Prop},WP (eTru f σ st) Q=WP (f σ st) (fun x st1=>∃b,tru st1 x=some b/\Q b st1))
 /\ (∀{g:SA} {σ:DS} {st:Store} {Q:List D->Store->Prop},WP (iR1 g σ st) Q=WP (g σ st) (fun xs st1=>∃j,xs=[.int j]/\RngOk j/\Q (rng 0 j.toNat) st1))
 /\ (∀{g:SA} {σ:DS} {st:Store} {Q:List D->Store->Prop},WP (iR2 g σ st) Q=WP (g σ st) (fun xs st1=>∃i j,xs=[.int i,.int j]/\RngOk i/\RngOk j/\Q (rng i (j - i).toNat) st1)):=by
 have g2:∀{α:Type} {c:Prop} [Decidable c] {a:α} {st:Store} {Q:α->Store->Prop},WP (if c then .ok a st else .stuck) Q=(c/\Q a st):=fun {α c _ a st Q}=>zjd
 refine⟨rfl,ztt,rfl,rfl,rfl,rfl,rfl,rfl,rfl,rfl,?_⟩;refine⟨?_,?_⟩
 ·intros;rw[zbhh,zf];congr;funext x st1;rw[zf]
 refine⟨zf,zf,rfl,?_⟩;refine⟨?_,?_⟩
 ·intros;rw[zpp,zf];congr;funext x st1;rw[zf];rfl
 refine⟨?_,?_⟩
 ·intros;rw[eB_v,zf];congr;funext x st1;cases x<;>rfl
 refine⟨?_,?_⟩
 ·intros;rw[zbgn,zf];congr;funext x st1;rw[zpu];rfl
 refine⟨?_,?_⟩
 ·intros;rw[zbji,zf];congr;funext x st1;rw[zpu];rfl
 refine⟨zf,rfl,?_⟩;refine⟨?_,?_⟩
 ·intros;rw[zbfd,zf];congr;funext x st1;cases x<;>try rfl
  rename_i b;cases b<;>rfl
 refine⟨?_,?_⟩
 ·intros;rw[zbio,zf];congr;funext x st1;cases x<;>try rfl
  rename_i b;cases b<;>rfl
 refine⟨?_,?_⟩
 ·intros;rw[zbfa,zf];congr;funext x st1;cases x<;>rfl
 refine⟨?_,?_⟩
 ·intros;rw[zbip,zf];congr;funext x st1;rw[zpu]
 refine⟨?_,?_⟩
 ·intros;rw[zbey,zf];congr;funext x st1;rw[g2]
 refine⟨?_,?_⟩
 ·intros;rw[zbfb,zf];congr;funext x st1;rw[g2]
 refine⟨?_,?_⟩
 ·intros;rw[zzv,zf];congr;funext x st1;rw[g2]
 refine⟨rfl,rfl,rfl,rfl,rfl,zf,zf,zf,?_⟩;refine⟨?_,?_⟩
 ·intro bd f σ st Q;unfold sSetG;rw[zf];congr;funext x st1;unfold gK;cases bd x σ<;>rfl
 refine⟨?_,?_⟩
 ·intros;rw[zbhr,zf];congr;funext x st1;rw[zpu]
 refine⟨zf,?_⟩;refine⟨?_,?_⟩
 ·intros;rw[zsx,zf];congr;funext x st1;rw[zjd,zf];rfl
 refine⟨?_,?_⟩
 ·intros;unfold eCompM;rw[zf];congr;funext x st1;rw[zjd,zf];rfl
 refine⟨?_,?_⟩
 ·intros;rw[oI_v,g2]
 refine⟨rfl,?_⟩;refine⟨?_,?_⟩
 ·intros;rw[zbdx,g2]
 refine⟨rfl,?_⟩;refine⟨?_,?_⟩
 ·intros;rw[show ∀i j st,oEqG false (.int i) (.int j) st=_ from fun i j st=>zbig];rfl
 refine⟨?_,?_⟩
 ·intros;rw[show ∀i j st,oEqG true (.int i) (.int j) st=_ from fun i j st=>zbid];rfl
 refine⟨rfl,rfl,rfl,rfl,rfl,rfl,rfl,rfl,rfl,rfl,rfl,fun {d σ st Q}=>rfl,fun {i σ st Q o}=>rfl,?_⟩;refine⟨?_,?_⟩
 ·intros;rw[zbes,zf];congr;funext x st1
  cases h:seqV x with
  | none=>simp[WP]
  | some xs=>simp[WP]
 refine⟨?_,?_⟩
 ·intros;rw[zbez,zf];congr;funext x st1
  cases h:tru st1 x with
  | none=>simp[WP]
  | some xs=>simp[WP]
 refine⟨?_,?_⟩
 ·intros;rw[zbik,zf];congr;funext x st1
  split
  ·rw[g2];simp[RngOk]
  ·rename_i hne;have:∀j,x≠[D.int j]:=fun j h=>hne j h
   simp[WP,this]
 ·intros;rw[zbij,zf];congr;funext x st1
  split
  ·rw[g2];simp only[RngOk,List.cons.injEq,D.int.injEq,and_true];apply propext;constructor
   ·rintro⟨h,q⟩;exact⟨_,_,⟨rfl,rfl⟩,h.1,h.2,q⟩
   ·rintro⟨i',j',⟨rfl,rfl⟩,h1,h2,q⟩;exact⟨⟨h1,h2⟩,q⟩
  ·rename_i hne;have:∀i j,x≠[D.int i,D.int j]:=fun i j h=>hne i j h
   simp[WP,this]
noncomputable def loopK (I:DS->Store->Prop) (Q:Fl->Store->Prop):Fl->Store->Prop:=fun fl st=>match fl with
 | .nx σ=>I σ st
 | .ct σ=>I σ st
 | .brk σ=>Q (.nx σ) st
 | .ret v=>Q (.ret v) st
theorem zgh {bd:SG}{body:SS}{Q:Fl->Store->Prop}(I:Nat->DS->Store->Prop):∀(xs:List D) (k:Nat) (σ:DS) (st:Store),I k σ st ->
  (∀i x σ st,xs[i]?=some x->I (k+i) σ st->∃σ1,bd x σ=some σ1/\WP (body σ1 st) (loopK (I (k+i+1)) Q))->(∀σ st,I (k+xs.length) σ st->Q (.nx σ) st)->WP (forF bd body xs σ st) Q
 | [],k,σ,st,h,_,q=>q σ st h
 | x::xs,k,σ,st,h,s,q=>by
  obtain⟨σ1,e1,w⟩:=s 0 x σ st rfl h;obtain⟨fl,st2,e2,w⟩:=w.get;unfold forF;rw[e1];dsimp only;rw[e2]
  have go:∀σ2,I (k+0+1) σ2 st2->WP (forF bd body xs σ2 st2) Q:=fun σ2 h2=>zgh I xs (k+1) σ2 st2 h2 (fun i y σ st hy hi=>by
   have:=s (i+1) y σ st (by simpa using hy) (by rw[show k+(i+1)=k+1+i by lia];exact hi);rw[show k+(i+1)+1=k+1+i+1 by lia] at this
   exact this) (fun σ st h=>q σ st (by rw[xbu,show k+(xs.length+1)=k+1+xs.length by lia];exact h))
  cases fl with
  | nx σ2=>exact go σ2 w
  | ct σ2=>exact go σ2 w
  | brk σ2=>exact w
  | ret v=>exact w
theorem zje {bd:SG}{body:SS}{Q:Fl->Store->Prop}(I:Nat->DS->Store->Prop){xs:List D}{σ:DS}{st:Store}(h0:I 0 σ st)
  (s:∀i x σ st,xs[i]?=some x->I i σ st->∃σ1,bd x σ=some σ1/\WP (body σ1 st) (loopK (I (i+1)) Q))(q:∀σ st,I xs.length σ st->Q (.nx σ) st):WP (forF bd body xs σ st) Q :=
 zgh I xs 0 σ st h0 (fun i x σ st hx hi=>by rw[xdo] at hi ⊢;exact s i x σ st hx hi) fun σ st h=>q σ st (by rw[xdo] at h;exact h)
theorem L:(∀{I:DS->Store->Prop} {Q:Fl->Store->Prop} {σ:DS} {st:Store},loopK I Q (.nx σ) st=I σ st)
 /\ (∀{I:DS->Store->Prop} {Q:Fl->Store->Prop} {σ:DS} {st:Store},loopK I Q (.ct σ) st=I σ st)
 /\ (∀{I:DS->Store->Prop} {Q:Fl->Store->Prop} {σ:DS} {st:Store},loopK I Q (.brk σ) st=Q (.nx σ) st)
 /\ (∀{I:DS->Store->Prop} {Q:Fl->Store->Prop} {v:D} {st:Store},loopK I Q (.ret v) st=Q (.ret v) st):=⟨rfl,rfl,rfl,rfl⟩
theorem zdm {bd:SG}{c:ST}{f:SE}(I:Nat->List D->DS->Store->Prop):∀(xs:List D) (k:Nat) (acc:List D) (σ:DS) (st:Store) (Q:List D->Store->Prop),I k acc σ st ->
  (∀i x acc σ st,xs[i]?=some x->I (k+i) acc σ st->∃σ1,bd x σ=some σ1/\WP (c σ1 st) (fun b st1=>if b=true then WP (f σ1 st1) (fun y st2=>I (k+i+1) (acc++[y]) σ1 st2) else I (k+i+1) acc σ1 st1)) ->
  (∀ys σ st,I (k+xs.length) (acc++ys) σ st->Q ys st)->WP (compF bd c f xs σ st) Q
 | [],k,acc,σ,st,Q,h,_,q=>q [] σ st (by rw[xef];exact h)
 | x::xs,k,acc,σ,st,Q,h,s,q=>by
  obtain⟨σ1,e1,w⟩:=s 0 x acc σ st rfl h;obtain⟨b,st1,e2,w⟩:=w.get;have s':∀i y acc σ st,xs[i]?=some y->I (k+1+i) acc σ st->∃σ1,bd y σ=some σ1/\WP (c σ1 st) (fun b st1=>if b=true then WP (f σ1 st1) (fun y st2=>I (k+1+i+1) (acc++[y]) σ1 st2) else I (k+1+i+1) acc σ1 st1):=fun i y acc σ st hy hi=>by
   have:=s (i+1) y acc σ st (by simpa using hy) (by rw[show k+(i+1)=k+1+i by lia];exact hi);rw[show k+(i+1)+1=k+1+i+1 by lia] at this;exact this
  have ln:∀(zs:List D) σ st,I (k+1+xs.length) zs σ st->I (k+(x::xs).length) zs σ st:=fun zs σ st h=>by rw[xbu,show k+(xs.length+1)=k+1+xs.length by lia];exact h
  unfold compF;rw[e1];dsimp only;rw[e2];dsimp only[zdz];cases b with
  | false =>
   rw[if_neg (by decide)] at w ⊢;exact zdm I xs (k+1) acc σ1 st1 Q w s' fun ys σ st h=>q ys σ st (ln _ _ _ h)
  | true =>
   rw[if_pos rfl] at w ⊢;obtain⟨y,st2,e3,w⟩:=w.get;rw[e3];dsimp only[zdz];rw[zf];exact zdm I xs (k+1) (acc++[y]) σ1 st2 _ w s' fun ys σ st h=>q (y::ys) σ st (ln _ _ _ (by rw[xcn] at h;exact h))
theorem zcz {bd:SG}{c:ST}{f:SE}{Q:List D->Store->Prop}(I:Nat->List D->DS->Store->Prop){xs:List D}{σ:DS}{st:Store}(h0:I 0 [] σ st)
  (s:∀i x acc σ st,xs[i]?=some x->I i acc σ st->∃σ1,bd x σ=some σ1/\WP (c σ1 st) (fun b st1=>if b=true then WP (f σ1 st1) (fun y st2=>I (i+1) (acc++[y]) σ1 st2) else I (i+1) acc σ1 st1))
  (q:∀ys σ st,I xs.length ys σ st->Q ys st):WP (compF bd c f xs σ st) Q :=
 zdm I xs 0 [] σ st Q h0 (fun i x acc σ st hx hi=>by rw[xdo] at hi ⊢;exact s i x acc σ st hx hi) fun ys σ st h=>q ys σ st (by rw[xdo] at h;simpa using h)
theorem zjc {bd:SG}{c:ST}{f:SE}{α:Type}(S:DS->Prop)(P:α->Bool)(G:α->D)(E:α->D){as:List α}{σ:DS}{st:Store}{Q:List D->Store->Prop}(h0:S σ)
  (s:∀x∈as,∀σ,S σ->∃σ1,bd (E x) σ=some σ1/\S σ1/\WP (c σ1 st) (fun b st1=>st1=st/\b=P x)/\(P x=true->WP (f σ1 st) (fun y st1=>st1=st/\y=G x)))
  (q:Q ((as.filter P).map G) st):WP (compF bd c f (as.map E) σ st) Q:=by
 refine zcz (fun i acc σ s'=>S σ/\s'=st/\acc=((as.take i).filter P).map G) ⟨h0,rfl,rfl⟩ (fun i x acc σ s' hx hI=>?_) fun ys σ s' hI=>?_
 ·obtain⟨hS,rfl,rfl⟩:=hI;rw[xcm] at hx;obtain⟨z,hz,rfl⟩:=xch.mp hx;obtain⟨σ1,e1,hS1,w1,w2⟩:=s z (xcc hz) σ hS;refine⟨σ1,e1,w1.mono fun b st1 hb=>?_⟩;obtain⟨rfl,rfl⟩:=hb;cases hP:P z with
  | false =>
   rw[if_neg (by decide)];refine⟨hS1,rfl,?_⟩;rw[zbp hz,xhx,List.filter_cons_of_neg (by rw[hP];decide)];simp
  | true =>
   rw[if_pos rfl];refine(w2 hP).mono fun y st2 hy=>?_
   obtain⟨rfl,rfl⟩:=hy;refine⟨hS1,rfl,?_⟩;rw[zbp hz,xhx,List.filter_cons_of_pos hP,xfp];simp
 ·obtain⟨_,rfl,rfl⟩:=hI;rw[xbd,xek];exact q
theorem V:(∀{α:Type} {a b:α} {l:List α},(a::l).set 0 b=b::l)
 /\ (∀{α:Type} {a b:α} {l:List α} {i:Nat},(a::l).set (i+1) b=a::l.set i b)
 /\ (∀{σ:DS} {k:Nat} {is:List Nat},aS k is σ=List.replicate k none++is.map fun i=>(σ[i]?).getD none)
 /\ (∀{α:Type} {a:α} {k:Nat},List.replicate (k+1) a=a::List.replicate k a)
 /\ (∀{α:Type} {a:α},List.replicate 0 a=[])
 /\ (∀{α β:Type} {f:α->β} {a:α} {l:List α},(a::l).map f=f a::l.map f)
 /\ (∀{α β:Type} {f:α->β},([]:List α).map f=[])
 /\ (∀{α:Type} {a:α} {l m:List α},(a::l)++m=a::(l++m))
 /\ (∀{α:Type} {l:List α},[]++l=l)
 /\ (∀{α:Type} {a:α} {l:List α},(a::l)[0]?=some a)
 /\ (∀{α:Type} {a:α} {l:List α} {i:Nat},(a::l)[i+1]?=l[i]?)
 /\ (∀{α:Type} {a:α} {d:α},(some a).getD d=a)
 /\ (∀{i:Nat} {d:D} {σ:DS},gN i d σ=some (σ.set i (some d)))
 /\ (∀{p:Prop} [Decidable p],(decide p=true)=p)
 /\ (∀{p:Prop} [Decidable p],((!decide p)=true)=¬ p)
 /\ (∀{b:Bool},((!b)=true)=(b=false))
 /\ (∀{a b:Prop},(if True then a else b)=a)
 /\ (∀{a b:Prop},(if False then a else b)=b)
 /\ (∀{a b:Prop},(if true=true then a else b)=a)
 /\ (∀{a b:Prop},(if false=true then a else b)=b)
 /\ (∀{α:Type} {a b:α},(if True then a else b)=a)
 /\ (∀{α:Type} {a b:α},(if False then a else b)=b)
 /\ ((true=false)=False)/\((false=true)=False)/\((true=true)=True)/\((false=false)=True)/\((¬ True)=False)/\((¬ False)=True):=by
 refine⟨rfl,rfl,rfl,rfl,rfl,rfl,rfl,rfl,rfl,rfl,?_,rfl,rfl,?_,?_,?_,rfl,rfl,rfl,rfl,rfl,rfl,by simp,by simp,by simp,by simp,by simp,by simp⟩
 ·intros;rfl
 ·intro p _;simp
 ·intro p _;simp
 ·intro b;simp
theorem M:(∀{f:SE} {σ:DS} {st:Store} {Q:Option Int->Store->Prop},WP (pSome f σ st) Q=WP (f σ st) (fun v st1=>∃i,v=.int i/\Q (some i) st1))
 /\ (∀{σ:DS} {st:Store} {Q:Option Int->Store->Prop},WP (pNone σ st) Q=Q none st)
 /\ (∀{f:SE} {lo hi:DS->Store->Res (Option Int)} {σ:DS} {st:Store} {Q:D->Store->Prop},WP (eSl f lo hi σ st) Q=WP (f σ st) (fun x st1=>WP (lo σ st1) (fun l st2=>WP (hi σ st2) (fun h st3=>(∃xs,x=.tup xs/\Q (.tup (cutD xs l h)) st3)\/(∃xs,asL st3 x=some xs/\Q (.lst (cutD xs l h)) st3)))))
 /\ (∀{f:SE} {σ:DS} {st:Store} {Q:D->Store->Prop},WP (eFz f σ st) Q=WP (f σ st) (fun x st1=>∃n xs,x=.ref n/\st1[n]?=some (.lst xs)/\Q (.lst xs) (st1.set n .dead)))
 /\ (∀{f g h:SE} {σ:DS} {st:Store} {Q:Fl->Store->Prop},WP (sSetIx f g h σ st) Q=WP (h σ st) (fun v st1=>WP (f σ st1) (fun x st2=>WP (g σ st2) (fun y st3=>∃n k xs j,x=.ref n/\y=.int k/\st3[n]?=some (.lst xs)/\ixN xs.length k=some j/\Q (.nx σ) (st3.set n (.lst (xs.set j v)))))))
 /\ (∀{f:SE} {g:SA} {σ:DS} {st:Store} {Q:D->Store->Prop},WP (eAppend f g σ st) Q=WP (f σ st) (fun x st1=>∃n xs0,x=.ref n/\st1[n]?=some (.lst xs0)/\WP (g σ st1) (fun ys st2=>∃y xs,ys=[y]/\st2[n]?=some (.lst xs)/\xs.length < sizeLine/\Q .non (st2.set n (.lst (xs++[y]))))))
 /\ (∀{x:D} {st:Store} {Q:D->Store->Prop},WP (bSum [x] st) Q=∃ns,(seqOf st x).bind asInts=some ns/\Q (.int ns.sum) st)
 /\ (∀{x:D} {al:Bool} {st:Store} {Q:D->Store->Prop},WP (bAny al [x] st) Q=∃bs,(asL st x).bind asBools=some bs/\Q (.bl (if al then bs.all id else bs.any id)) st)
 /\ (∀{x:D} {gt:Bool} {st:Store} {Q:D->Store->Prop},WP (bBest gt [x] st) Q=∃n ns,(seqOf st x).bind asInts=some (n::ns)/\Q (.int (bestI gt n ns)) st)
 /\ (∀{g:SA} {σ:DS} {st:Store} {Q:List D->Store->Prop},WP (iZipT g σ st) Q=WP (g σ st) (fun xs st1=>∃a b,xs=[.tup a,.tup b]/\Q (pairsF a b) st1))
 /\ (∀{i:Nat} {g:D->D->Store->Res D} {f:SE} {σ:DS} {st:Store} {Q:Fl->Store->Prop},WP (sAug i g f σ st) Q=∃x,σ[i]?=some (some x)/\WP (f σ st) (fun y st1=>WP (g x y st1) (fun z st2=>Q (.nx (σ.set i (some z))) st2))):=by
 refine⟨?_,rfl,?_,?_,?_,?_,?_,?_,?_,?_,?_⟩
 ·intros;rw[zym,zf];congr;funext x st1
  cases x<;>simp[WP]
 ·intros;rw[zbin,zf];congr;funext x st1;rw[zf];congr;funext l st2;rw[zf];congr;funext h st3
  apply propext;split
  ·constructor
   ·intro q;exact .inl ⟨_,rfl,q⟩
   ·rintro(⟨xs,e,q⟩ | ⟨xs,e,q⟩)
    ·cases e;exact q
    ·cases e
  ·rename_i hne;constructor
   ·intro q;split at q
    ·rename_i xs e;exact .inr ⟨xs,e,q⟩
    ·exact q.elim
   ·rintro(⟨xs,e,q⟩ | ⟨xs,e,q⟩)
    ·exact absurd e (hne xs)
    ·rw[e];exact q
 ·intros;rw[zbiq,zf];congr;funext x st1
  apply propext;constructor
  ·intro q;split at q
   ·split at q
    ·rename_i xs e;exact⟨_,xs,rfl,e,q⟩
    ·exact q.elim
   ·exact q.elim
  ·rintro⟨n,xs,rfl,e,q⟩;dsimp only;rw[e];exact q
 ·intros;rw[ztz,zf];congr;funext v st1;rw[zf];congr;funext x st2;rw[zf];congr;funext y st3
  apply propext;constructor
  ·intro q;split at q
   ·split at q
    ·split at q
     ·exact⟨_,_,_,_,rfl,rfl,by assumption,by assumption,q⟩
     ·exact q.elim
    ·exact q.elim
   ·exact q.elim
  ·rintro⟨n,k,xs,j,rfl,rfl,e1,e2,q⟩;dsimp only;rw[e1];dsimp only;rw[e2];exact q
 ·intros;rw[zrl,zf];congr;funext x st1
  apply propext;constructor
  ·intro q;split at q
   ·rename_i n xs0 e;rw[zf] at q;have e':st1[n]?=some (.lst xs0):=by
     unfold asL at e;dsimp only at e;split at e
     ·cases e;assumption
     ·cases e
    refine⟨n,xs0,rfl,e',q.mono fun ys st2 h=>?_⟩;split at h
    ·split at h
     ·exact⟨_,_,rfl,by assumption,by assumption,h⟩
     ·exact h.elim
    ·exact h.elim
   ·exact q.elim
  ·rintro⟨n,xs0,rfl,e,q⟩;rw[zpl e];dsimp only;rw[zf];refine q.mono fun ys st2 h=>?_
   obtain⟨y,xs,rfl,e2,hl,h⟩:=h;rw[e2];dsimp only;rw[if_pos hl];exact h
 ·intro x st Q;unfold bSum;dsimp only;cases h:(seqOf st x).bind asInts with
  | none=>simp[WP]
  | some ns=>simp[WP]
 ·intro x al st Q;unfold bAny;dsimp only;cases h:(asL st x).bind asBools with
  | none=>simp[WP]
  | some ns=>simp[WP]
 ·intro x gt st Q;unfold bBest;dsimp only;cases h:(seqOf st x).bind asInts with
  | none=>simp[WP]
  | some ns =>
   cases ns with
   | nil=>simp[WP]
   | cons n ns =>
    apply propext;constructor
    ·intro q;exact⟨_,_,rfl,q⟩
    ·rintro⟨a,b,e,q⟩;cases e;exact q
 ·intro g σ st Q;unfold iZipT;rw[zf];congr;funext x st1
  apply propext;constructor
  ·intro q;split at q
   ·exact⟨_,_,rfl,q⟩
   ·exact q.elim
  ·rintro⟨a,b,rfl,q⟩;exact q
 ·intro i g f σ st Q;rw[zbct];apply propext;constructor
  ·intro q;split at q
   ·rename_i x e;rw[zf] at q;exact⟨x,e,q.mono fun y st1 h=>by rw[zf] at h;exact h⟩
   ·exact q.elim
  ·rintro⟨x,e,q⟩;rw[e];dsimp only;rw[zf];exact q.mono fun y st1 h=>by rw[zf];exact h
theorem N:(∀{xs:List D} {P:List D->Prop},(∃ys,D.tup xs=D.tup ys/\P ys)=P xs)
 /\ (∀{i:Int} {P:Int->Prop},(∃j,D.int i=D.int j/\P j)=P i)
 /\ (∀{xs:List D} {st:Store} {P:List D->Prop},(∃ys,asL st (.tup xs)=some ys/\P ys)=False)
 /\ (∀{xs:List D} {st:Store} {P:List D->Prop},(∃ys,asL st (.lst xs)=some ys/\P ys)=P xs)
 /\ (∀{xs:List D} {P:List D->Prop},(∃ys,seqV (.tup xs)=some ys/\P ys)=P xs)
 /\ (∀{xs:List D} {P:List D->Prop},(∃ys,seqV (.lst xs)=some ys/\P ys)=P xs)
 /\ (∀{b:Bool} {st:Store} {P:Bool->Prop},(∃c,tru st (.bl b)=some c/\P c)=P b)
 /\ (∀{i:Int} {P:Int->Prop},(∃j,[D.int i]=[D.int j]/\P j)=P i)
 /\ (∀{i j:Int} {P:Int->Int->Prop},(∃k l,[D.int i,D.int j]=[D.int k,D.int l]/\P k l)=P i j)
 /\ (∀{x:D} {P:D->Prop},(∃y,[x]=[y]/\P y)=P x)
 /\ (∀{a b:List D} {P:List D->List D->Prop},(∃c d,[D.tup a,D.tup b]=[.tup c,.tup d]/\P c d)=P a b)
 /\ (∀{p:Prop},(p\/False)=p)/\(∀{p:Prop},(True/\p)=p):=by
 refine⟨?_,?_,?_,?_,?_,?_,?_,?_,?_,?_,?_,by simp,by simp⟩
 ·intros;apply propext;exact⟨fun⟨_,e,p⟩=>by cases e;exact p,fun p=>⟨_,rfl,p⟩⟩
 ·intros;apply propext;exact⟨fun⟨_,e,p⟩=>by cases e;exact p,fun p=>⟨_,rfl,p⟩⟩
 ·intros;apply propext;exact⟨fun⟨_,e,p⟩=>(by cases e),fun p=>p.elim⟩
 ·intros;apply propext;exact⟨fun⟨_,e,p⟩=>by cases e;exact p,fun p=>⟨_,rfl,p⟩⟩
 ·intros;apply propext;exact⟨fun⟨_,e,p⟩=>by cases e;exact p,fun p=>⟨_,rfl,p⟩⟩
 ·intros;apply propext;exact⟨fun⟨_,e,p⟩=>by cases e;exact p,fun p=>⟨_,rfl,p⟩⟩
 ·intros;apply propext;exact⟨fun⟨_,e,p⟩=>by cases e;exact p,fun p=>⟨_,rfl,p⟩⟩
 ·intros;apply propext;exact⟨fun⟨_,e,p⟩=>by cases e;exact p,fun p=>⟨_,rfl,p⟩⟩
 ·intros;apply propext;exact⟨fun⟨_,_,e,p⟩=>by cases e;exact p,fun p=>⟨_,_,rfl,p⟩⟩
 ·intros;apply propext;exact⟨fun⟨_,e,p⟩=>by cases e;exact p,fun p=>⟨_,rfl,p⟩⟩
 ·intros;apply propext;exact⟨fun⟨_,_,e,p⟩=>by cases e;exact p,fun p=>⟨_,_,rfl,p⟩⟩
section
variable {st:Store}{n:Nat}{Q:D->Store->Prop}
theorem zby {m:Int}(hb:BagAt st n)(h1:1<=m)(h2:m<=1000000)(k:∀r st',0<=r->r < m->Drew st st' n->Q (.int r) st'):WP (zc [.ref n,.int m] st) Q:=by
 obtain⟨r,st',e,a1,a2,a3,_⟩:=zxe hb h1 (Int.lt_of_le_of_lt h2 (by decide +kernel));exact WP.of e (k r st' a1 a2 a3)
theorem zbbx {x:D}{xs:List D}{i:Int}{d:D}(h:seqOf st x=some xs)(h2:L2.atI xs i=some d)(q:Q d st):WP (oIx x (.int i) st) Q:=WP.of (zmj h h2) q
theorem zxz {xs:List D}{i:Int}(h0:0<=i)(h1:i < xs.length)(q:∀d∈xs,Q d st):WP (oIx (.lst xs) (.int i) st) Q:=by
 obtain⟨j,rfl⟩:=xig h0;have hj:j < xs.length:=by lia
 exact zbbx (xs:=xs) (d:=xs[j]) rfl (zpi (xbi hj)) (q _ (xdm hj))
theorem zbgh {ns:List Int}{i:Nat}(hl:ns.length<=63)(hi:i<=100000)(k:∀g,BagAt (st++g) st.length->Q (.ref st.length) (st++g)):WP (zed [.scr (ns.map .int),.int i] st) Q:=by
 obtain⟨c,x,hc,hx,e⟩:=zbgi (st:=st) hl hi;exact WP.of e (k _ ⟨c,x,by simp,hc,hx⟩)
end
noncomputable abbrev Rise (l:List (List Int)):Prop:=l.Pairwise fun a b=>HT.lexLt a b=true
theorem zxl {l:List (List Int)}(h:UpR l)(nd:l.Nodup):Rise l:=List.Pairwise.imp (fun {a b} q=>by
 obtain⟨q1,q2⟩:=q;rcases Srt.zij a b with z | z | z
 ·exact z
 ·exact absurd z q2
 ·rw[q1] at z;cases z) (h.and nd)
theorem zqt (l:List (List Int)):Rise (aO l):=zxl (zgt _) (znx l)
structure SumOk (n:Nat) (l:List (List Int)):Prop where
 rise:Rise l
 len:∀r∈l,r.length=n
 pos:∀r∈l,∀x∈r,0<=x
theorem zkk {n:Nat}{l:List (List Int)}(h:∀r∈l,r.length=n/\∀x∈r,0<=x):SumOk n (aO l):=⟨zqt l,fun r hr=>(h r (zfn hr)).1,fun r hr=>(h r (zfn hr)).2⟩
theorem Drew.lt {st st':Store}{n:Nat}(d:Drew st st' n)(h:n < st.length):n < st'.length:=xbg h d.len
theorem BagAt.lt {st:Store}{n:Nat}(h:BagAt st n):n < st.length:=by obtain⟨c,x,e,_⟩:=h;exact zch e
theorem zva {r:List Int}{P:Int->Prop}(h:∀x∈r,P x){y:Int}(hy:P y):∀x∈r++[y],P x:=fun x hx=>by
 rcases xbs.mp hx with hx | hx
 ·exact h x hx
 ·simp at hx;subst hx;exact hy
theorem zdf {α:Type}(l:List α):(l.filter fun _=>true)=l:=List.filter_eq_self.mpr (by simp)
theorem zdg {α:Type}(P:α->Bool):∀as:List α,asBools (as.map fun x=>.bl (P x))=some (as.map P)
 | []=>rfl
 | x::as=>by rw[xbx,asBools,zdg P as];rfl
noncomputable def riseB (l:List (List Int)):Bool:=(l.zip (l.drop 1)).all fun p=>HT.lexLt p.1 p.2
theorem zkn:∀l:List (List Int),riseB l=true↔Rise l
 | []=>by simp[riseB,Rise]
 | [a]=>by simp[riseB,Rise]
 | a::b::l=>by
  have ih:=zkn (b::l);have e:riseB (a::b::l)=(HT.lexLt a b&&riseB (b::l)):=by simp[riseB]
  rw[e,xdj,ih];constructor
  ·rintro⟨h1,h2⟩;refine xer.mpr ⟨fun x hx=>?_,h2⟩;rcases xbn.mp hx with rfl | hx
   ·exact h1
   ·exact Srt.zdw h1 ((xer.mp h2).1 x hx)
  ·intro h;obtain⟨h1,h2⟩:=xer.mp h;exact⟨h1 b xbz,h2⟩
theorem zgj:∀a b:List (List Int),pairsF (aJ a) (aJ b)=(a.zip b).map fun p=>.tup [aL p.1,aL p.2]
 | [],b=>by simp[pairsF]
 | _::_,[]=>by simp[pairsF]
 | x::a,y::b=>by
  rw[xjs,xbx,← zgj a b]
  rfl
theorem zzf {a b:List Int}{st:Store}:oLtT (aL a) (aL b) st=.ok (.bl (HT.lexLt a b)) st:=by
 show(match asInts (a.map D.int),asInts (b.map D.int) with
  | some ns,some ms=>Res.ok (D.bl (HT.lexLt ns ms)) st
  | _,_=>Res.stuck)=_
 rw[zce,zce]
theorem zqj {l:List (List Int)}{st:Store}{Q:List D->Store->Prop}(q:Q ((l.zip (l.drop 1)).map fun p=>.bl (HT.lexLt p.1 p.2)) st) :
  WP (compF (gT 2 (gsCons (gN 0) (gsCons (gN 1) gsNil))) aI (aR oLtT (aA 0) (aA 1)) (pairsF (aJ l) (cutD (aJ l) (some 1) none)) [none,none] st) Q:=by
 have e:cutD (aJ l) (some 1) none=aJ (l.drop 1):=by
  have:=zoy (aJ l) 1;rw[show((1:Nat):Int)=1 from rfl] at this;rw[this,aJ,aJ,List.map_drop]
 rw[e,zgj];refine zjc (as:=l.zip (l.drop 1)) (fun σ=>∃v w,σ=[v,w]) (fun _=>true) (fun p=>.bl (HT.lexLt p.1 p.2)) (fun p=>.tup [aL p.1,aL p.2]) ⟨_,_,rfl⟩ ?_ (by rw[zdf];exact q);rintro p hp σ ⟨v,w,rfl⟩;refine⟨_,rfl,⟨_,_,rfl⟩,by simp only[W,xix],fun _=>?_⟩;simp only[W,V];exact WP.of zzf ⟨rfl,rfl⟩
section
variable {st:Store}{n:Nat}{Q:D->Store->Prop}
theorem zvk {a b:Int}{p:Prop}[Decidable p]{st:Store}{Q:D->Store->Prop}(q:Q (.int (if p then b else a)) st):WP (oIx (.lst [.int a,.int b]) (.int (if p then 1 else 0)) st) Q:=by
 by_cases h:p
 ·simp only[h,xew] at q ⊢;exact zbbx (xs:=[.int a,.int b]) rfl rfl q
 ·simp only[h,xfq] at q ⊢;exact zbbx (xs:=[.int a,.int b]) rfl rfl q
end
inductive Pl (k:Nat):D->Prop
 | non:Pl k .non
 | bl (b:Bool):Pl k (.bl b)
 | int (i:Int):Pl k (.int i)
 | str (x:Str):Pl k (.str x)
 | tup {ds:List D} (h:∀d∈ds,Pl k d) (hl:ds.length<=k):Pl k (.tup ds)
 | lst {ds:List D} (h:∀d∈ds,Pl k d) (hl:ds.length<=k):Pl k (.lst ds)
noncomputable def isTupB:D->Bool
 | .tup _=>true
 | _=>false
noncomputable def wholeB:D->Bool
 | .int _=>true
 | _=>false
section
variable {k:Nat}{d:D}{st:Store}
theorem zss (h:Pl k d):bIsinst [d, .ty "tuple"] st=.ok (.bl (isTupB d)) st:=by
 cases h<;>rfl
theorem zmn (h:Pl k d):zee [d] st=.ok (.bl (wholeB d)) st:=by
 cases h<;>rfl
end
section
variable {k:Nat}{d:D}{st:Store}{Q:D->Store->Prop}
end
noncomputable def asRowsT (ds:List D):List (List Int):=(asRows ds).getD []
theorem zfx (l:List (List Int)):asRowsT (aJ l)=l:=by unfold asRowsT;rw[zpk];rfl
section
variable {k:Nat}{d:D}{st:Store}{Q:D->Store->Prop}
theorem zju {l:List (List Int)}(hl:l.length<=1000)(q:Q (.bl (riseB l)) st):WP (zdh [aK l] st) Q:=by
 refine zex rfl ?_;simp only[W,V,M];refine⟨1,rfl,.inl ⟨_,rfl,?_⟩⟩;refine⟨_,_,rfl,by rw[zcg,zn];exact small _ (by lia),zqj ?_⟩;refine⟨_,zdg _ _,?_⟩;rw[List.all_map];exact q
theorem zwv {bd:SG}{c:ST}{f:SE}{ds:List D}{σ:DS}{R:List D->Store->Prop}(h:WP (compF bd c f (ds.map id) σ st) R):WP (compF bd c f ds σ st) R:=by
 rw[List.map_id] at h;exact h
end
theorem zcy {s t:SS}{σ:DS}{st:Store}{Q R:Fl->Store->Prop}(h:WP (s σ st) R)(k:∀fl s',R fl s'->seqK t Q fl s'):WP (aD s t σ st) Q:=by
 rw[ztt];exact h.mono k
noncomputable def FewU (l:List (List Int)):Prop:=∀ks:List (List Int),ks.Nodup->(∀x∈ks,x∈l)->ks.length<=1000000
theorem FewU.of {l U:List (List Int)}(h:∀x∈l,x∈U)(hU:U.length<=1000000):FewU l:=fun ks nd hk=>xbc (List.Nodup.length_le_of_subset nd fun x hx=>h x (hk x hx)) hU
theorem zrk {l:List (List Int)}(h:l.length<=1000000):FewU l:=FewU.of (fun x hx=>hx) h
section
variable {st:Store}{n:Nat}{Q:D->Store->Prop}
theorem zyu {x:D}{l:List (List Int)}(hx:seqV x=some (aJ l))(hl:FewU l)(k:∀g,Q (aK (aO l)) (st++g)):WP (zbb [x] st) Q:=by
 have cf:∀{cs:List (List Int×Int)} {i:Nat},Cnt cs (l.take i)->cs.length<=1000000:=fun {cs i} hc=>by
  have:=hl (cs.map (·.1)) hc.nd fun z hz=>xjj ((hc.mem z).mp hz)
  rwa [xbd] at this
 have W:=zzo (bd:=gN 2) (body:=sDPut (aA 1) (aA 2) (aR aM (eDGet2 (aA 1) (aA 2) (eC (.int 0))) (eC (.int 1)))) (xs:=aJ l) (σ:=[some x,some (.ref st.length),none]) (st:=st++[.dT []])
  (fun i σ s=>∃(v:Option D) (cs:List (List Int×Int)),σ=[some x,some (.ref st.length),v]/\s=st++[.dT (cntD cs)]/\Cnt cs (l.take i)) ⟨none,[],rfl,rfl,⟨xhz,fun k=>by simp,fun p h=>(by cases h),by simp⟩⟩ (by
   rintro i y σ s hy ⟨v,cs,rfl,rfl,hc⟩;obtain⟨k,hk,rfl⟩:=zdq hy;obtain⟨cs',e1,hc'⟩:=zbbe hc k;have hn:(st++[O.dT (cntD cs)])[st.length]?=some (.dT (cntD cs)):=by simp
   have e2:(valD (cntD cs) k).getD (.int 0)=.int ((l.take i).count k:Nat):=by
    rw[zbbf hc];split
    ·rfl
    ·rename_i z;rw[xgy.mpr z];rfl
   have e3:=zku k;have e4:=zuu hn;have e5:(cntD cs).length < sizeLine:=by
    rw[xbd];exact smallT _ (cf hc)
   refine⟨_,[some x,some (.ref st.length),some (aL k)],st++[.dT (cntD cs')],rfl,?_,some (aL k),cs',rfl,rfl,by rw[zbp hk];exact hc'⟩;simp only[aL] at *
   simp only[zxk,zbhh,zvm,zbex,eC_v,gN,List.set_cons_succ,xjw,xif,List.getElem?_cons_zero,zdz,e4,e3,e2,zbdy,hn,e5,xew,e1]
   simp)
 obtain⟨σ',st',e,v,cs,rfl,rfl,hc⟩:=W;rw[zn] at hc;have hcl:=cf hc;rw[xek] at hc;have V:=zbbc (bd:=gN 0) (c:=eB (aR oEq (aR oMod (aR oDGet (aA 1) (aA 0)) (eC (.int 2))) (eC (.int 1)))) (f:=aA 0) (xs:=aJ (cs.map (·.1))) (σ:=[none,some (.ref st.length)]) (st:=st++[.fT (cntD cs)])
  (fun i acc σ s=>s=st++[.fT (cntD cs)]/\(∃w:Option D,σ=[w,some (.ref st.length)])/\acc=aJ (((cs.map (·.1)).take i).filter fun k=>decide (l.count k % 2=1))) ⟨rfl,⟨none,rfl⟩,rfl⟩ (by
   rintro i y acc σ s hy ⟨rfl,⟨w,rfl⟩,rfl⟩;obtain⟨k,hk,rfl⟩:=zdq hy;have hn:(st++[O.fT (cntD cs)])[st.length]?=some (.fT (cntD cs)):=by simp
   have hkl:k∈l:=(hc.mem k).mp (xcc hk);have e2:valD (cntD cs) k=some (.int (l.count k:Nat)):=by rw[zbbf hc,if_pos hkl]
   have e3:oDGet (.ref st.length) (aL k) (st++[O.fT (cntD cs)])=.ok (.int (l.count k:Nat)) _:=zuw (zut hn) e2;have e4:(((l.count k:Nat):Int) % 2=1)↔(l.count k % 2=1):=⟨fun h=>by lia,fun h=>by lia⟩
   refine⟨[some (aL k),some (.ref st.length)],decide (l.count k % 2=1),st++[.fT (cntD cs)],rfl,?_,?_⟩
   ·simp only[aL] at *
    simp[e3,e4]
   ·by_cases ho:l.count k % 2=1
    ·refine .inr ⟨xce ho,aL k,_,rfl,rfl,⟨_,rfl⟩,?_⟩;rw[zbp hk,xhx];simp[ho,aJ]
    ·refine .inl ⟨xbt ho,rfl,⟨_,rfl⟩,?_⟩;rw[zbp hk,xhx]
     simp[ho,aJ])
 obtain⟨ys,σ2,st2,e2,rfl,⟨w,rfl⟩,rfl⟩:=V;rw[zn,xek] at e2;refine WP.of (zon rfl ?_) (k [.fT (cntD cs)]);have nd:((cs.map (·.1)).filter fun k=>decide (l.count k % 2=1)).Nodup:=hc.nd.filter _;have mm:∀k,k∈((cs.map (·.1)).filter fun k=>decide (l.count k % 2=1))↔l.count k % 2=1:=fun k=>by
  rw[xje,hc.mem,xfb];constructor
  ·exact fun h=>h.2
  ·intro h;refine⟨?_,h⟩;rcases xka (l.count k) with z | z
   ·rw[z] at h;cases h
   ·exact List.count_pos_iff.mp z
 have e5:sortR ((cs.map (·.1)).filter fun k=>decide (l.count k % 2=1))=aO l:=zyv nd mm;have few:((cs.map (·.1)).filter fun k=>decide (l.count k % 2=1)).length<=1000000:=by
  have:=List.length_filter_le (fun k=>decide (l.count k % 2=1)) (cs.map (·.1));rw[xbd] at this;lia
 have e6:=zkc (st:=st++[.fT (cntD cs)]) few;rw[e5] at e6;have hlen:(aJ (cs.map (·.1))).length<=sizeLine:=by
  rw[zn,xbd];exact small _ hcl
 refine seqN (σ1:=[some x,some (.ref st.length),none]) (st1:=st++[.dT []]) (by simp) ?_;refine seqN (σ1:=[some x,some (.ref st.length),v]) (st1:=st++[.dT (cntD cs)]) (by simp[hx,e]) ?_;have e7:aG (iDict (aA 1)) 1 [1] (gN 0) (eB (aR oEq (aR oMod (aR oDGet (aA 1) (aA 0)) (eC (.int 2))) (eC (.int 1)))) (aA 0) [some x,some (.ref st.length),v] (st++[.dT (cntD cs)])
   = .ok (.lst (aJ ((cs.map (·.1)).filter fun k=>decide (l.count k % 2=1)))) (st++[.fT (cntD cs)]):=by
  rw[zsx];have e8:iDict (aA 1) [some x,some (.ref st.length),v] (st++[.dT (cntD cs)])=.ok (aJ (cs.map (·.1))) (st++[.fT (cntD cs)]):=by
   simp
  rw[e8,zdz,if_pos hlen];show(compF _ _ _ _ [none,some (.ref st.length)] _).bind _=_;rw[e2]
  rfl
 rw[zbcr,zsy,zpp,zsy,zpp,e7];simp only[zdz,zbgs,e6,zpf]
theorem zqs {x:D}{l:List (List Int)}(hx:seqV x=some (aJ l))(hl:l.length<=1000000)(k:∀g,Q (aK (aO l)) (st++g)):WP (zbb [x] st) Q:=zyu hx (zrk hl) k
end
theorem zsi:∀{l:List Int} {j:Nat} {a x:Int},l[j]?=some a->(l.set j x).sum=l.sum - a+x
 | [],_,_,_,h=>by cases h
 | b::l,0,a,x,h=>by
  have h':b=a:=by simpa using h
  subst h';rw[xjw,xhs,xhs];lia
 | b::l,j+1,a,x,h=>by
  have ih:=zsi (l:=l) (j:=j) (a:=a) (x:=x) (by simpa using h);rw[List.set_cons_succ,xhs,xhs,ih];lia
theorem zzk {n:Nat}{k:Int}(h0:0<=k)(h1:k < n):ixN n k=some k.toNat:=by
 unfold ixN;simp only[h0,h1,xix,xew]
section
variable {st:Store}{n:Nat}{Q:D->Store->Prop}
end
section
variable {k:Nat}{d:D}{st:Store}
end
section
variable {st:Store}{Q:D->Store->Prop}
end
noncomputable def natB:D->Bool
 | .int i=>decide (0<=i)
 | _=>false
noncomputable def prodB (m:Int):D->Bool
 | .tup ds=>decide ((ds.length:Int)=m)&&ds.all natB
 | _=>false
theorem zoa:∀{ds:List D},ds.all natB=true->∃r:List Int,ds=r.map .int
 | [],_=>⟨[],rfl⟩
 | d::ds,h=>by
  rw[List.all_cons,xdj] at h;obtain⟨r,rfl⟩:=zoa h.2;cases d with
  | int i=>exact⟨i::r,rfl⟩
  | _=>cases h.1
theorem zia {m:Int}:∀{ds:List D},ds.all (prodB m)=true->∃l:List (List Int),ds=aJ l
 | [],_=>⟨[],rfl⟩
 | d::ds,h=>by
  rw[List.all_cons,xdj] at h;obtain⟨l,rfl⟩:=zia h.2;cases d with
  | tup es =>
   have h1:=h.1;unfold prodB at h1;rw[xdj] at h1;obtain⟨r,rfl⟩:=zoa h1.2;exact⟨r::l,rfl⟩
  | _=>cases h.1
noncomputable def sumB (m:Int):D->Bool
 | .tup ds=>ds.all (prodB m)&&riseB (asRowsT ds)
 | _=>false
theorem znc (m:Int)(ds:List D):sumB m (.tup ds)=(ds.all (prodB m)&&riseB (asRowsT ds)):=rfl
section
variable {st:Store}{k:Nat}{d:D}{m:Int}{Q:D->Store->Prop}
theorem zik (h:Pl k d)(hk:k<=1000)(q:Q (.bl (prodB m d)) st):WP (zcv [.int m,d] st) Q:=by
 refine zex rfl ?_;simp only[W,V,Dd.N];refine WP.of (zss h) ?_;cases h with
 | tup hd hl =>
  rename_i ds;refine⟨true,rfl,?_⟩;simp only[W,V,Dd.N];have e:prodB m (.tup ds)=(decide ((ds.length:Int)=m)&&ds.all natB):=rfl;by_cases c:(ds.length:Int)=m
  ·rw[xce c] at e ⊢;rw[if_neg (by decide)];refine⟨small _ (by lia),zwv ?_⟩;refine zjc (as:=ds) (fun σ=>∃v,σ=[v]) (fun _=>true) (fun x=>.bl (natB x)) id ⟨_,rfl⟩ ?_ ?_
   ·rintro x hx σ ⟨v,rfl⟩;refine⟨_,rfl,⟨_,rfl⟩,by simp only[W,xix],fun _=>?_⟩;simp only[W,V];refine WP.of (zmn (hd x hx)) ?_;simp only[W];cases hd x hx<;>simp only[wholeB,natB,id,W,V,xix]
   ·rw[zdf];simp only[M,W,V];refine⟨_,zdg _ _,?_⟩;rw[List.all_map];rw[e,Bool.true_and] at q;exact q
  ·rw[xbt c] at e ⊢;rw[if_pos rfl];rw[e] at q;exact q
 | _=>exact⟨false,rfl,q⟩
theorem zok (h:Pl k d)(hk:k<=1000)(q:Q (.bl (sumB m d)) st):WP (zhq [.int m,d] st) Q:=by
 refine zex rfl ?_
 try simp only[W,V]
 refine WP.of (zss h) ?_;cases h with
 | tup hd hl =>
  rename_i ds;refine⟨true,rfl,?_⟩
  try simp only[W,V]
  refine⟨_,rfl,small _ (by lia),zwv ?_⟩;refine zjc (as:=ds) (fun σ=>∃v,σ=[v,some (.int m)]) (fun _=>true) (fun x=>.bl (prodB m x)) id ⟨_,rfl⟩ ?_ ?_
  ·rintro x hx σ ⟨v,rfl⟩;refine⟨_,rfl,⟨_,rfl⟩,by simp only[W,xix],fun _=>?_⟩
   try simp only[W,V]
   exact zik (hd x hx) hk ⟨rfl,rfl⟩
  ·rw[zdf];simp only[M,W,V];refine⟨_,zdg _ _,?_⟩;rw[List.all_map];show if(ds.all (prodB m))=true then _ else _
   cases hc:ds.all (prodB m) with
   | false =>
    rw[if_neg (by decide)];have e:sumB m (.tup ds)=false:=by rw[znc,hc];rfl
    rw[e] at q;exact q
   | true =>
    rw[if_pos rfl];obtain⟨l,rfl⟩:=zia hc;rw[znc,hc,zfx,Bool.true_and] at q;rw[zn] at hl;exact zju (by lia) q
 | _=>exact⟨false,rfl,q⟩
end
noncomputable def Sh (n:Nat) (d:D):Prop:=∃p,toData d=some p/\p.canLay0=true/\p.depth<=n
theorem Sh.int {n:Nat}{i:Int}:Sh n (.int i):=⟨_,rfl,rfl,xdg _⟩
theorem Sh.str {n:Nat}{x:Str}(h:(PyData.str x).canLay0=true):Sh n (.str x):=⟨_,rfl,h,xdg _⟩
theorem Sh.all {n:Nat}:∀{ds:List D},(∀d∈ds,Sh n d)->∃ps,toDatas ds=some ps/\PyData.canLayAll0 ps=true/\PyData.depthAll ps<=n
 | [],_=>⟨[],rfl,rfl,xdg _⟩
 | d::ds,h=>by
  obtain⟨p,e,h1,h2⟩:=h d (by simp);obtain⟨ps,es,h3,h4⟩:=Sh.all (ds:=ds) fun x hx=>h x (by simp[hx])
  refine⟨p::ps,by rw[toDatas,e,es];rfl,?_,?_⟩
  ·show(p.canLay0&&PyData.canLayAll0 ps)=true;rw[h1,h3];rfl
  ·show max p.depth (PyData.depthAll ps)<=n;lia
theorem Sh.tup {n:Nat}{ds:List D}(h:∀d∈ds,Sh n d):Sh (n+1) (.tup ds):=by
 obtain⟨ps,e,h1,h2⟩:=Sh.all h;exact⟨.tuple ps,by rw[toData,e];rfl,h1,xej h2⟩
theorem Sh.row {n:Nat}{r:List Int}:Sh (n+1) (aL r):=Sh.tup fun d hd=>by
 obtain⟨x,_,rfl⟩:=xdb.mp hd;exact .int
theorem Sh.sum {n:Nat}{l:List (List Int)}:Sh (n+2) (aK l):=Sh.tup fun d hd=>by
 obtain⟨x,_,rfl⟩:=xdb.mp (show d∈aJ l from hd);exact .row
theorem Sh.ok {d:D}{p:PyData}(e:toData d=some p)(h1:p.canLay0=true)(h2:p.depth<=64):PySem.SeqAt.shaped p=true/\PyData.eqv p p=true:=by
 refine⟨?_,PySem.SeqAt.eqv_refl p h1⟩;show(p.canLay0&&decide (p.depth<=64))=true;rw[h1,xce h2];rfl
theorem zes {neg:Bool}{x y d:D}{st:Store}(hx:now st x=d)(hy:now st y=d)(h:Sh 64 d):oEqG neg x y st=.ok (.bl (!neg)) st:=by
 obtain⟨p,e,h1,h2⟩:=h;obtain⟨s1,s2⟩:=Sh.ok e h1 h2;unfold oEqG dataOf;rw[hx,hy,e];dsimp only;rw[if_pos ⟨s1,s1⟩,s2];cases neg<;>rfl
theorem zif {c N:Int}(hN:1<=N):0<=c % N/\c % N < N:=⟨xgx _ (by lia),xjz _ (by lia)⟩
theorem zbeb {c N:Int}{i j:Nat}(hij:i < j)(hj:(j:Int) < N):(c+j) % N≠(c+i) % N:=fun e=>by
 have h:=Int.emod_eq_emod_iff_emod_sub_eq_zero.mp e;rw[show(c+j:Int) - (c+i)=j - i by lia,Int.emod_eq_of_lt (by lia) (by lia)] at h;lia
theorem zze {l:List Int}{j:Nat}{x y:Int}(h:y∈l.set j x):y∈l\/y=x:=List.mem_or_eq_of_mem_set h
section
variable {st:Store}{n:Nat}{Q:D->Store->Prop}
theorem zdd {N d:Int}(hb:BagAt st n)(hN:1<=N)(hN2:N<=1000)(hd:0<=d)(hd2:d<=1000)(k:∀r st',r.length=N.toNat->(∀x∈r,0<=x)->r.sum<=d->Drew st st' n->Q (aL r) st'):WP (zg [.ref n,.int N,.int d] st) Q:=by
 refine zex rfl ?_;simp only[W,V];refine zby hb (by lia) (by lia) fun l0 st1 h1 h2 d1=>?_
 refine zby d1.bag (by lia) (by lia) fun c st2 h3 h4 d2=>?_
 have D2:=d1.trans d2;refine⟨_,rfl,rngN (by lia) (by lia),by rw[zp];exact small _ (by lia),?_⟩;refine zcz (fun i acc σ s=>s=st2/\acc=(List.replicate i (0:Int)).map .int/\∃v,σ=[v]) ⟨rfl,rfl,_,rfl⟩ ?_ ?_
 ·rintro i x acc σ s hx ⟨rfl,rfl,v,rfl⟩;refine⟨_,rfl,?_⟩;simp only[W,V];refine⟨trivial,?_,_,rfl⟩;have:=List.replicate_succ' (n:=i) (a:=(0:Int));have e2:(List.replicate (i+1) (0:Int)).map D.int=(List.replicate i (0:Int)).map D.int++[D.int 0]:=by rw[this,xfp];rfl
  rw[← e2]
  rfl
 ·rintro ys σ s ⟨rfl,rfl,v,rfl⟩;rw[zp]
  try simp only[W,V]
  refine⟨trivial,_,rfl,rngN (by lia) (by lia),?_⟩;have hk:st.length<=s.length:=D2.len;have hkn:s.length≠n:=xfm (D2.lt hb.lt);have fill:∀(i:Nat) (r:List Int) (x left:Int),(i:Int) < N->r.length=N.toNat->(∀y∈r,0<=y)->r.sum+left=l0->(∀j:Nat,i<=j->(j:Int) < N->r[((c+j) % N).toNat]?=some 0)->0<=x ->
    (r.set ((c+i) % N).toNat x).length=N.toNat/\(∀y∈r.set ((c+i) % N).toNat x,0<=y)/\(r.set ((c+i) % N).toNat x).sum+(left - x)=l0/\∀j:Nat,i+1<=j->(j:Int) < N->(r.set ((c+i) % N).toNat x)[((c+j) % N).toNat]?=some 0:=fun i r x left hi a1 a2 a3 a4 hx=>by
   refine⟨by rw[xep];exact a1,fun y hy=>?_,?_,fun j hj hj2=>?_⟩
   ·rcases zze hy with z | z
    ·exact a2 y z
    ·rw[z];exact hx
   ·rw[zsi (a4 i (xbf _) hi)];lia
   ·have m1:=zif (c:=c+i) hN;have m2:=zif (c:=c+j) hN;have ne:=zbeb (c:=c) (N:=N) (i:=i) (j:=j) (by lia) hj2;rw[xcr (by lia)];exact a4 j (by lia) hj2
  refine zje (fun i σ s'=>∃(left:Int) (r:List Int) (v w:Option D), σ=[some (.ref n), some (.int N), some (.int d), some (.int left), some (.int c), some (.ref s.length), v, w]/\0<=left/\left<=d/\r.length=N.toNat/\(∀ x∈r, 0<=x)/\r.sum + left=l0/\(∀ j:Nat, i<=j->(j:Int) < N->r[((c + j) % N).toNat]?=some 0)/\Drew st s' n/\s'[s.length]?=some (.lst (r.map .int)))
   ⟨l0,List.replicate N.toNat 0,none,none,rfl,h1,by lia,by simp,by simp,by simp,fun j _ hj=>?_,D2.trans (.more D2.bag _),by simp⟩ ?_ ?_
  ·have m2:=zif (c:=c+j) hN;rw[xib,if_pos (by lia)]
  ·rintro i x σ s' hx ⟨left,r,v,w,rfl,a1,a2,a3,a4,a5,a6,a7,a8⟩;obtain⟨hi,rfl⟩:=zhz hx;refine⟨_,rfl,?_⟩;unfold zbx;simp only[W,V,M,Dd.N,L];rw[xjl];refine zby a7.bag (by lia) (by lia) fun y s2 b1 b2 e2=>?_
   have a8':s2[s.length]?=some (.lst (r.map .int)):=(e2.keep _ (zch a8) hkn).trans a8;have E2:=a7.trans e2;have m1:=zif (c:=c+i) hN
   try simp only[W,V,M,Dd.N,L]
   refine⟨by lia,_,_,_,_,rfl,rfl,a8',zzk (k:=(c+i) % N) m1.1 (by rw[xbd];lia),?_⟩;have hlt:=zch a8';obtain⟨f1,f2,f3,f4⟩:=fill i r y left (by lia) a3 a4 a5 a6 b1;refine⟨left - y,r.set ((c+i) % N).toNat y,_,_,rfl,by lia,by lia,f1,f2,f3,f4,E2.over hb.lt hk,?_⟩;rw[zhy hlt,List.map_set]
  ·rintro σ s' ⟨left,r,v,w,rfl,a1,a2,a3,a4,a5,a6,a7,a8⟩;rw[zp] at a6;have m1:=zif (c:=c+((N - 1).toNat:Nat)) hN;simp only[W,V,M,Dd.N];rw[show c+N - 1=c+((N - 1).toNat:Nat) by lia];refine⟨by lia,_,_,_,_,rfl,rfl,a8,zzk m1.1 (by rw[xbd];lia),?_⟩;have hlt:=zch a8;obtain⟨f1,f2,f3,f4⟩:=fill (N - 1).toNat r left left (by lia) a3 a4 a5 a6 a1;rw[← List.map_set];have e:bTuple [.ref s.length] (s'.set s.length (.lst ((r.set ((c+((N - 1).toNat:Nat)) % N).toNat left).map .int)))=.ok (aL (r.set ((c+((N - 1).toNat:Nat)) % N).toNat left)) (s'.set s.length (.lst ((r.set ((c+((N - 1).toNat:Nat)) % N).toNat left).map .int))):=zpe (zhy hlt);refine WP.of e ?_;exact k _ _ f1 f2 (by lia) (a7.over hb.lt hk)
theorem zwg (a:List Int)(b:Int):cutD ((a++[b]).map D.int) none (some (-1))=a.map D.int:=by
 unfold cutD;have l1:((a++[b]).map D.int).length=a.length+1:=by simp
 have e1:HT.sIx (a.length+1) 0 none=0:=rfl;have e2:HT.sIx (a.length+1) (a.length+1) (some (-1))=a.length:=by
  show(if(-1:Int) < 0 then((-1:Int)+((a.length+1:Nat):Int)).toNat else min (-1:Int).toNat (a.length+1))=_;rw[if_pos (by decide)];lia
 rw[l1,e1,e2];simp
theorem zzq {r:List Int}{t:Int}{v:List (Option D)}(h0:r≠[])(hl:r.length<=1000)(hp:∀x∈r,0<=x)(ht:r.sum<=t)(k:∀r',r'.length=r.length->(∀x∈r',0<=x)->r'.sum=t->Q (aL r') st) :
  WP (aR aM (eSl (aA 0) pNone (pSome (eUn oNeg (eC (.int 1))))) (aQ (aB (aR oSub (aR aM (aR oIx (aA 0) (eUn oNeg (eC (.int 1)))) (aA 1)) (aE bSum (aB (aA 0) aC))) aC)) (some (aL r)::some (.int t)::v) st) Q:=by
 obtain⟨a,b,rfl⟩:∃a b,r=a++[b]:=⟨r.dropLast,r.getLast h0,(List.dropLast_concat_getLast h0).symm⟩
 simp only[W,V,M,Dd.N];rw[zwg];have e2:oIx (aL (a++[b])) (.int (-1)) st=.ok (.int b) st:=zmj rfl (by rw[xfp];exact zwm _ _);refine WP.of e2 ?_
 try simp only[W,V,M]
 refine⟨_,zce (a++[b]),trivial,small _ (by simp),by rw[xbd];exact small _ (by simp at hl ⊢;lia),?_⟩;have hb:0<=b:=hp b (by simp);have:=k (a++[b+t - (a++[b]).sum]) (by simp) (zva (fun x hx=>hp x (by simp[hx])) (by lia)) (by simp;lia);rw[aL,xfp] at this;exact this
theorem zfo {l:List (List Int)}{r:List Int}{P:List Int->Prop}(h:∀x∈l,P x)(hr:P r):∀x∈l++[r],P x:=fun x hx=>by
 rcases xbs.mp hx with hx | hx
 ·exact h x hx
 ·simp at hx;subst hx;exact hr
theorem zlw {N d c:Int}(hb:BagAt st n)(hN:1<=N)(hN2:N<=1000)(hd:0<=d)(hd2:d<=1000)(hc:0<=c)(hc2:c<=1000){Q:List D->Store->Prop}
  (k:∀l st',(l.length:Int)=c->(∀r∈l,r.length=N.toNat/\(∀x∈r,0<=x)/\r.sum<=d)->Drew st st' n->Q (aJ l) st') :
  WP (compF (gN 0) aI (aE zg (aB (aA 1) (aB (aA 2) (aB (aA 3) aC)))) (rng 0 c.toNat) [none,some (.ref n),some (.int N),some (.int d)] st) Q:=by
 refine zcz (fun i acc σ s=>∃(l:List (List Int)) (v:Option D),acc=aJ l/\l.length=i/\(∀r∈l,r.length=N.toNat/\(∀x∈r,0<=x)/\r.sum<=d)/\σ=[v,some (.ref n),some (.int N),some (.int d)]/\Drew st s n) ⟨[],none,rfl,rfl,by simp,rfl,.refl hb⟩ ?_ ?_
 ·rintro i x acc σ s hx ⟨l,v,rfl,a1,a2,rfl,a3⟩;refine⟨_,rfl,?_⟩;simp only[W,V];exact zdd a3.bag hN hN2 hd hd2 fun r s2 b1 b2 b3 b4=>⟨l++[r],_,by simp[aJ],by simp[a1],zfo a2 ⟨b1,b2,b3⟩,rfl,a3.trans b4⟩
 ·rintro ys σ s ⟨l,v,rfl,a1,a2,rfl,a3⟩;rw[zp] at a1;exact k l s (by lia) a2 a3
theorem ziq {l:List (List Int)}{t:Int}{m:Nat}(hm:1<=m)(hm2:m<=1000)(h:∀r∈l,r.length=m/\(∀x∈r,0<=x)/\r.sum<=t){Q:List D->Store->Prop}
  (k:∀l',l'.length=l.length->(∀r∈l',r.length=m/\(∀x∈r,0<=x)/\r.sum=t)->Q (aJ l') st) :
  WP (compF (gN 0) aI (aR aM (eSl (aA 0) pNone (pSome (eUn oNeg (eC (.int 1))))) (aQ (aB (aR oSub (aR aM (aR oIx (aA 0) (eUn oNeg (eC (.int 1)))) (aA 1)) (aE bSum (aB (aA 0) aC))) aC))) (aJ l) [none,some (.int t)] st) Q:=by
 refine zcz (fun i acc σ s=>∃(l':List (List Int)) (v:Option D),acc=aJ l'/\l'.length=i/\(∀r∈l',r.length=m/\(∀x∈r,0<=x)/\r.sum=t)/\σ=[v,some (.int t)]/\s=st) ⟨[],none,rfl,rfl,by simp,rfl,rfl⟩ ?_ ?_
 ·rintro i x acc σ s hx ⟨l',v,rfl,a1,a2,rfl,rfl⟩;obtain⟨r,hr,rfl⟩:=zdq hx;obtain⟨p1,p2,p3⟩:=h r (xcc hr);refine⟨_,rfl,?_⟩;rw[show ∀{σ:DS} {st:Store} {Q:Bool->Store->Prop},WP (aI σ st) Q=Q true st from fun {σ st Q}=>rfl,if_pos rfl];refine zzq (by rintro rfl;simp at p1;lia) (by lia) p2 p3 fun r' q1 q2 q3=>⟨l'++[r'],_,by simp[aJ],by simp[a1],zfo a2 ⟨by lia,q2,q3⟩,rfl,rfl⟩
 ·rintro ys σ s ⟨l',v,rfl,a1,a2,rfl,rfl⟩;rw[zn] at a1;exact k l' a1 a2
theorem zis {N:Int}(hb:BagAt st n)(hN:1<=N)(hN2:N<=1000)(k:∀l st',l.length<=40->SumOk N.toNat l->(∀r∈l,r.sum<=if 3 < N then 10 else 24)->Drew st st' n->Q (aK l) st'):WP (zbv [.ref n,.int N] st) Q:=by
 refine zex rfl ?_;simp only[W,V];refine⟨small _ (by simp),trivial,zvk ?_⟩;have hD:(0:Int)<=(if 3 < N then 10 else 24)/\(if 3 < N then(10:Int) else 24)<=1000:=by split<;>lia
 generalize hdd:(if 3 < N then(10:Int) else 24)=d at hD k ⊢;refine zby hb (by lia) (by lia) fun c0 st1 a1 a2 d1=>?_
 refine zby d1.bag (by lia) (by lia) fun t st2 b1 b2 d2=>?_
 have D2:=d1.trans d2
 have main:∀(c:Int) (s:Store),0<=c->c<=40->Drew st s n->WP (aD (aF 4 (aG (iR1 (aB (aA 3) aC)) 1 [0,1,2] (gN 0) aI (aE zg (aB (aA 1) (aB (aA 2) (aB (aA 3) aC))))))
 (aD (sIf (bAnd (eB (aR oEq (aE zc (aB (aA 0) (aB (eC (.int 2)) aC))) (eC (.int 1)))) (eB (aR oGt (aA 3) (eC (.int 0))))) (aD (aF 5 (aE (bBest true) (aB (aG (aH (aA 4)) 1 [] (gN 0) aI (aE bSum (aB (aA 0) aC))) aC)))
 (aF 4 (aG (aH (aA 4)) 1 [5] (gN 0) aI (aR aM (eSl (aA 0) pNone (pSome (eUn oNeg (eC (.int 1))))) (aQ (aB (aR oSub (aR aM (aR oIx (aA 0) (eUn oNeg (eC (.int 1)))) (aA 1)) (aE bSum (aB (aA 0) aC))) aC)))))) sNx)
 (sRet (aE zbb (aB (aA 4) aC)))) [some (.ref n),some (.int N),some (.int d),some (.int c),none,none] s) (retK Q):=fun c s hc hc2 hs=>by
  rw[ztt];simp only[W,V,Dd.N];refine⟨rngN (by lia) (by lia),by rw[zp];exact small _ (by lia),?_⟩;refine zlw hs.bag hN hN2 hD.1 hD.2 hc (by lia) fun l s2 e1 e2 e3=>?_
  have D3:=hs.trans e3;have fin:∀(l:List (List Int)) (v:Option D) (s:Store),l.length<=40->(∀r∈l,r.length=N.toNat/\(∀x∈r,0<=x)/\r.sum<=d)->Drew st s n->WP (sRet (aE zbb (aB (aA 4) aC)) [some (.ref n),some (.int N),some (.int d),some (.int c),some (.lst (aJ l)),v] s) (retK Q):=fun l v s hl h hs=>by
   simp only[W,V];refine zqs (l:=l) rfl (by lia) fun g=>k _ _ (by have:=zek l;lia) (zkk fun r hr=>⟨(h r hr).1,(h r hr).2.1⟩) (fun r hr=>(h r (zfn hr)).2.2) (hs.trans (.more hs.bag g))
  try simp only[W,V]
  refine zby D3.bag (by lia) (by lia) fun t s3 f1 f2 f3=>?_
  have D4:=D3.trans f3
  try simp only[W,V]
  split
  ·try simp only[W,V,Dd.N]
   split
   ·rename_i hpos
    try simp only[W,V,Dd.N]
    refine⟨by rw[zn];exact small _ (by lia),?_⟩;refine zjc (as:=l) (fun σ=>∃v,σ=[v]) (fun _=>true) (fun r=>.int r.sum) aL ⟨_,rfl⟩ ?_ ?_
    ·rintro r hr σ ⟨v,rfl⟩;refine⟨_,rfl,⟨_,rfl⟩,by simp only[W,xix],fun _=>?_⟩;simp only[W,V,M];exact⟨r,zce r,trivial,rfl⟩
    ·rw[zdf];simp only[W,V,M,Dd.N];cases l with
     | nil=>simp at e1;lia
     | cons r0 l =>
      refine⟨r0.sum,l.map List.sum,?_,?_⟩
      ·have:=zce ((r0::l).map List.sum);rw[xdn] at this;exact this
      ·refine⟨by rw[zn];exact small _ (by lia),?_⟩;have topm:=(zho (l.map List.sum) r0.sum).1;have top:=(zho (l.map List.sum) r0.sum).2;have td:bestI true r0.sum (l.map List.sum)<=d:=by
        rcases xbn.mp topm with z | z
        ·rw[z];exact(e2 r0 xbz).2.2
        ·obtain⟨r,hr,z⟩:=xdb.mp z;rw[← z];exact(e2 r (xca _ hr)).2.2
       generalize bestI true r0.sum (l.map List.sum)=t at top td ⊢;refine ziq (m:=N.toNat) (by lia) (by lia) (fun r hr=>?_) fun l' g1 g2=>?_
       ·obtain⟨p1,p2,p3⟩:=e2 r hr
        exact⟨p1,p2,top _ (by
         rcases xbn.mp hr with rfl | hr
         ·exact xbz
         ·exact xca _ (List.mem_map_of_mem hr))⟩
       ·have:=fin l' (some (.int t)) s3 (by lia) (fun r hr=>⟨(g2 r hr).1,(g2 r hr).2.1,by rw[(g2 r hr).2.2];exact td⟩) D4;simp only[W,V] at this;exact this
   ·have:=fin l none s3 (by lia) e2 D4;simp only[W,V] at this;exact this
  ·have:=fin l none s3 (by lia) e2 D4;simp only[W,V] at this;exact this
 try simp only[W,V]
 split
 ·refine⟨small _ (by simp),trivial,zvk ?_⟩;have hM:(1:Int)<=(if 3 < N then 9 else 41)/\(if 3 < N then(9:Int) else 41)<=41:=by split<;>lia
  generalize (if 3 < N then(9:Int) else 41)=M at hM ⊢;refine zby D2.bag hM.1 (by lia) fun c s3 f1 f2 f3=>?_
  have:=main c s3 f1 (by lia) (D2.trans f3)
  try simp only[W,V]
  simp only[W,V] at this;exact this
 ·have:=main c0 st2 a1 (by lia) D2;simp only[W,V] at this;exact this
end
end Dd
namespace K03
end K03
namespace K13
open PySem PyProof.Rows
end K13
namespace Dd
open PySem L2 K13
theorem zts {c:ST}{body:SS}{Q:Fl->Store->Prop}(I:Nat->DS->Store->Prop){k:Nat}{σ:DS}{st:Store}(h0:I k σ st)(hm:k < 1000000)
  (s:∀j σ st,I j σ st->WP (c σ st) (fun b st1=>if b=true then WP (body σ st1) (loopK (fun σ2 st2=>∃i,i < j/\I i σ2 st2) Q) else Q (.nx σ) st1)):WP (sWhile c body σ st) Q:=by
 have main:∀n j σ st,I j σ st->j < n->WP (whileF c body n σ st) Q:=by
  intro n
  induction n with
  | zero=>intro j σ st _ h;lia
  | succ n ih =>
   intro j σ st hI hlt;obtain⟨b,st1,e1,w⟩:=(s j σ st hI).get;unfold whileF;rw[e1];dsimp only[zdz];cases b with
   | false=>exact w
   | true =>
    rw[if_pos rfl] at w ⊢;obtain⟨fl,st2,e2,w⟩:=w.get;rw[e2];cases fl with
    | nx σ2=>obtain⟨i,hi,h⟩:=w;exact ih i σ2 st2 h (by lia)
    | ct σ2=>obtain⟨i,hi,h⟩:=w;exact ih i σ2 st2 h (by lia)
    | brk σ2=>exact w
    | ret v=>exact w
 exact main wCap k σ st h0 hm
section
variable {st:Store}{n:Nat}{Q:D->Store->Prop}
end
end Dd
namespace Dd
open PySem L2
section
variable {st:Store}{Q:D->Store->Prop}
end
section
variable {st:Store}{k:Nat}{d:D}{Q:D->Store->Prop}
end
end Dd
namespace Dd
open PySem L2 K13
section
variable {st:Store}{n:Nat}{Q:D->Store->Prop}
end
theorem zyy:∀{r:List Int},(∀x∈r,0<=x)->0<=r.sum
 | [],_=>by simp
 | x::r,h=>by
  have:=zyy (r:=r) fun y hy=>h y (xca _ hy)
  have:=h x xbz;rw[xhs];lia
theorem zbea:∀{r:List Int},(∀x∈r,0<=x)->∀x∈r,x<=r.sum
 | [],_,_,h=>nomatch h
 | y::r,h,x,hx=>by
  have h1:=fun z hz=>h z (xca y hz)
  have h2:=zyy h1;have h3:=h y xbz;rw[xhs];rcases xbn.mp hx with rfl | hx
  ·lia
  ·have:=zbea h1 x hx;lia
section
variable {st:Store}{n:Nat}{Q:D->Store->Prop}
end
end Dd
namespace K13
end K13
namespace Dd
open PySem L2 K13
section
variable {st:Store}{n:Nat}{Q:D->Store->Prop}
end
section
variable {st:Store}{n:Nat}{Q:D->Store->Prop}
end
end Dd
namespace K08
end K08
namespace Dd
open PySem L2 K13
section
variable {st:Store}{n:Nat}{Q:D->Store->Prop}
end
section
variable {st:Store}{n:Nat}{Q:D->Store->Prop}
end
section
variable {st:Store}{n:Nat}{Q:D->Store->Prop}
end
section
variable {n K:Nat}{some:List Row}
end
section
variable {st:Store}{Q:D->Store->Prop}{n K:Nat}{some:List Row}
end
section
variable {st:Store}{Q:D->Store->Prop}
end
section
variable {st:Store}{n:Nat}{Q:D->Store->Prop}
end
end Dd
namespace K16
end K16
namespace Dd
open PySem L2
section
open Builtin Builtin.Str StrLaws
theorem zda {x y:Str}(h:x.cps.toList=y.cps.toList):x=y:=Str.ext' (Array.toList_inj.mp h)
theorem zco (x:Str):x.cps.toList.length=x.length:=by simp[Str.length]
theorem ztl {x y:Str}{i:Nat}:StrLaws.At x y x.length i↔i+y.length<=x.length/\(x.cps.toList.drop i).take y.length=y.cps.toList:=by
 unfold StrLaws.At;rw[subAt_eq];exact⟨fun h=>⟨h.1,eq_of_beq h.2⟩,fun h=>⟨h.1,by rw[h.2];exact xfx _⟩⟩
theorem zph {x sep:Str}{s0:Nat}{tl:List Nat}(hs:sep.cps.toList=s0::tl){k:Nat}(h:StrLaws.At x sep x.length k):x.cps.toList[k]?=some s0:=by
 have h2:=(ztl.mp h).2;have:((x.cps.toList.drop k).take sep.length)[0]?=some s0:=by rw[h2,hs];rfl
 rw[xjv,xds] at this;split at this
 ·exact this
 ·cases this
theorem zfr (sep p q:Str)(r:List Str):(Str.join sep (p::q::r)).cps.toList=p.cps.toList++(sep.cps.toList++(Str.join sep (q::r)).cps.toList):=by
 show(p++sep++Str.join sep (q::r)).cps.toList=_;simp only[xhk,xcl,xcn]
theorem zib {x sep:Str}{s0:Nat}{tl:List Nat}(hs:sep.cps.toList=s0::tl):∀(ts:List Str) (a f:Nat) (cuts:List Nat),ts≠[]->(∀t∈ts,s0∉t.cps.toList)->x.cps.toList.drop a=(Str.join sep ts).cps.toList->a<=x.length ->
  ChainG x sep x.length a cuts f->(∀k,f<=k->¬ StrLaws.At x sep x.length k)->partsFrom x sep.length a cuts=ts
 | [],_,_,_,h,_,_,_,_,_=>absurd rfl h
 | [p],a,f,cuts,_,hf,hd,ha,hc,hn=>by
  have no:∀k,a<=k->¬ StrLaws.At x sep x.length k:=fun k hk h=>by
   have g:=zph hs h;have:(x.cps.toList.drop a)[k - a]?=some s0:=by rw[xds,show a+(k - a)=k by lia];exact g
   rw[hd] at this;exact hf p (by simp) (xcc this)
  cases cuts with
  | cons c r=>exact absurd hc.2.1 (no c hc.1)
  | nil =>
   show[strSub x a x.length]=[p]
   congr 1
   refine zda ?_;rw[strSub_toList,xel (by rw[xde,zco];exact xbf _),hd]
   rfl
 | p::q::r,a,f,cuts,_,hf,hd,ha,hc,hn=>by
  rw[zfr] at hd;have hp:=zco p;have hsl:=zco sep;have hx:=zco x;have dl:=congrArg List.length hd;rw[xde,xbp,xbp,hx,hp,hsl] at dl;have d2:x.cps.toList.drop (a+p.length)=sep.cps.toList++(Str.join sep (q::r)).cps.toList:=by
   rw[← xhg,hd,← hp,xkw]
  have d3:x.cps.toList.drop (a+p.length+sep.length)=(Str.join sep (q::r)).cps.toList:=by
   rw[← xhg,d2,← hsl,xkw]
  have yes:StrLaws.At x sep x.length (a+p.length):=ztl.mpr ⟨by lia,by rw[d2,← hsl,List.take_left]⟩;cases cuts with
  | nil=>exact absurd yes (hn _ (by have:f=a:=hc;lia))
  | cons c cs =>
   obtain⟨ac,Ac,nc,rest⟩:=hc;have c1:c<=a+p.length:=by
    rcases xfe (a+p.length) c with z | z
    ·exact absurd yes (nc _ (by lia) z)
    ·exact z
   have c2:a+p.length<=c:=by
    rcases xfe c (a+p.length) with z | z
    ·exfalso
     have g:=zph hs Ac;have:(x.cps.toList.drop a)[c - a]?=some s0:=by rw[xds,show a+(c - a)=c by lia];exact g
     rw[hd,xbv (by rw[hp];lia)] at this;exact hf p (by simp) (xcc this)
    ·exact z
   obtain rfl:c=a+p.length:=by lia
   show strSub x a (a+p.length)::partsFrom x sep.length (a+p.length+sep.length) cs=_;rw[zib hs (q::r) (a+p.length+sep.length) f cs (by simp) (fun t ht=>hf t (xca _ ht)) d3 (by lia) rest hn]
   congr 1
   refine zda ?_;rw[strSub_toList,hd,show a+p.length - a=p.length by lia,← hp,List.take_left]
theorem znf {sep:Str}{s0:Nat}{tl:List Nat}(hs:sep.cps.toList=s0::tl)(hk:PySem.Builtin.Str.strKind sep=1){ts:List Str}(ne:ts≠[])(hf:∀t∈ts,s0∉t.cps.toList):Txt.split (Txt.join sep ts) sep=ts:=by
 have ej:Txt.join sep ts=Str.join sep ts:=glued_eq_join _ _;rw[ej];have sl:1<=sep.length:=by rw[← zco,hs];simp
 obtain⟨f,hG,hn⟩:=occ_tight (Str.join sep ts) sep sl;have pj:=zib hs ts 0 f _ ne hf rfl (xdg _) hG hn;unfold Txt.split;split
 ·rename_i hc;rw[xku,xfb,xfb] at hc
  match ts,ne with
  | [p],_=>rfl
  | p::q::r,_ =>
   exfalso
   rcases hc with h | h
   ·have:=congrArg List.length (zfr sep p q r);rw[xbp,xbp,zco,zco,zco] at this;lia
   ·rw[hk] at h;unfold PySem.Builtin.Str.strKind at h;split at h
    ·lia
    ·split at h<;>lia
 ·split
  ·rename_i he;have e0:occurrences (Str.join sep ts) sep 0 (Str.join sep ts).length ((Str.join sep ts).length+1)=[]:=by simpa using he
   rw[e0] at pj;rw[← pj];show _=[strSub _ _ _]
   rw[sub_whole];exact congrArg (fun z=>[z]) (congrArg (Str.join sep) pj)
  ·rw[partsBetween_eq];exact pj
end
section
variable {st:Store}{Q:D->Store->Prop}
noncomputable def tx (i:Int):Str:=(toString i:String)
theorem zux:(List.range 100).all (fun n=>decide (numS (tx (n:Int))=some n/\1<=(tx (n:Int)).length/\(tx (n:Int)).length<=2)&&(tx (n:Int)).cps.toList.all fun c=>decide (48<=c/\c < 58))=true:=by decide +kernel
structure Fig (z:Str):Prop where
 few:z.length<=2
 some:1<=z.length
 all:∀c∈z.cps.toList,48<=c/\c < 58
theorem zbcg {i:Int}(h0:0<=i)(h1:i < 100):Fig (tx i)/\numS (tx i)=some i.toNat:=by
 obtain⟨n,rfl⟩:=xig h0;have h:=xdf.mp zux n (xfh.mpr (by lia));rw[xdj,xfb,xdf] at h;exact⟨⟨h.1.2.2,h.1.2.1,fun c hc=>xfa (h.2 c hc)⟩,h.1.1⟩
theorem figs:("0123456789" : Str).cps.toList=[48, 49, 50, 51, 52, 53, 54, 55, 56, 57]:=by decide +kernel
theorem zzs {c:Nat}(h:48<=c/\c < 58):(Builtin.Str.occurrences ("0123456789" : Str) ⟨#[c]⟩ 0 ("0123456789" : Str).length 1).isEmpty=false:=by
 have:=StrLaws.found_one ("0123456789" : Str) c
 rw[figs,xce (by simp;lia)] at this
 simpa using this
theorem zoo {z:Str}(h:Fig z)(q:Q (.str z) st):WP (zu [.str z] st) Q:=by
 refine zex rfl ?_;simp only[W,V];have asc:(z.cps.all fun x=>decide (x < 128))=true:=by
  rw[← xiu,xdf];exact fun c hc=>xce (by have:=(h.all c hc).2;lia)
 have it:iTxt (aA 0) [some (.str z), some (.str ""), none] st=.ok (signs z) st:=by
  show(if(z.cps.all fun x=>decide (x < 128))=true then _ else _)=_;rw[if_pos asc]
 refine WP.of it ?_;refine zje (fun i σ s=>s=st/\∃v,σ=[some (.str z),some (.str ⟨(z.cps.toList.take i).toArray⟩),v]) ⟨rfl,_,rfl⟩ ?_ ?_
 ·rintro i x σ s hx ⟨rfl,v,rfl⟩;unfold signs at hx;rw[xcm,xch] at hx;obtain⟨c,hc,rfl⟩:=hx;have hm:=h.all c (xcc hc);refine⟨_,rfl,?_⟩;unfold zbt;simp only[W,V];have ei:oInS true (.str ⟨#[c]⟩) (.str ("0123456789" : Str)) s=.ok (.bl false) s:=by
   show Res.ok (D.bl (!(!(Builtin.Str.occurrences ("0123456789" : Str) ⟨#[c]⟩ 0 ("0123456789" : Str).length 1).isEmpty))) s=_
   rw[zzs hm];rfl
  refine WP.of ei ?_;dsimp only[bK];rw[if_neg (by decide)];simp only[M,W,V];have hi:=(xbk.mp hc).1;have hz:=zco z;have hfew:=h.few;have el:(⟨(z.cps.toList.take i).toArray⟩:Str).length=i:=by rw[← zco];show(List.take i z.cps.toList).length=i;rw[xdl];lia
  have ea:oAddS (.str ⟨(z.cps.toList.take i).toArray⟩) (.str ⟨#[c]⟩) s=.ok (.str ⟨(z.cps.toList.take (i+1)).toArray⟩) s:=by
   show(if(⟨(z.cps.toList.take i).toArray⟩:Str).length+(⟨#[c]⟩:Str).length<=sizeLine then Res.ok (D.str (⟨(z.cps.toList.take i).toArray⟩++⟨#[c]⟩:Str)) s else .stuck)=_;rw[if_pos (by rw[el];exact small _ (by show i+1<=_;lia))]
   congr 2
   refine zda ?_;rw[xhk,xcl,zbp hc]
  refine⟨_,rfl,WP.of ea ?_⟩;simp only[L];exact⟨trivial,_,rfl⟩
 ·rintro σ s ⟨rfl,v,rfl⟩;simp only[W,V];have e:(⟨(z.cps.toList.take (signs z).length).toArray⟩:Str)=z:=by
   refine zda ?_;unfold signs;rw[xbd,xek]
  rw[e];exact q
noncomputable def Asc (z:Str):Prop:=∀c∈z.cps.toList,c < 128
theorem Fig.asc {z:Str}(h:Fig z):Asc z:=fun c hc=>by have:=(h.all c hc).2;lia
theorem shS {n:Nat}{x:Str}(h:Asc x):Sh n (.str x):=Sh.str (by
 show(x.cps.all (· < 0x110000))=true;rw[← xiu,xdf]
 exact fun c hc=>xce (by have:=h c hc;lia))
theorem ztu {g g':D->D->Store->Res D}{f f' f'':SE}{σ:DS}(h:WP (f σ st) (fun x s1=>WP (f' σ s1) (fun y s2=>WP (g x y s2) (fun z s3=>z=.bl true/\WP (f'' σ s3) (fun w s4=>WP (g' y w s4) Q))))):WP (eChain g g' f f' f'' σ st) Q:=by
 unfold eChain;rw[zf];refine h.mono fun x s1 h=>?_
 rw[zf];refine h.mono fun y s2 h=>?_
 rw[zf];refine h.mono fun z s3 h=>?_
 obtain⟨rfl,h⟩:=h;rw[zf];exact h
theorem zgx {i:Int}(h0:0<=i)(h1:i < 100)(q:Q (.int i) st):WP (zcj [.str (tx i)] st) Q:=by
 obtain⟨fg,hn⟩:=zbcg h0 h1;have hf:=fg.few;have hs:=fg.some;refine zex rfl ?_;simp only[W,V];have el:bLenS [.str (tx i)] st=.ok (.int ((tx i).length:Int)) st:=by
  show(if(tx i).length<=sizeLine then _ else _)=_;rw[if_pos (small _ (by lia))]
 refine ztu ?_;simp only[W,V];refine WP.of el ?_;simp only[W,V];have e1:(1:Int)<=((tx i).length:Int):=by lia
 have e2:((tx i).length:Int)<=2:=by lia
 rw[xce e1,xce e2];refine⟨trivial,rfl,trivial,?_⟩;rw[if_neg (by decide)];refine zoo fg ?_;refine WP.of (zes (neg:=true) rfl rfl (shS fg.asc)) ?_;dsimp only[bK];rw[if_neg (by decide)];have ei:bIntS [.str (tx i)] st=.ok (.int i) st:=by
  show(match numS (tx i) with | some n=>Res.ok (D.int (n:Int)) st | none=>.stuck)=_;rw[hn];show Res.ok (D.int (i.toNat:Int)) st=_;rw[show((i.toNat:Nat):Int)=i by lia]
 refine WP.of ei ?_;have es:bStrI [.int i] st=.ok (.str (tx i)) st:=by
  show(if _ then _ else _)=_;rw[if_pos ⟨by lia,by lia⟩]
  rfl
 refine WP.of es ?_;refine WP.of (zes (neg:=false) rfl rfl (shS fg.asc)) ?_;dsimp only[bK];rw[if_pos (by decide)];exact WP.of ei q
theorem ziz:∀ts:List Str,asStrs (ts.map .str)=some ts
 | []=>rfl
 | t::ts=>by
  show(asStrs (ts.map .str)).map (t::·)=_;rw[ziz ts];rfl
theorem zgp {f:SE}{g:SA}{σ:DS}(h:WP (f σ st) (fun x s1=>∃sep,x=.str sep/\WP (g σ s1) (fun ys s2=>∃ts:List Str,ys=[.lst (ts.map .str)]/\JoinOk sep ts=true/\Q (.str (Txt.join sep ts)) s2))):WP (eJoin f g σ st) Q:=by
 unfold eJoin;rw[zf];refine h.mono fun x s1 h=>?_
 obtain⟨sep,rfl,h⟩:=h;dsimp only;rw[zf];refine h.mono fun ys s2 h=>?_
 obtain⟨ts,rfl,hj,q⟩:=h;dsimp only;rw[ziz];dsimp only;rw[if_pos hj];exact q
theorem zpt {f:SE}{g:SA}{σ:DS}(h:WP (f σ st) (fun x s1=>∃a,x=.str a/\WP (g σ s1) (fun ys s2=>∃b:Str,ys=[.str b]/\(b.length==0)=false/\a.length<=sizeLine/\(Txt.split a b).length<=sizeLine/\Q (.lst ((Txt.split a b).map .str)) s2))):WP (eSplit f g σ st) Q:=by
 unfold eSplit;rw[zf];refine h.mono fun x s1 h=>?_
 obtain⟨a,rfl,h⟩:=h;dsimp only;rw[zf];refine h.mono fun ys s2 h=>?_
 obtain⟨b,rfl,h1,h2,h3,q⟩:=h;dsimp only;rw[if_pos ⟨h1,h2,h3⟩];exact q
structure Nm (r:List Int):Prop where
 len:r.length<=10
 lo:∀x∈r,0<=x
 hi:∀x∈r,x < 100
noncomputable def allT (ts:List Str):Str:=if ts=[] then "0" else Txt.join " + " ts
end
section
variable {st:Store}{Q:D->Store->Prop}
theorem zoj {sep:Str}{c:Nat}:∀{ts:List Str},c∈(Str.join sep ts).cps.toList->(∃t∈ts,c∈t.cps.toList)\/c∈sep.cps.toList
 | [],h=>by cases(show c∈([]:List Nat) from h)
 | [t],h=>.inl ⟨t,by simp,h⟩
 | p::q::r,h=>by
  rw[zfr] at h;rcases xbs.mp h with h | h
  ·exact .inl ⟨p,by simp,h⟩
  ·rcases xbs.mp h with h | h
   ·exact .inr h
   ·rcases zoj h with⟨t,ht,h⟩ | h
    ·exact .inl ⟨t,xca _ ht,h⟩
    ·exact .inr h
theorem zxc {sep:Str}{c:Nat}{ts:List Str}(h:c∈(Txt.join sep ts).cps.toList):(∃t∈ts,c∈t.cps.toList)\/c∈sep.cps.toList:=by
 rw[show Txt.join sep ts=Str.join sep ts from xjc _ _] at h;exact zoj h
theorem zzu {neg:Bool}{a b:Str}(ha:Asc a)(hb:Asc b)(ne:a≠b):oEqG neg (.str a) (.str b) st=.ok (.bl neg) st:=by
 obtain⟨p,e1,h1,h2⟩:=shS (n:=64) ha;obtain⟨s1,_⟩:=Sh.ok e1 h1 h2;obtain⟨q,e2,h3,h4⟩:=shS (n:=64) hb;obtain⟨s2,_⟩:=Sh.ok e2 h3 h4;cases e1;cases e2;show(if PySem.SeqAt.shaped (.str a)=true/\PySem.SeqAt.shaped (.str b)=true then Res.ok (D.bl (if neg then !(a==b) else(a==b))) st else .stuck)=_;rw[if_pos ⟨s1,s2⟩,xfw.mpr ne];cases neg<;>rfl
structure Pc (t:Str):Prop where
 few:t.length<=40
 no:∀c∈t.cps.toList,c≠32/\c < 128
 nt:t≠"0"
theorem Pc.asc {t:Str}(h:Pc t):Asc t:=fun c hc=>(h.no c hc).2
theorem jok3 {ts:List Str}(h:∀ t∈ts, Pc t)(hl:ts.length<=100):JoinOk " + " ts=true:=by
 unfold JoinOk;rw[Bool.not_eq_true'];exact StrLaws.joinFits (B:=40) (fun y hy=>(h y hy).few) (by rw[show(" + " : Str).length=3 from rfl]; lia)
theorem plus3:(" + " : Str).cps.toList=[32, 43, 32]:=by decide +kernel
theorem nought:("0" : Str).cps.toList=[48]:=by decide +kernel
theorem zbgq {ts:List Str}(h:∀ t∈ts, Pc t)(ne:ts≠[]):Txt.join " + " ts≠"0":=fun e=>by
 match ts,ne with
 | [p],_=>exact(h p (by simp)).nt e
 | p::q::r,_ =>
  have e2:(Str.join " + " (p::q::r)).cps.toList=[48]:=by rw[← xjc, ← nought]; exact congrArg (fun z:Str=>z.cps.toList) e
  rw[zfr,plus3] at e2;have:32∈([48]:List Nat):=by rw[← e2];simp
  simp at this
theorem zlp {ts:List Str}(h:∀t∈ts,Pc t):Asc (allT ts):=fun c hc=>by
 unfold allT at hc;split at hc
 ·rw[nought] at hc;have:=xcg.mp hc;lia
 ·rcases zxc hc with⟨t,ht,hc⟩ | hc
  ·exact(h t ht).asc c hc
  ·rw[plus3] at hc;have:c=32\/c=43\/c=32:=by simpa using hc
   lia
theorem zlr {ts:List Str}(h:∀t∈ts,Pc t)(hl:ts.length<=100)(q:Q (.lst (ts.map .str)) st):WP (zea [.str (allT ts)] st) Q:=by
 have a0:Asc ("0" : Str):=fun c hc=>by rw[nought] at hc; have:=xcg.mp hc; lia
 have aa:=zlp h;refine zex rfl ?_;simp only[W,V];refine WP.of (show bIsinst [.str (allT ts), .ty "str"] st=.ok (.bl true) st from rfl) ⟨true, rfl, ?_⟩
 rw[if_neg (by decide)];by_cases e:ts=[]
 ·subst e;refine WP.of (zes (neg:=true) (d:=.str ("0" : Str)) rfl rfl (shS a0)) ?_
  dsimp only[bK];rw[if_neg (by decide)];exact⟨small _ (by simp),q⟩
 ·have ne:=zbgq h e;unfold allT at aa ⊢;rw[if_neg e] at aa ⊢;refine WP.of (zzu aa a0 ne) ?_;dsimp only[bK];rw[if_pos rfl];refine zpt ?_;simp only[W,V];have sj:=znf (sep:=" + ") (s0:=32) (tl:=[43, 32]) plus3 (by decide +kernel) e fun t ht hc=>((h t ht).no _ hc).1 rfl
  refine⟨_,rfl,_,rfl,rfl,joinOk_length (jok3 h hl),?_⟩;rw[sj];exact⟨small _ (by lia),q⟩
theorem zlu {ts:List Str}(h:∀t∈ts,Pc t)(hl:ts.length<=100)(q:Q (.str (allT ts)) st):WP (zeb [.lst (ts.map .str)] st) Q:=by
 refine zex rfl ?_;simp only[W,V];unfold allT at q;by_cases e:ts=[]
 ·subst e;refine⟨false,rfl,?_⟩;rw[if_neg (by decide)];exact q
 ·rw[if_neg e] at q;refine⟨true,?_,?_⟩
  ·cases ts with
   | nil=>exact absurd rfl e
   | cons x r=>rfl
  rw[if_pos rfl];refine zgp ?_;simp only[W,V];exact⟨_,rfl,ts,rfl,jok3 h hl,q⟩
end
section
variable {st:Store}{Q:D->Store->Prop}
noncomputable def lx (k:Nat) (e:Int):List Nat:=if e=0 then[] else(97+k)::(if e=1 then[] else(tx e).cps.toList)
noncomputable def lpl (k:Nat):List Int->List Nat
 | []=>[]
 | e::r=>lx k e++lpl (k+1) r
noncomputable def prodT (r:List Int):Str:=if lpl 0 r=[] then "1" else⟨(lpl 0 r).toArray⟩
theorem zqv:(List.range 1001).all (fun n=>decide (1<=(tx (n:Int)).length/\(tx (n:Int)).length<=4/\(n < 1000->(tx (n:Int)).length<=3))&&(tx (n:Int)).cps.toList.all fun c=>decide (48<=c/\c < 58))=true:=by decide +kernel
theorem tx3 {i:Int}(h0:0<=i)(h1:i < 1000):1<=(tx i).length/\(tx i).length<=3/\∀c∈(tx i).cps.toList,48<=c/\c < 58:=by
 obtain⟨n,rfl⟩:=xig h0;have h:=xdf.mp zqv n (xfh.mpr (by lia));rw[xdj,xfb,xdf] at h;exact⟨h.1.1,h.1.2.2 (by lia),fun c hc=>xfa (h.2 c hc)⟩
theorem join0:∀ ts:List Str,(Txt.join "" ts).cps.toList=ts.flatMap fun t=>t.cps.toList:=fun ts=>by
 rw[show Txt.join "" ts=Str.join "" ts from xjc _ _]
 induction ts with
 | nil=>rfl
 | cons p ts ih =>
  cases ts with
  | nil=>simp[Str.join]
  | cons q r =>
   rw[zfr,ih]
   rfl
structure Ex (b:Int) (r:List Int):Prop where
 len:r.length<=10
 lo:∀x∈r,0<=x
 hi:∀x∈r,x < b
theorem zvb {k:Nat}{e:Int}(h0:0<=e)(h1:e < 1000):(lx k e).length<=4:=by
 unfold lx;split
 ·simp
 ·split
  ·simp
  ·have:=(tx3 h0 h1).2.1;rw[← zco] at this;simp only[xbu];lia
theorem zkt:∀{r:List Int} {k:Nat},(∀x∈r,0<=x)->(∀x∈r,x < 1000)->(lpl k r).length<=4 * r.length
 | [],_,_,_=>by simp[lpl]
 | e::r,k,lo,hi=>by
  have a:=zvb (k:=k) (lo e (by simp)) (hi e (by simp));have b:=zkt (r:=r) (k:=k+1) (fun x hx=>lo x (by simp[hx])) fun x hx=>hi x (by simp[hx])
  simp only[lpl,xbp,xbu];lia
theorem zbed {k:Nat}{e:Int}(h0:0<=e)(h1:e < 1000){c:Nat}(h:c∈lx k e):c=97+k\/(48<=c/\c < 58):=by
 unfold lx at h;split at h
 ·cases h
 ·split at h
  ·exact .inl (by simpa using h)
  ·rcases xbn.mp h with z | z
   ·exact .inl z
   ·exact .inr ((tx3 h0 h1).2.2 c z)
theorem zof:∀{r:List Int} {k c:Nat},(∀x∈r,0<=x)->(∀x∈r,x < 1000)->c∈lpl k r->(97+k<=c/\c < 97+k+r.length)\/(48<=c/\c < 58)
 | [],_,_,_,_,h=>by cases(show _∈([]:List Nat) from h)
 | e::r,k,c,lo,hi,h=>by
  rcases xbs.mp (show c∈lx k e++lpl (k+1) r from h) with z | z
  ·rcases zbed (lo e (by simp)) (hi e (by simp)) z with z | z
   ·exact .inl (by simp only[xbu];lia)
   ·exact .inr z
  ·rcases zof (fun x hx=>lo x (by simp[hx])) (fun x hx=>hi x (by simp[hx])) z with z | z
   ·exact .inl (by simp only[xbu];lia)
   ·exact .inr z
theorem one1:("1" : Str).cps.toList=[49]:=by decide +kernel
theorem zhe:∀{r:List Int} {k:Nat},lpl k r=[]\/∃c l,lpl k r=c::l/\97+k<=c
 | [],_=>.inl rfl
 | e::r,k=>by
  show lx k e++lpl (k+1) r=[]\/∃c l,lx k e++lpl (k+1) r=c::l/\_
  unfold lx;split
  ·rcases zhe (r:=r) (k:=k+1) with z | ⟨c,l,z,h⟩
   ·exact .inl (by rw[z];rfl)
   ·exact .inr ⟨c,l,by rw[z];rfl,by lia⟩
  ·exact .inr ⟨97+k,_,rfl,xbf _⟩
theorem zsl {r:List Int}(h:Ex 1000 r):Pc (prodT r):=by
 unfold prodT;split
 ·exact⟨by decide +kernel,fun c hc=>by rw[one1] at hc;have:=xcg.mp hc;lia,by decide +kernel⟩
 ·rename_i ne;have hl:=zkt (k:=0) h.lo h.hi;have:=h.len;refine⟨by show(lpl 0 r).toArray.size<=40;simp;lia,fun c hc=>?_,fun e=>?_⟩
  ·rcases zof h.lo h.hi (show c∈lpl 0 r from hc) with z | z<;>lia
  ·have e2:lpl 0 r=[48]:=by rw[← nought];exact congrArg (fun z:Str=>z.cps.toList) e
   rcases zhe (r:=r) (k:=0) with z | ⟨c,l,z,hc⟩
   ·exact ne z
   ·rw[e2] at z;injection z with z1 z2
    lia
theorem abc:("abcdefghij" : Str).cps.toList=List.range' 97 10:=by decide +kernel
theorem zbgr {k:Nat}(h:k < 10):oIxS (.str "abcdefghij") (.int (k:Int)) st=.ok (.str ⟨#[97 + k]⟩) st:=by
 have:k=0\/k=1\/k=2\/k=3\/k=4\/k=5\/k=6\/k=7\/k=8\/k=9:=by lia
 rcases this with rfl | rfl | rfl | rfl | rfl | rfl | rfl | rfl | rfl | rfl<;>kernel_rfl
theorem zbho {i:Int}(h0:0<=i)(h1:i < 1000):bStrI [.int i] st=.ok (.str (tx i)) st:=by
 show(if _ then _ else _)=_;rw[if_pos ⟨by lia,by lia⟩]
 rfl
theorem zgu {k:Nat}{e:Int}(h0:0<=e)(h1:e < 1000)(q:Q (.str ⟨(lx k e).toArray⟩) st):WP (zci [.str ⟨#[97+k]⟩,.int e] st) Q:=by
 unfold lx at q;refine zex rfl ?_;simp only[W,V];by_cases c:e=0
 ·rw[if_pos c] at q ⊢;exact q
 ·rw[if_neg c] at q ⊢;by_cases c1:e=1
  ·rw[if_pos c1] at q ⊢;exact q
  ·rw[if_neg c1] at q ⊢;have ef:oFs (.str ⟨#[97+k]⟩) (.int e) st=.ok (.str ⟨((97+k)::(tx e).cps.toList).toArray⟩) st:=by
    show(if(⟨#[97+k]⟩:Str).length<=1000/\0<=e/\e<=1000 then _ else _)=_;rw[if_pos ⟨by show 1<=1000;lia,h0,by lia⟩]
    congr 2
    refine zda ?_;rw[xhk,xhk,xcl,xcl]
    rfl
   exact WP.of ef q
noncomputable def prs (k:Nat):List Int->List (Nat×Int)
 | []=>[]
 | e::r=>(k,e)::prs (k+1) r
theorem zko:∀{r:List Int} {k m:Nat},r.length<=m->pairsF ((List.range' (97+k) m).map fun c=>D.str ⟨#[c]⟩) (r.map .int)=(prs k r).map fun p=>.tup [.str ⟨#[97+p.1]⟩,.int p.2]
 | [],k,m,_=>by cases h:(List.range' (97+k) m).map fun c=>D.str ⟨#[c]⟩<;>rfl
 | e::r,k,0,h=>by simp at h
 | e::r,k,m+1,h=>by
  rw[List.range'_succ];show D.tup [.str ⟨#[97+k]⟩,.int e]::pairsF ((List.range' (97+k+1) m).map _) (r.map .int)=_;rw[show 97+k+1=97+(k+1) by lia,zko (r:=r) (k:=k+1) (by simpa using h)]
  rfl
theorem znp:∀{r:List Int} {k:Nat},((prs k r).flatMap fun p=>lx p.1 p.2)=lpl k r
 | [],_=>rfl
 | e::r,k=>by
  show lx k e++((prs (k+1) r).flatMap fun p=>lx p.1 p.2)=lx k e++lpl (k+1) r;rw[znp]
theorem znn:∀{r:List Int} {k:Nat} {p:Nat×Int},p∈prs k r->p.2∈r
 | [],_,_,h=>by cases h
 | e::r,k,p,h=>by
  rcases xbn.mp h with rfl | h
  ·simp
  ·exact xca _ (znn h)
theorem zno:∀{r:List Int} {k:Nat},(prs k r).length=r.length
 | [],_=>rfl
 | e::r,k=>by simp[prs,zno (r:=r) (k:=k+1)]
theorem jok0 {ts:List Str}(h:∀ t∈ts, t.length<=4)(hl:ts.length<=10):JoinOk "" ts=true:=by
 unfold JoinOk;rw[Bool.not_eq_true'];exact StrLaws.joinFits (B:=4) h (by rw[show("" : Str).length=0 from rfl]; lia)
theorem zxd {z:Str}:((z.length:Int) != 0)=decide (z.cps.toList≠[]):=by
 rw[← zco];cases z.cps.toList with
 | nil=>rfl
 | cons c l=>simp;lia
theorem zfz {r:List Int}(h:Ex 1000 r)(q:Q (.str (prodT r)) st):WP (zcc [aL r] st) Q:=by
 have asc:(("abcdefghij" : Str).cps.all fun x=>decide (x < 128))=true:=by decide +kernel
 refine zex rfl ?_;simp only[W,V];refine zgp ?_;simp only[W,V];refine⟨_,rfl,?_⟩;have it:iZipX (aB (eC (.str "abcdefghij")) (aB (aA 0) aC)) [some (aL r), none] st=.ok ((prs 0 r).map fun p=>.tup [.str ⟨#[97 + p.1]⟩, .int p.2]) st:=by
  show(if(("abcdefghij" : Str).cps.all fun x=>decide (x < 128))=true then Res.ok (pairsF (signs "abcdefghij") (r.map .int)) st else .stuck)=_
  rw[if_pos asc];unfold signs;rw[abc,← zko (k:=0) h.len]
 refine WP.of it ?_;refine⟨by rw[xbd,zno];exact small _ (by have:=h.len;lia),?_⟩;refine zjc (as:=prs 0 r) (fun σ=>∃v w,σ=[v,w]) (fun _=>true) (fun p=>.str ⟨(lx p.1 p.2).toArray⟩) (fun p=>.tup [.str ⟨#[97+p.1]⟩,.int p.2]) ⟨_,_,rfl⟩ ?_ ?_
 ·rintro p hp σ ⟨v,w,rfl⟩;have hm:=znn hp;refine⟨_,rfl,⟨_,_,rfl⟩,by simp only[W,xix],fun _=>?_⟩;simp only[W,V];exact zgu (h.lo _ hm) (h.hi _ hm) ⟨rfl,rfl⟩
 ·rw[zdf];have ej:Txt.join "" ((prs 0 r).map fun p=>(⟨(lx p.1 p.2).toArray⟩:Str))=⟨(lpl 0 r).toArray⟩:=by
   refine zda ?_;rw[join0,List.flatMap_map];exact znp
  refine⟨(prs 0 r).map fun p=>⟨(lx p.1 p.2).toArray⟩,by rw[xdn];rfl,jok0 (fun t ht=>?_) (by rw[xbd,zno];exact h.len),?_⟩
  ·obtain⟨p,hp,rfl⟩:=xdb.mp ht;have hm:=znn hp;have:=zvb (k:=p.1) (h.lo _ hm) (h.hi _ hm);show(lx p.1 p.2).toArray.size<=4
   simpa using this
  ·rw[ej];unfold prodT at q;have et:eTruS (aA 1) [some (aL r),some (D.str {cps:=(lpl 0 r).toArray})] st=.ok (decide (lpl 0 r≠[])) st:=by
    show(if(⟨(lpl 0 r).toArray⟩:Str).length<=sizeLine then Res.ok (((⟨(lpl 0 r).toArray⟩:Str).length:Int) != 0) st else .stuck)=_;have hl:=zkt (k:=0) h.lo h.hi;have:=h.len;rw[if_pos (small _ (by show(lpl 0 r).toArray.size<=_;simp;lia)),zxd]
   refine WP.of et ?_;by_cases e:lpl 0 r=[]
   ·rw[if_pos e] at q;rw[xbt (fun z=>z e),if_neg (by decide)];exact q
   ·rw[if_neg e] at q;rw[xce e,if_pos rfl];exact q
noncomputable def wds (k:Nat):List Int->List Str
 | []=>[]
 | e::r=>(if e=0 then[] else[⟨(lx k e).toArray⟩])++wds (k+1) r
theorem zmw:∀(r:List Int) (k:Nat) (e:Int),wds k (r++[e])=wds k r++(if e=0 then[] else[⟨(lx (k+r.length) e).toArray⟩])
 | [],k,e=>by simp[wds]
 | x::r,k,e=>by
  show _++wds (k+1) (r++[e])=(_++wds (k+1) r)++_;rw[zmw r (k+1) e,xcn,xbu,show k+1+r.length=k+(r.length+1) by lia]
theorem zmy:∀{r:List Int} {k:Nat},((wds k r).flatMap fun t=>t.cps.toList)=lpl k r
 | [],_=>rfl
 | e::r,k=>by
  show((if e=0 then[] else[(⟨(lx k e).toArray⟩:Str)])++wds (k+1) r).flatMap _=lx k e++lpl (k+1) r;rw[List.flatMap_append,zmy]
  congr 1
  unfold lx;split
  ·rfl
  ·simp
theorem zmx:∀{r:List Int} {k:Nat},(wds k r).length<=r.length
 | [],_=>xbf _
 | e::r,k=>by
  have:=zmx (r:=r) (k:=k+1);show((if e=0 then[] else[(⟨(lx k e).toArray⟩:Str)])++wds (k+1) r).length<=_;rw[xbp,xbu];split<;>simp<;>lia
theorem zsg {r:List Int}{k:Nat}:wds k r=[]↔lpl k r=[]:=by
 induction r generalizing k with
 | nil=>exact⟨fun _=>rfl,fun _=>rfl⟩
 | cons e r ih =>
  show(if e=0 then[] else[(⟨(lx k e).toArray⟩:Str)])++wds (k+1) r=[]↔lx k e++lpl (k+1) r=[]
  unfold lx;by_cases c:e=0
  ·rw[if_pos c,if_pos c];exact ih
  ·rw[if_neg c,if_neg c];simp
theorem zsh:∀{r:List Int} {k:Nat},(∀x∈r,0<=x)->(∀x∈r,x < 1000)->∀t∈wds k r,t.length<=4
 | [],_,_,_,t,h=>by cases h
 | e::r,k,lo,hi,t,h=>by
  rcases xbs.mp (show t∈(if e=0 then[] else[⟨(lx k e).toArray⟩])++wds (k+1) r from h) with z | z
  ·split at z
   ·cases z
   ·rw[xcg.mp z];have:=zvb (k:=k) (lo e (by simp)) (hi e (by simp));show(lx k e).toArray.size<=4
    simpa using this
  ·exact zsh (fun x hx=>lo x (by simp[hx])) (fun x hx=>hi x (by simp[hx])) t z
theorem zdx {r:List Int}{d:D}(hd:d=aL r)(h:Ex 1000 r)(k:∀g,Q (.str (prodT r)) (st++g)):WP (zbk [d] st) Q:=by
 have hl:=h.len;refine zex rfl ?_;simp only[W,V];refine⟨small _ (by simp),?_⟩;have el:bLen [d] (st++[O.lst []])=.ok (.int (r.length:Int)) (st++[O.lst []]):=by
  rw[hd];show Res.ok (D.int ((r.map D.int).length:Int)) _=_;rw[xbd]
 refine WP.of el ⟨_,rfl,rngN (by lia) (by lia),?_⟩;rw[xen];refine zje (fun i σ s=>(∃v,σ=[some d,some (.ref st.length),v])/\s=st++[.lst ((wds 0 (r.take i)).map .str)]) ⟨⟨_,rfl⟩,rfl⟩ ?_ ?_
 ·rintro i x σ s hx ⟨⟨v,rfl⟩,rfl⟩;obtain⟨hi,rfl⟩:=zhz hx;rw[xjl];refine⟨_,rfl,?_⟩;have g:r[i]?=some r[i]:=xbi hi;have hm:=xdm hi;have e0:=h.lo _ hm;have e1:=h.hi _ hm;have ix:∀{R:D->Store->Prop} {s:Store},R (.int r[i]) s->WP (oIx d (.int (i:Int)) s) R:=fun q=>by rw[hd];exact zbbx (xs:=r.map .int) (d:=.int r[i]) rfl (zpi (by rw[xcm,g];rfl)) q
  have wl:=zmx (r:=r.take i) (k:=0);have tl:(r.take i).length=i:=by rw[xdl];lia
  unfold zbz;simp only[W,V];refine ix ?_;simp only[W,V];refine⟨trivial,?_⟩;have wm:=zmw (r.take i) 0 r[i];rw[← zbp g,tl,xdo] at wm;by_cases c:r[i]=0
  ·rw[if_neg (by lia)];simp only[L];rw[wm,if_pos c,xef];exact⟨⟨_,rfl⟩,rfl⟩
  ·rw[if_pos (by lia)];rw[if_neg c] at wm;simp only[W,V,M];refine⟨_,_,rfl,by simp;rfl,?_⟩;have ad:∀(z:Str) (s:Store),z.length<=3->aM (.str ⟨#[97+i]⟩) (.str z) s=.ok (.str ⟨((97+i)::z.cps.toList).toArray⟩) s:=fun z s hz=>by
    show(if(⟨#[97+i]⟩:Str).length+z.length<=sizeLine then Res.ok (D.str (⟨#[97+i]⟩++z)) s else .stuck)=_;rw[if_pos (small _ (by show 1+z.length<=_;lia))]
    congr 2
    refine zda ?_;rw[xhk,xcl]
    rfl
   have at0:(st++[O.lst ((wds 0 (r.take i)).map .str)])[st.length]?=some (.lst ((wds 0 (r.take i)).map .str)):=by simp
   have put:List.set (st++[O.lst ((wds 0 (r.take i)).map .str)]) st.length (.lst ((wds 0 (r.take i)).map .str++[.str ⟨(lx i r[i]).toArray⟩]))=st++[O.lst ((wds 0 (r.take (i+1))).map .str)]:=by
    rw[wm,xfp];simp
   have fl:((wds 0 (r.take i)).map D.str).length < sizeLine:=by rw[xbd,xet];lia
   rw[zbgr (k:=i) (by lia)];simp only[W,V];refine ix ?_;simp only[W,V];refine⟨trivial,?_⟩;by_cases c1:r[i]=1
   ·rw[if_neg (by lia)];refine WP.of (ad "" _ (by decide)) ⟨_, _, rfl, at0, fl, ?_⟩
    simp only[L];refine⟨⟨_,rfl⟩,?_⟩;rw[← put];unfold lx;rw[if_neg c,if_pos c1]
    rfl
   ·rw[if_pos (by lia)];refine ix ?_;refine WP.of (zbho e0 e1) ?_;refine WP.of (ad (tx r[i]) _ (tx3 e0 e1).2.1) ⟨_,_,rfl,at0,fl,?_⟩;simp only[L];refine⟨⟨_,rfl⟩,?_⟩;rw[← put];unfold lx;rw[if_neg c,if_neg c1]
 ·rintro σ s ⟨⟨v,rfl⟩,rfl⟩;rw[zp,xek];simp only[W,V];have wl:=zmx (r:=r) (k:=0);have at0:(st++[O.lst ((wds 0 r).map .str)])[st.length]?=some (.lst ((wds 0 r).map .str)):=by simp
  have eb:bLen [.ref st.length] (st++[O.lst ((wds 0 r).map .str)])=.ok (.int ((wds 0 r).length:Int)) (st++[O.lst ((wds 0 r).map .str)]):=by
   unfold bLen seqOf asL;simp[at0]
  refine WP.of eb ?_;simp only[W,V];refine⟨trivial,?_⟩;unfold prodT at k;by_cases e:lpl 0 r=[]
  ·rw[if_pos e] at k;rw[if_neg (by rw[zsg.mpr e];simp)];exact k _
  ·rw[if_neg e] at k;have ne:wds 0 r≠[]:=fun z=>e (zsg.mp z)
   have:=xjo.mpr ne;rw[if_pos (by lia)];refine zgp ?_;simp only[W,V,M,Dd.N];refine⟨_,rfl,_,_,rfl,at0,wds 0 r,rfl,jok0 (zsh h.lo h.hi) (by lia),?_⟩;have ej:Txt.join "" (wds 0 r)=⟨(lpl 0 r).toArray⟩:=by
    refine zda ?_;rw[join0];exact zmy
   rw[ej];have:=k [O.dead]
   simpa using this
end
section
variable {st:Store}{Q:D->Store->Prop}
theorem zzr {c:Nat}(h:¬ (48<=c/\c < 58)):(Builtin.Str.occurrences ("0123456789" : Str) ⟨#[c]⟩ 0 ("0123456789" : Str).length 1).isEmpty=true:=by
 have:=StrLaws.found_one ("0123456789" : Str) c
 rw[figs,xbt (fun m=>h ((by decide : ∀x∈[48,49,50,51,52,53,54,55,56,57],48<=x/\x < 58) c m))] at this
 simpa using this
structure Fr (E R:List Nat):Prop where
 few:E.length+R.length<=100
 fig:∀c∈E,48<=c/\c < 58
 asc:∀c∈R,c < 128
 non:∀c l,R=c::l->¬ (48<=c/\c < 58)
theorem zmq {E R:List Nat}(h:Fr E R)(q:Q (.str ⟨E.toArray⟩) st):∀z:Str,z.cps.toList=E++R->WP (zu [.str z] st) Q:=fun z hz=>by
 refine zex rfl ?_;simp only[W,V];have asc:(z.cps.all fun x=>decide (x < 128))=true:=by
  rw[← xiu,xdf,hz];intro c hc;rcases xbs.mp hc with y | y
  ·exact xce (by have:=(h.fig c y).2;lia)
  ·exact xce (h.asc c y)
 have it:iTxt (aA 0) [some (.str z), some (.str ""), none] st=.ok (signs z) st:=by
  show(if(z.cps.all fun x=>decide (x < 128))=true then _ else _)=_;rw[if_pos asc]
 refine WP.of it ?_;have fin:∀v,Q (.str ⟨E.toArray⟩) st->seqK (sRet (aA 1)) (retK Q) (.nx [some (.str z),some (.str ⟨E.toArray⟩),v]) st:=fun v q=>by
  simp only[W,V];exact q
 have hf:=h.few;refine zje (fun i σ s=>s=st/\i<=E.length/\∃v,σ=[some (.str z),some (.str ⟨(E.take i).toArray⟩),v]) ⟨rfl,xdg _,_,rfl⟩ ?_ ?_
 ·rintro i x σ s hx ⟨rfl,hi,v,rfl⟩;unfold signs at hx;rw[xcm,xch,hz] at hx;obtain⟨c,hc,rfl⟩:=hx;refine⟨_,rfl,?_⟩;unfold zbt;simp only[W,V];rcases xfe i E.length with lt | ge
  ·rw[xbv lt] at hc;have hm:=h.fig c (xcc hc);have ei:oInS true (.str ⟨#[c]⟩) (.str ("0123456789" : Str)) s=.ok (.bl false) s:=by
    show Res.ok (D.bl (!(!(Builtin.Str.occurrences ("0123456789" : Str) ⟨#[c]⟩ 0 ("0123456789" : Str).length 1).isEmpty))) s=_
    rw[zzs hm];rfl
   refine WP.of ei ?_;dsimp only[bK];rw[if_neg (by decide)];simp only[M,W,V];have ea:oAddS (.str ⟨(E.take i).toArray⟩) (.str ⟨#[c]⟩) s=.ok (.str ⟨(E.take (i+1)).toArray⟩) s:=by
    show(if(⟨(E.take i).toArray⟩:Str).length+(⟨#[c]⟩:Str).length<=sizeLine then Res.ok (D.str (⟨(E.take i).toArray⟩++⟨#[c]⟩:Str)) s else .stuck)=_;rw[if_pos (small _ (by show(E.take i).toArray.size+1<=_;simp;lia))]
    congr 2
    refine zda ?_;rw[xhk,xcl,zbp hc]
   refine⟨_,rfl,WP.of ea ?_⟩;simp only[L];exact⟨trivial,lt,_,rfl⟩
  ·obtain rfl:i=E.length:=by lia
   rw[xco (xbf _),xhw] at hc;have hn:¬ (48<=c/\c < 58):=by
    cases R with
    | nil=>cases hc
    | cons d l=>cases hc;exact h.non _ _ rfl
   have ei:oInS true (.str ⟨#[c]⟩) (.str ("0123456789" : Str)) s=.ok (.bl true) s:=by
    show Res.ok (D.bl (!(!(Builtin.Str.occurrences ("0123456789" : Str) ⟨#[c]⟩ 0 ("0123456789" : Str).length 1).isEmpty))) s=_
    rw[zzr hn];rfl
   refine WP.of ei ?_;dsimp only[bK];rw[if_pos rfl];simp only[L];rw[xek];exact fin _ q
 ·rintro σ s ⟨rfl,hi,v,rfl⟩;have e:(signs z).length=E.length+R.length:=by unfold signs;rw[xbd,hz,xbp]
  have:E.take (signs z).length=E:=xel (by lia);rw[this];exact fin _ q
theorem zng {z:Str}{i:Nat}(h:i<=z.cps.toList.length):StrLaws.sliceText z (some (i:Int)) none=⟨(z.cps.toList.drop i).toArray⟩:=by
 rw[StrLaws.sliceText_from ⟨by lia,by lia⟩];refine zda ?_;show(z.cps.toList.drop ((i:Int)).toNat).take _=_;rw[xen];exact xel (by rw[xde];lia)
theorem znh {f:SE}{z:Str}{i:Nat}{σ:DS}{lo:DS->Store->Res (Option Int)}(hf:f σ st=.ok (.str z) st)(hl:lo σ st=.ok (some (i:Int)) st)(h:i<=z.cps.toList.length)(hz:z.length<=1000):eSlS f lo pNone σ st=.ok (.str ⟨(z.cps.toList.drop i).toArray⟩) st:=by
 unfold eSlS;rw[hf];show((lo σ st).bind _)=_;rw[hl];show(if z.length<=sizeLine/\(StrLaws.sliceText z (some (i:Int)) none).length<=sizeLine then Res.ok (D.str (StrLaws.sliceText z (some (i:Int)) none)) st else .stuck)=_
 rw[zng h,if_pos ⟨small _ (by lia),small _ (by
  show(z.cps.toList.drop i).toArray.size<=_;rw[xbo,xde,zco]
  lia)⟩]
theorem znd {z:Str}{c:Nat}:Txt.startswith z ⟨#[c]⟩=decide (z.cps.toList.head?=some c):=by
 have h:=StrLaws.subAt_one z c 0;show(decide (0+(⟨#[c]⟩:Str).length<=z.length)&&Builtin.Str.subAt z ⟨#[c]⟩ 0)=_;rw[xgu,xdj,xfb,xfb,List.head?_eq_getElem?];exact h
theorem zfh {e:Int}(h0:1<=e)(h1:e < 100)(q:Q (.int e) st):WP (zbu [.str ⟨(if e=1 then[] else(tx e).cps.toList).toArray⟩] st) Q:=by
 refine zex rfl ?_;simp only[W,V];by_cases c:e=1
 ·rw[if_pos c];have et:eTruS (aA 0) (some (.str ⟨([]:List Nat).toArray⟩)::List.replicate (1 - 1) none) st=.ok false st:=rfl;refine WP.of et ?_;rw[if_neg (by decide)];rw[c] at q;exact q
 ·rw[if_neg c];have fg:=(zbcg (by lia) h1).1;have er:(⟨(tx e).cps.toList.toArray⟩:Str)=tx e:=zda rfl;rw[er];have et:eTruS (aA 0) (some (.str (tx e))::List.replicate (1 - 1) none) st=.ok true st:=by
   show(if(tx e).length<=sizeLine then Res.ok (((tx e).length:Int) != 0) st else .stuck)=_;have:=fg.some;have:=fg.few;rw[if_pos (small _ (by lia)),show(((tx e).length:Int) != 0)=true by simp;lia]
  refine WP.of et ?_;rw[if_pos rfl];exact zgx (by lia) h1 q
theorem zzg {r:List Int}{k:Nat}(lo:∀x∈r,0<=x)(hi:∀x∈r,x < 1000)(h:k+r.length<=10):∀c∈lpl k r,c < 128:=fun c hc=>by
 rcases zof lo hi hc with z | z<;>lia
theorem zbcj {n:Nat}(h:n<=10):StrLaws.sliceText ("abcdefghij" : Str) none (some (n:Int))=⟨(List.range' 97 n).toArray⟩:=by
 have:n=0\/n=1\/n=2\/n=3\/n=4\/n=5\/n=6\/n=7\/n=8\/n=9\/n=10:=by lia
 rcases this with rfl | rfl | rfl | rfl | rfl | rfl | rfl | rfl | rfl | rfl | rfl<;>kernel_rfl
theorem zoh {n:Nat}{σ:DS}(h:n<=10):iTxt (eSlS (eC (.str "abcdefghij")) pNone (pSome (aA 0))) (some (.int (n:Int))::σ) st=.ok ((List.range' 97 n).map fun c=>.str ⟨#[c]⟩) st:=by
 have e:eSlS (eC (.str "abcdefghij")) pNone (pSome (aA 0)) (some (.int (n:Int))::σ) st=.ok (.str ⟨(List.range' 97 n).toArray⟩) st:=by
  show(if("abcdefghij" : Str).length<=sizeLine/\(StrLaws.sliceText ("abcdefghij" : Str) none (some (n:Int))).length<=sizeLine then Res.ok (D.str (StrLaws.sliceText ("abcdefghij" : Str) none (some (n:Int)))) st else .stuck)=_
  rw[zbcj h,if_pos ⟨small _ (by decide),small _ (by
   show(List.range' 97 n).toArray.size<=_;rw[xbo,xkb]
   lia)⟩]
 unfold iTxt;rw[e];show(if((List.range' 97 n).toArray.all fun x=>decide (x < 128))=true then Res.ok (signs ⟨(List.range' 97 n).toArray⟩) st else .stuck)=_;rw[if_pos]
 ·rfl
 ·rw[← xiu,xdf];intro c hc;have:=List.mem_range'_1.mp hc;exact xce (by lia)
theorem zoe:∀{r:List Int} {k:Nat},lpl k r=[]->r=List.replicate r.length 0
 | [],_,_=>rfl
 | e::r,k,h=>by
  obtain⟨h1,h2⟩:=List.append_eq_nil_iff.mp (show lx k e++lpl (k+1) r=[] from h);unfold lx at h1;split at h1
  ·rename_i c;rw[xbu,xdq,← zoe h2,c]
  ·cases h1
theorem zvc {r:List Int}{i k:Nat}(h:i < r.length):lpl k (r.drop i)=lx k r[i]++lpl (k+1) (r.drop (i+1)):=by
 rw[xfl h]
 rfl
theorem tuple67 {m:Nat}{xs:List D}(h:st[m]?=some (.lst xs)):bTuple [.ref m] st=.ok (.tup xs) st:=by
 unfold bTuple asL;simp[h]
theorem zeros67 {n:Nat}(h:n<=1000):oMulT (.tup [.int 0]) (.int (n:Int)) st=.ok (aL (List.replicate n 0)) st:=by
 unfold oMulT;dsimp only;rw[if_pos ⟨by simp,by lia,by lia,by simp;lia⟩];unfold timesL aL
 congr 2
 rw[xen];clear h
 induction n with
 | zero=>rfl
 | succ k ih=>rw[xdq,xfs,ih,xdq];rfl
theorem zgb {r:List Int}(h:Ex 100 r)(k:∀g,Q (aL r) (st++g)):WP (zcd [.int (r.length:Int),.str (prodT r)] st) Q:=by
 have hl:=h.len;have hi3:∀x∈r,x < 1000:=fun x hx=>by have:=h.hi x hx;lia
 have a1:Asc ("1" : Str):=fun c hc=>by rw[one1] at hc; have:=xcg.mp hc; lia
 have ae:Asc ("" : Str):=fun c hc=>by cases hc
 have pc:=zsl (r:=r) ⟨h.len,h.lo,hi3⟩;generalize hz:prodT r=z at pc ⊢;refine zex rfl ?_;simp only[W,V];by_cases e:lpl 0 r=[]
 ·have z1:z="1":=by rw[← hz]; unfold prodT; rw[if_pos e]
  subst z1;refine WP.of (zes (neg:=false) rfl rfl (shS a1)) ?_;dsimp only[bK];rw[if_pos (by decide)];refine⟨small _ (by simp),WP.of (zeros67 (by lia)) ?_⟩;rw[← zoe e];have:=k [];rw[xef] at this;exact this
 ·have z1:z=⟨(lpl 0 r).toArray⟩:=by rw[← hz];unfold prodT;rw[if_neg e]
  have ne:z≠"1":=fun y=>by
   rw[z1] at y;have e2:lpl 0 r=[49]:=by rw[← one1];exact congrArg (fun z:Str=>z.cps.toList) y
   rcases zhe (r:=r) (k:=0) with w | ⟨c,l,w,hc⟩
   ·exact e w
   ·rw[e2] at w;injection w with w1 w2
    lia
  refine WP.of (zzu pc.asc a1 ne) ?_;dsimp only[bK];rw[if_neg (by decide)];refine⟨small _ (by simp),WP.of (zoh (by lia)) ?_⟩;subst z1;refine zje (fun i σ s=>i<=r.length/\(∃v3 v4 v5,σ=[some (.int (r.length:Int)),some (.str ⟨(lpl i (r.drop i)).toArray⟩),some (.ref st.length),v3,v4,v5])/\s=st++[.lst ((r.take i).map .int)]) ⟨xdg _,⟨_,_,_,rfl⟩,rfl⟩ ?_ ?_
  ·rintro i x σ s hx ⟨hi,⟨v3,v4,v5,rfl⟩,rfl⟩;rw[xcm,xch] at hx;obtain⟨c,hc,rfl⟩:=hx;obtain⟨lt,rfl⟩:i < r.length/\c=97+i:=by
    obtain⟨h1,h2⟩:=xbk.mp hc;rw[xkb] at h1;rw[List.getElem_range'] at h2;exact⟨h1,by lia⟩
   have g:r[i]?=some r[i]:=xbi lt;have hm:=xdm lt;have e0:=h.lo _ hm;have e1:=h.hi _ hm;have ld:=zvc (k:=i) lt;have dl:(r.drop i).length<=10:=by rw[xde];lia
   have dlo:∀x∈r.drop i,0<=x:=fun x hx=>h.lo x (xdt hx)
   have dhi:∀x∈r.drop i,x < 1000:=fun x hx=>hi3 x (xdt hx)
   have ll:=zkt (k:=i) dlo dhi;have R1:∀c∈lpl (i+1) (r.drop (i+1)),c < 128:=zzg (fun x hx=>h.lo x (xdt hx)) (fun x hx=>hi3 x (xdt hx)) (by rw[xde];lia)
   have R2:∀c l,lpl (i+1) (r.drop (i+1))=c::l->97+(i+1)<=c:=fun c l hq=>by
    rcases zhe (r:=r.drop (i+1)) (k:=i+1) with w | ⟨c',l',w,hc'⟩
    ·rw[w] at hq;cases hq
    ·rw[w] at hq;cases hq;exact hc'
   have at0:(st++[O.lst ((r.take i).map D.int)])[st.length]?=some (.lst ((r.take i).map .int)):=by simp
   have fl:((r.take i).map D.int).length < sizeLine:=by rw[xbd,xdl,xet];lia
   have put:List.set (st++[O.lst ((r.take i).map D.int)]) st.length (.lst ((r.take i).map D.int++[.int r[i]]))=st++[O.lst ((r.take (i+1)).map .int)]:=by
    rw[zbp g,xfp];simp
   refine⟨_,rfl,?_⟩;unfold zcw;simp only[W,V];have es:eStarts (aA 1) (aB (aA 3) aC) [some (.int (r.length:Int)),some (.str ⟨(lpl i (r.drop i)).toArray⟩),some (.ref st.length),some (.str ⟨#[97+i]⟩),some (.int 0),v5] (st++[O.lst ((r.take i).map D.int)])=.ok (.bl (decide ((lpl i (r.drop i)).head?=some (97+i)))) (st++[O.lst ((r.take i).map D.int)]):=by
    show Res.ok (D.bl (Txt.startswith ⟨(lpl i (r.drop i)).toArray⟩ ⟨#[97+i]⟩)) _=_;rw[znd]
   refine WP.of es ⟨_,rfl,?_⟩;by_cases c:r[i]=0
   ·have lx0:lx i r[i]=[]:=by unfold lx;rw[if_pos c]
    rw[lx0,xkt] at ld
    rw[xbt (fun hq=>by
     rw[ld] at hq;cases hq2:lpl (i+1) (r.drop (i+1)) with
     | nil=>rw[hq2] at hq;cases hq
     | cons c l =>
      rw[hq2] at hq;have:=R2 c l hq2;have:c=97+i:=xck hq
      lia),if_neg (by decide)]
    simp only[W,V,M];refine⟨_,_,rfl,at0,_,_,rfl,at0,fl,?_⟩;simp only[L];refine⟨lt,⟨_,_,_,by rw[ld]⟩,?_⟩;rw[← put,c]
   ·have lxe:lx i r[i]=(97+i)::(if r[i]=1 then[] else(tx r[i]).cps.toList):=by unfold lx;rw[if_neg c]
    rw[lxe,List.cons_append] at ld;have fg:=(zbcg e0 e1).1;have fr:Fr (if r[i]=1 then[] else(tx r[i]).cps.toList) (lpl (i+1) (r.drop (i+1))):=by
     have l2:=congrArg List.length ld;rw[xbu,xbp] at l2;refine⟨by lia,fun c hc=>?_,R1,fun c l hq=>by have:=R2 c l hq;lia⟩;split at hc
     ·cases hc
     ·exact fg.all c hc
    generalize hE:(if r[i]=1 then[] else(tx r[i]).cps.toList)=E at ld fr;rw[xce (by rw[ld];rfl),if_pos rfl];have zl:(⟨(lpl i (r.drop i)).toArray⟩:Str).length<=1000:=by show(lpl i (r.drop i)).toArray.size<=_;rw[xbo];lia
    have d1:(lpl i (r.drop i)).drop 1=E++lpl (i+1) (r.drop (i+1)):=by rw[ld];rfl
    have d2:(lpl i (r.drop i)).drop (1+E.length)=lpl (i+1) (r.drop (i+1)):=by rw[← xhg,d1,xkw]
    have ln:=congrArg List.length ld;rw[xbu,xbp] at ln;refine WP.of (znh (z:=⟨(lpl i (r.drop i)).toArray⟩) (i:=1) rfl rfl (by show 1<=(lpl i (r.drop i)).length;lia) zl) ?_;refine zmq fr ?_ _ (show(lpl i (r.drop i)).drop 1=_ from d1);have el:bLenS [.str ⟨E.toArray⟩] (st++[O.lst ((r.take i).map D.int)])=.ok (.int (E.length:Int)) (st++[O.lst ((r.take i).map D.int)]):=by
     show(if(⟨E.toArray⟩:Str).length<=sizeLine then Res.ok (D.int ((⟨E.toArray⟩:Str).length:Int)) _ else .stuck)=_;have e2:(⟨E.toArray⟩:Str).length=E.length:=by show E.toArray.size=_;simp
     rw[e2,if_pos (small _ (by have:=fr.few;lia))]
    have ep:pSome (aR aM (eC (D.int 1)) (aE bLenS (aB (aA 5) aC))) [some (.int (r.length:Int)),some (.str ⟨(lpl i (r.drop i)).toArray⟩),some (.ref st.length),some (.str ⟨#[97+i]⟩),some (.int 0),some (.str ⟨E.toArray⟩)] (st++[O.lst ((r.take i).map D.int)])=.ok (some ((1+E.length:Nat):Int)) (st++[O.lst ((r.take i).map D.int)]):=by
     show Res.bind ((Res.bind (bLenS [.str ⟨E.toArray⟩] (st++[O.lst ((r.take i).map D.int)])) fun y s=>aM (.int 1) y s)) _=_;rw[el];show Res.ok (some (1+(E.length:Int))) _=_;rw[Int.natCast_add]
     rfl
    refine WP.of (znh (z:=⟨(lpl i (r.drop i)).toArray⟩) (i:=1+E.length) rfl ep (by show 1+E.length<=(lpl i (r.drop i)).length;lia) zl) ?_;rw[show(⟨(lpl i (r.drop i)).toArray⟩:Str).cps.toList.drop (1+E.length)=lpl (i+1) (r.drop (i+1)) from d2];rw[← hE];refine zfh (by lia) e1 ?_;simp only[W,V,M];refine⟨_,_,rfl,at0,_,_,rfl,at0,fl,?_⟩;simp only[L];exact⟨lt,⟨_,_,_,rfl⟩,put⟩
  ·rintro σ s ⟨hi,⟨v3,v4,v5,rfl⟩,rfl⟩;have en:((List.range' 97 r.length).map fun c=>D.str ⟨#[c]⟩).length=r.length:=by rw[xbd,xkb]
   rw[en,List.drop_length,xek];simp only[W,V];refine WP.of (zes (neg:=false) (d:=.str ("" : Str)) rfl rfl (shS ae)) ?_
   dsimp only[bK];rw[if_pos (by decide)];refine WP.of (tuple67 (xs:=r.map .int) (by simp)) ?_;exact k _
end
section
variable {st:Store}{n:Nat}{Q:D->Store->Prop}
end
section
variable {st:Store}{n:Nat}{Q:D->Store->Prop}
theorem zob {r:List Int}{y:Int}(h:∀x∈r,0<=x)(hy:0<=y):∀x∈r++[y],0<=x:=fun x hx=>by
 rcases xbs.mp hx with z | z
 ·exact h x z
 ·rw[xcg.mp z];exact hy
theorem zvg {l:List (List Int)}(h:∀r∈l,Nm r)(hl:l.length<=100)(q:Q (.bl true) st):WP (zbm [aK l] st) Q:=by
 refine zex rfl ?_;simp only[W,V];refine⟨_,rfl,?_⟩;refine zje (fun i σ s=>s=st/\∃v,σ=[some (aK l),v]) ⟨rfl,_,rfl⟩ ?_ ?_
 ·rintro i x σ s hx ⟨rfl,v,rfl⟩;obtain⟨r,hrr,rfl⟩:=zdq hx;have hn:=h r (xcc hrr);refine⟨_,rfl,?_⟩;unfold zcf;simp only[W,V];refine WP.of (show bIsinst [aL r, .ty "tuple"] s=.ok (.bl true) s from rfl) ⟨true, rfl, ?_⟩
  rw[if_neg (by decide)];refine⟨_,rfl,by rw[xbd];exact small _ (by have:=hn.len;lia),?_⟩;refine zjc (as:=r) (fun σ=>∃v,σ=[v]) (fun _=>false) (fun x=>.int x) .int ⟨_,rfl⟩ ?_ ?_
  ·rintro x hx σ ⟨v,rfl⟩;refine⟨_,rfl,⟨_,rfl⟩,?_,fun z=>by cases z⟩;simp only[W,V];exact WP.of (show bIsinst [.int x, .ty "bool"] s=.ok (.bl false) s from rfl) ⟨false, rfl, rfl, rfl⟩
  ·have e:r.filter (fun _=>false)=[]:=by simp
   rw[e];simp only[W,V];refine⟨trivial,?_⟩;rw[if_neg (by simp)];simp only[L];exact⟨trivial,_,rfl⟩
 ·rintro σ s ⟨rfl,v,rfl⟩;simp only[W,V];exact WP.of (show bIsinst [aK l, .ty "tuple"] s=.ok (.bl true) s from rfl) q
end
end Dd
namespace K68
end K68
namespace Dd
open PySem L2
section
variable {st:Store}{n:Nat}{Q:D->Store->Prop}
theorem pcs67 {l:List (List Int)}(h:∀r∈l,Ex 1000 r):∀t∈l.map prodT,Pc t:=fun t ht=>by
 obtain⟨r,hr,rfl⟩:=xdb.mp ht;exact zsl (h r hr)
theorem zck {l:List (List Int)}{d:D}(hd:d=aK l)(h:∀r∈l,Ex 1000 r)(hl:l.length<=100)(k:∀g,Q (.str (allT (l.map prodT))) (st++g)):WP (zq [d] st) Q:=by
 have pc:=pcs67 h;refine zex rfl ?_;simp only[W,V];have el:bLen [d] st=.ok (.int (l.length:Int)) st:=by
  rw[hd];show Res.ok (D.int ((aJ l).length:Int)) _=_;rw[zn]
 refine WP.of el ?_;simp only[W,V];refine⟨trivial,?_⟩;unfold allT at k;by_cases e:l=[]
 ·subst e;rw[if_neg (by simp)];have:=k [];rw[xef] at this;exact this
 ·have:=xjo.mpr e;rw[if_pos (by lia)];rw[if_neg (by simpa using e)] at k;refine zgp ?_;simp only[W,V];refine⟨_,rfl,aJ l,by rw[hd];rfl,by rw[zn];exact small _ (by lia),?_⟩;refine zcz (fun i acc σ s=>(∃v,σ=[v])/\acc=((l.take i).map prodT).map .str/\∃g,s=st++g) ⟨⟨_,rfl⟩,rfl,[],by simp⟩ ?_ ?_
  ·rintro i x acc σ s hx ⟨⟨v,rfl⟩,rfl,g,rfl⟩;obtain⟨r,hr,rfl⟩:=zdq hx;refine⟨_,rfl,?_⟩;generalize hd2:aL r=d2;simp only[W,V];refine zdx hd2.symm (h r (xcc hr)) fun g2=>?_
   exact⟨⟨_,rfl⟩,by rw[zbp hr];simp,g++g2,by simp⟩
  ·rintro ys σ s ⟨⟨v,rfl⟩,rfl,g,rfl⟩;rw[zn,xek];exact⟨l.map prodT,rfl,jok3 pc (by rw[xbd];exact hl),k g⟩
theorem zeh {l:List (List Int)}(h:∀r∈l,Ex 1000 r)(hl:l.length<=100)(q:Q (.str (allT (l.map prodT))) st):WP (zbw [aK l] st) Q:=by
 refine zex rfl ?_;simp only[W,V];refine⟨_,rfl,by rw[zn];exact small _ (by lia),?_⟩;refine zjc (as:=l) (fun σ=>∃v,σ=[v]) (fun _=>true) (fun r=>.str (prodT r)) aL ⟨_,rfl⟩ ?_ ?_
 ·rintro r hr σ ⟨v,rfl⟩;refine⟨_,rfl,⟨_,rfl⟩,by simp only[W,xix],fun _=>?_⟩;simp only[W,V];exact zfz (h r hr) ⟨rfl,rfl⟩
 ·rw[zdf];have e:l.map (fun r=>D.str (prodT r))=(l.map prodT).map .str:=by rw[xdn];rfl
  rw[e];exact zlu (pcs67 h) (by rw[xbd];exact hl) q
theorem zeq {a:Str}(h:Asc a)(q:Q (.bl true) st):WP (zx [.str a,.str a] st) Q:=by
 refine zex rfl ?_;simp only[W,V];refine WP.of (show bIsinst [.str a, .ty "str"] st=.ok (.bl true) st from rfl) ?_
 dsimp only[bK];rw[if_pos rfl];exact WP.of (zes (neg:=false) rfl rfl (shS h)) q
structure Sm (N:Int) (l:List (List Int)):Prop where
 ok:SumOk N.toNat l
 few:l.length<=60
 hi:∀r∈l,∀x∈r,x < 100
theorem Sm.ex {N:Int}{l:List (List Int)}(h:Sm N l)(hN:N<=10){b:Int}(hb:100<=b):∀r∈l,Ex b r:=fun r hr=>⟨by rw[h.ok.len r hr];lia,h.ok.pos r hr,fun x hx=>by have:=h.hi r hr x hx;lia⟩
theorem sumB67 {N:Int}{l:List (List Int)}(h1:1<=N)(h:SumOk N.toNat l):sumB N (aK l)=true:=by
 show((aJ l).all (prodB N)&&riseB (asRowsT (aJ l)))=true;rw[zfx,(zkn l).mpr h.rise,Bool.and_true,xdf];intro d hd;obtain⟨r,hr,rfl⟩:=xdb.mp hd;show(decide (((r.map D.int).length:Int)=N)&&(r.map D.int).all natB)=true;rw[xce (by rw[xbd,h.len r hr];lia),xdf.mpr]
 ·rfl
 ·intro d hd;obtain⟨x,hx,rfl⟩:=xdb.mp hd;exact xce (h.pos r hr x hx)
theorem pl67 {N:Int}{l:List (List Int)}(hN:N<=10)(h:Sm N l):Pl 1000 (aK l):=.tup (fun d hd=>by
 obtain⟨r,hr,rfl⟩:=xdb.mp hd
 exact .tup (fun d hd=>by obtain⟨i,_,rfl⟩:=xdb.mp hd;exact .int i) (by rw[xbd,h.ok.len r hr];lia)) (by rw[zn];have:=h.few;lia)
theorem zlv {N:Int}{l:List (List Int)}(h1:1<=N)(hN:N<=10)(h:Sm N l)(k:∀g,Q (aK l) (st++g)):WP (zec [.int N,.str (allT (l.map prodT))] st) Q:=by
 have ex:=h.ex hN (b:=1000) (by lia);have ex1:=h.ex hN (b:=100) (by lia);have pc:=pcs67 ex;have hf:=h.few;generalize hz:allT (l.map prodT)=z;refine zex rfl ?_;simp only[W,V];rw[← hz];refine zlr pc (by rw[xbd];lia) ?_;refine⟨_,rfl,by rw[xbd,xbd];exact small _ (by lia),?_⟩;refine zcz (fun i acc σ s=>(∃v,σ=[v,some (.int N)])/\acc=aJ (l.take i)/\∃g,s=st++g) ⟨⟨_,rfl⟩,rfl,[],by simp⟩ ?_ ?_
 ·rintro i x acc σ s hx ⟨⟨v,rfl⟩,rfl,g,rfl⟩;rw[xdn,xcm,xch] at hx;obtain⟨r,hr,rfl⟩:=hx;have hm:=xcc hr;have rl:=h.ok.len r hm;refine⟨_,rfl,?_⟩;simp only[W,V];rw[show N=(r.length:Int) by rw[rl];lia];refine zgb (ex1 r hm) fun g2=>?_
  exact⟨⟨_,rfl⟩,by rw[zbp hr];simp[aJ],g++g2,by simp⟩
 ·rintro ys σ s ⟨⟨v,rfl⟩,rfl,g,rfl⟩;rw[xbd,xbd,xek];refine zok (pl67 hN h) (by lia) ?_;rw[sumB67 h1 h.ok];refine⟨true,rfl,?_⟩;rw[if_neg (by decide)];refine zeh ex (by lia) ?_;refine WP.of (zes (neg:=true) rfl rfl (shS (zlp pc))) ?_;dsimp only[bK];rw[if_neg (by decide)];exact k g
theorem zfy {N:Int}(hb:BagAt st n)(h1:1<=N)(h2:N<=10)(k:∀r st',r.length=N.toNat->(∀x∈r,0<=x)->(∀x∈r,x < 100)->Drew st st' n->Q (aL r) st'):WP (zw [.ref n,.int N] st) Q:=by
 refine zex rfl ?_;simp only[W,V];refine⟨_,rfl,rngN (by lia) (by lia),by rw[zp];exact small _ (by lia),?_⟩;refine zcz (fun i acc σ s=>∃(r:List Int) (v:Option D),acc=r.map .int/\r.length=i/\(∀x∈r,0<=x)/\(∀x∈r,x < 100)/\σ=[v,some (.ref n)]/\Drew st s n) ⟨[],none,rfl,rfl,by simp,by simp,rfl,.refl hb⟩ ?_ ?_
 ·rintro i x acc σ s hx ⟨r,v,rfl,a1,a2,a3,rfl,a4⟩;refine⟨_,rfl,?_⟩;simp only[W,V];refine zby a4.bag (by lia) (by lia) fun y s2 y0 y1 D2=>?_
  exact⟨r++[y],_,by simp,by simp[a1],zob a2 y0,fun x hx=>by
   rcases xbs.mp hx with z | z
   ·exact a3 x z
   ·rw[xcg.mp z];exact y1,rfl,a4.trans D2⟩
 ·rintro ys σ s ⟨r,v,rfl,a1,a2,a3,rfl,a4⟩;rw[zp] at a1;exact k r s a1 a2 a3 a4
theorem zfs {N:Int}(hb:BagAt st n)(h1:1<=N)(h2:N<=10)(k:∀r st',r.length=N.toNat->(∀x∈r,0<=x)->(∀x∈r,x < 1000)->Drew st st' n->Q (aL r) st'):WP (zbc [.ref n,.int N] st) Q:=by
 refine zex rfl ?_;simp only[W,V];refine⟨_,rfl,rngN (by lia) (by lia),by rw[zp];exact small _ (by lia),?_⟩;refine zcz (fun i acc σ s=>∃(r:List Int) (v:Option D),acc=r.map .int/\r.length=i/\(∀x∈r,0<=x)/\(∀x∈r,x < 1000)/\σ=[v,some (.ref n)]/\Drew st s n) ⟨[],none,rfl,rfl,by simp,by simp,rfl,.refl hb⟩ ?_ ?_
 ·rintro i x acc σ s hx ⟨r,v,rfl,a1,a2,a3,rfl,a4⟩;refine⟨_,rfl,?_⟩;simp only[W,V];refine⟨small _ (by simp),?_⟩;refine zby a4.bag (by lia) (by lia) fun z s2 z0 z1 D2=>?_
  refine zxz z0 (by simp;lia) fun b hb=>?_
  have D4:=a4.trans D2
  have fin:∀b:Int,1<=b->b<=1000->WP (zc [.ref n,.int b] s2) (fun y s3=>∃(r':List Int) (v:Option D),r.map D.int++[y]=r'.map .int/\r'.length=i+1/\(∀x∈r',0<=x)/\(∀x∈r',x < 1000)/\[some x,some (.ref n)]=[v,some (.ref n)]/\Drew st s3 n):=fun b b1 b2=>zby D4.bag b1 (by lia) fun y s3 y0 y1 D3=>⟨r++[y],_,by simp,by simp[a1],zob a2 y0,fun x hx=>by
   rcases xbs.mp hx with z | z
   ·exact a3 x z
   ·rw[xcg.mp z];lia,rfl,D4.trans D3⟩
  simp only[xbn,xdx,xhd] at hb;rcases hb with rfl | rfl
  ·exact fin 1000 (by lia) (by lia)
  ·exact fin 3 (by lia) (by lia)
 ·rintro ys σ s ⟨r,v,rfl,a1,a2,a3,rfl,a4⟩;rw[zp] at a1;exact k r s a1 a2 a3 a4
theorem zhi {N:Int}(hb:BagAt st n)(h1:1<=N)(h2:N<=10)(k:∀st',Q (.bl true) st'):WP (zbn [.ref n,.int N] st) Q:=by
 refine zex rfl ?_;simp only[W,V];refine⟨small _ (by simp),trivial,zvk ?_⟩;refine zby hb (by split<;>lia) (by split<;>lia) fun m s1 m0 m1 D1=>?_
 have m40:m<=40:=by split at m1<;>lia
 simp only[Dd.N];refine⟨rngN (by lia) (by lia),by rw[zp];exact small _ (by lia),?_⟩;refine zcz (fun i acc σ s=>∃(l:List (List Int)) (v:Option D),acc=aJ l/\l.length=i/\(∀r∈l,Ex 1000 r)/\σ=[v,some (.ref n),some (.int N)]/\BagAt s n) ⟨[],none,rfl,rfl,by simp,rfl,D1.bag⟩ ?_ ?_
 ·rintro i x acc σ s hx ⟨l,v,rfl,a1,a2,rfl,a3⟩;refine⟨_,rfl,?_⟩;simp only[W,V];exact zfs a3 h1 h2 fun r s2 b1 b2 b3 b4=>⟨l++[r],_,by simp[aJ],by simp[a1],zfo a2 ⟨by lia,b2,b3⟩,rfl,b4.bag⟩
 ·rintro ys σ s ⟨l,v,rfl,a1,a2,rfl,a3⟩;rw[zp] at a1;refine zqs (l:=l) rfl (by lia) fun g=>?_
  have ex:∀r∈aO l,Ex 1000 r:=fun r hr=>a2 r (zfn hr)
  have ln:(aO l).length<=100:=by have:=zek l;lia
  refine zeh ex ln ?_;generalize hd:aK (aO l)=d;refine zck hd.symm ex ln fun g2=>?_
  exact zeq (zlp (pcs67 ex)) (k _)
theorem zyt {N:Int}{l:List (List Int)}(hl:l.length<=60)(h:∀r∈l,r.length=N.toNat/\(∀x∈r,0<=x)/\∀x∈r,x < 100):Sm N (aO l):=⟨zkk fun r hr=>⟨(h r hr).1,(h r hr).2.1⟩,by have:=zek l;lia,fun r hr=>(h r (zfn hr)).2.2⟩
theorem Sm.drop {N:Int}{l:List (List Int)}(h:Sm N l):Sm N (l.drop 1):=⟨⟨xjb (List.drop_sublist 1 l) h.ok.rise,fun r hr=>h.ok.len r (xdt hr),fun r hr=>h.ok.pos r (xdt hr)⟩,by have:=h.few;rw[xde];lia,fun r hr=>h.hi r (xdt hr)⟩
theorem zbbr {l:List (List Int)}(h:∀r∈l,Ex 1000 r)(hl:l.length<=100):(allT (l.map prodT)).length<=sizeLine:=by
 unfold allT;split
 ·exact small _ (by decide)
 ·exact joinOk_length (jok3 (pcs67 h) (by rw[xbd];exact hl))
theorem zrc {N:Int}{l:List (List Int)}{v0 v1 v5 v6 v7:Option D}{s:Store}{QQ:Fl->Store->Prop}(hN:N<=10)(h:Sm N l)(hb:BagAt s n)(k:∀l s,Sm N l->BagAt s n->QQ (.nx [v0,v1,some (.ref n),some (.int N),some (aK l),v5,v6,v7]) s) :
  WP (sWhile (eB (aR oGt (aE bLenS (aB (aE zq (aB (aA 4) aC)) aC)) (eC (.int 1500)))) zhp [v0,v1,some (.ref n),some (.int N),some (aK l),v5,v6,v7] s) QQ:=by
 refine zts (fun m σ s'=>∃l,m=l.length/\(∃d,d=aK l/\σ=[v0,v1,some (.ref n),some (.int N),some d,v5,v6,v7])/\Sm N l/\BagAt s' n) (k:=l.length) ⟨l,rfl,⟨_,rfl,rfl⟩,h,hb⟩ (by have:=h.few;lia) ?_;rintro m σ s' ⟨l,rfl,⟨d,hd,rfl⟩,sm,hb⟩;have ex:=sm.ex hN (b:=1000) (by lia);have hf:=sm.few;simp only[W,V];refine zck hd ex (by lia) fun g=>?_
 have hb2:BagAt (s'++g) n:=(Drew.more hb g).bag;have el:bLenS [.str (allT (l.map prodT))] (s'++g)=.ok (.int ((allT (l.map prodT)).length:Int)) (s'++g):=by
  show(if(allT (l.map prodT)).length<=sizeLine then _ else _)=_;rw[if_pos (zbbr ex (by lia))]
 refine WP.of el ?_;simp only[W,V];refine⟨trivial,?_⟩;by_cases c:(1500:Int) < ((allT (l.map prodT)).length:Int)
 ·rw[if_pos (by simpa using c)];have ne:l≠[]:=fun e=>by
   subst e;have:(allT ([].map prodT)).length=1:=by decide +kernel
   rw[this] at c;lia
  have:=xjo.mpr ne;unfold zhp;rw[hd];simp only[W,V,M,Dd.N];have ec:cutD (aJ l) (some 1) none=aJ (l.drop 1):=by
   rw[show(some (1:Int))=some ((1:Nat):Int) from rfl,zoy];unfold aJ;rw[List.map_drop]
  rw[ec];simp only[L];exact⟨(l.drop 1).length,by rw[xde];lia,l.drop 1,rfl,⟨_,rfl,rfl⟩,sm.drop,hb2⟩
 ·rw[if_neg (by simpa using c),hd];exact k l _ sm hb2
theorem zbcb {c:ST}{a b:SS}{σ:DS}{Q:Fl->Store->Prop}(h:c σ st=.ok true st)(k:WP (a σ st) Q):WP (sIf c a b σ st) Q:=by
 unfold sIf;rw[h];exact k
theorem zpv {N:Int}{v0 v1 v4 v5 v6 v7:Option D}{s:Store}{QQ:Fl->Store->Prop}(n1:1<=N)(n2:N<=10)(hb:BagAt s n)(k:∀l s,Sm N l->BagAt s n->QQ (.nx [v0,v1,some (.ref n),some (.int N),some (aK l),v5,v6,v7]) s) :
  WP ((aD (aF 4 (aE zbb (aB (aG (iR1 (aB (aE zc (aB (aA 2) (aB (eC (.int 9)) aC))) aC)) 1 [2,3] (gN 0) aI (aE zw (aB (aA 1) (aB (aA 2) aC)))) aC)))
 (aD (sIf (eB (aR oEq (aE zc (aB (aA 2) (aB (eC (.int 2)) aC))) (eC (.int 1)))) (aF 4 (aE zbb (aB (aG (iR1 (aB (aE zc (aB (aA 2) (aB (eC (.int 61)) aC))) aC)) 1 [2,3] (gN 0) aI (aE zg (aB (aA 1) (aB (aA 2) (aB (eC (.int 20)) aC))))) aC))) sNx)
 (sWhile (eB (aR oGt (aE bLenS (aB (aE zq (aB (aA 4) aC)) aC)) (eC (.int 1500)))) zhp))) [v0,v1,some (.ref n),some (.int N),v4,v5,v6,v7] s) QQ:=by
 refine zcy (R:=fun fl s'=>∃l,Sm N l/\BagAt s' n/\fl=.nx [v0,v1,some (.ref n),some (.int N),some (aK l),v5,v6,v7]) ?_ ?_
 ·simp only[W,V];refine zby hb (by lia) (by lia) fun m s1 m0 m1 D1=>?_
  simp only[Dd.N];refine⟨rngN (by lia) (by lia),by rw[zp];exact small _ (by lia),?_⟩;refine zcz (fun i acc σ s=>∃(l:List (List Int)) (v:Option D),acc=aJ l/\l.length=i/\(∀r∈l,r.length=N.toNat/\(∀x∈r,0<=x)/\∀x∈r,x < 100)/\σ=[v,some (.ref n),some (.int N)]/\BagAt s n) ⟨[],none,rfl,rfl,by simp,rfl,D1.bag⟩ ?_ ?_
  ·rintro i x acc σ s hx ⟨l,v,rfl,a1,a2,rfl,a3⟩;refine⟨_,rfl,?_⟩;simp only[W,V];exact zfy a3 n1 n2 fun r s2 b1 b2 b3 b4=>⟨l++[r],_,by simp[aJ],by simp[a1],zfo a2 ⟨b1,b2,b3⟩,rfl,b4.bag⟩
  ·rintro ys σ s ⟨l,v,rfl,a1,a2,rfl,a3⟩;rw[zp] at a1;refine zqs (l:=l) rfl (by lia) fun g=>?_
   exact⟨aO l,zyt (by lia) a2,(Drew.more a3 g).bag,rfl⟩
 rintro _ s1 ⟨l,sm,hb,rfl⟩;show WP _ _;refine zcy (R:=fun fl s'=>∃l,Sm N l/\BagAt s' n/\fl=.nx [v0,v1,some (.ref n),some (.int N),some (aK l),v5,v6,v7]) ?_ ?_
 ·simp only[W,V];refine zby hb (by lia) (by lia) fun a s2 a0 a1 D2=>?_
  simp only[W,V];by_cases c:a=1
  ·rw[if_pos c];refine zby D2.bag (by lia) (by lia) fun m s3 m0 m1 D3=>?_
   simp only[Dd.N];refine⟨rngN (by lia) (by lia),by rw[zp];exact small _ (by lia),?_⟩;refine zcz (fun i acc σ s=>∃(l:List (List Int)) (v:Option D),acc=aJ l/\l.length=i/\(∀r∈l,r.length=N.toNat/\(∀x∈r,0<=x)/\∀x∈r,x < 100)/\σ=[v,some (.ref n),some (.int N)]/\BagAt s n) ⟨[],none,rfl,rfl,by simp,rfl,D3.bag⟩ ?_ ?_
   ·rintro i x acc σ s hx ⟨l,v,rfl,a1,a2,rfl,a3⟩;refine⟨_,rfl,?_⟩;simp only[W,V];exact zdd a3 n1 (by lia) (by lia) (by lia) fun r s2 b1 b2 b3 b4=>⟨l++[r],_,by simp[aJ],by simp[a1],zfo a2 ⟨b1,b2,fun x hx=>by have:=zbea b2 x hx;lia⟩,rfl,b4.bag⟩
   ·rintro ys σ s ⟨l,v,rfl,a1,a2,rfl,a3⟩;rw[zp] at a1;refine zqs (l:=l) rfl (by lia) fun g=>?_
    exact⟨aO l,zyt (by lia) a2,(Drew.more a3 g).bag,rfl⟩
  ·rw[if_neg c];exact⟨l,sm,D2.bag,rfl⟩
 rintro _ s2 ⟨l,sm,hb,rfl⟩;show WP _ _;exact zrc n2 sm hb k
theorem zrg (ns:List Int)(hl:ns.length<=63):∃st',zbgu [.scr (ns.map .int)] []=.ok (.bl true) st':=by
 have key:WP (zbgu [.scr (ns.map .int)] []) (fun v _=>v=.bl true):=by
  refine zex rfl ?_;simp only[W,V];have hle:((ns.map D.int).length:Int)<=63:=by rw[xbd];lia
  have hge:(0:Int)<=((ns.map D.int).length:Int):=by lia
  generalize ((ns.map D.int).length:Int)=len at hle hge;refine⟨_,rfl,rngN (by split<;>split<;>lia) (by split<;>split<;>lia),?_⟩;refine zje (fun i σ s=>∃v1 v2 v3 v4 v5 v6 v7:Option D,σ=[some (.scr (ns.map .int)),v1,v2,v3,v4,v5,v6,v7]) ⟨_,_,_,_,_,_,_,rfl⟩ ?_ ?_
  ·rintro i x σ s hx ⟨v1,v2,v3,v4,v5,v6,v7,rfl⟩;obtain⟨hi,rfl⟩:=zhz hx;have hi2:i<=63:=by split at hi<;>split at hi<;>lia
   refine⟨_,rfl,?_⟩;unfold zpq;rw[xjl];refine zcy (R:=fun fl s'=>∃n,BagAt s' n/\fl=.nx [some (.scr (ns.map .int)),some (.int (i:Int)),some (.ref n),v3,v4,v5,v6,v7]) ?_ ?_
   ·simp only[W,V];exact zbgh hl (by lia) fun g hb=>⟨_,hb,rfl⟩
   rintro _ s1 ⟨n,hb,rfl⟩;show WP _ _;refine zcy (R:=fun fl s'=>∃N:Int,(1<=N/\N<=10)/\BagAt s' n/\fl=.nx [some (.scr (ns.map .int)),some (.int (i:Int)),some (.ref n),some (.int N),v4,v5,v6,v7]) ?_ ?_
   ·simp only[W,V];refine zby hb (by lia) (by lia) fun a s2 a0 a1 D2=>?_
    simp only[W,V];exact⟨_,⟨by lia,by lia⟩,D2.bag,rfl⟩
   rintro _ s2 ⟨N,⟨n1,n2⟩,hb,rfl⟩;show WP _ _;refine zcy (R:=fun fl s'=>∃l,Sm N l/\BagAt s' n/\fl=.nx [some (.scr (ns.map .int)),some (.int (i:Int)),some (.ref n),some (.int N),some (aK l),v5,v6,v7]) ?_ ?_
   ·simp only[W,V];refine zis hb n1 (by lia) fun l s3 l1 l2 l3 D3=>?_
    refine⟨l,⟨l2,by lia,fun r hr x hx=>?_⟩,D3.bag,rfl⟩;have:=zbea (l2.pos r hr) x hx;have:=l3 r hr;split at this<;>lia
   rintro _ s3 ⟨l,sm,hb,rfl⟩;show WP _ _;refine zcy (R:=fun fl s'=>∃b:Bool,BagAt s' n/\fl=.nx [some (.scr (ns.map .int)),some (.int (i:Int)),some (.ref n),some (.int N),some (aK l),some (.bl b),v6,v7]) ?_ ?_
   ·simp only[W,V];refine zby hb (by lia) (by lia) fun a s4 a0 a1 D4=>?_
    simp only[W,V];exact⟨_,D4.bag,rfl⟩
   rintro _ s4 ⟨b,hb,rfl⟩;show WP _ _;refine zcy (R:=fun fl s'=>∃l,Sm N l/\BagAt s' n/\fl=.nx [some (.scr (ns.map .int)),some (.int (i:Int)),some (.ref n),some (.int N),some (aK l),some (.bl b),v6,v7]) ?_ ?_
   ·cases b with
    | false =>
     simp only[W,V];refine⟨false,rfl,?_⟩;rw[if_neg (by decide)];exact⟨l,sm,hb,rfl⟩
    | true =>
     refine zbcb (show eTru (aA 5) _ s4=.ok true s4 from rfl) ?_;exact zpv n1 n2 hb fun l s sm hb=>⟨l,sm,hb,rfl⟩
   rintro _ s5 ⟨l,sm,hb,rfl⟩;show WP _ _;have ex:=sm.ex n2 (b:=1000) (by lia);have hf:=sm.few;have pc:=pcs67 ex;refine zcy (R:=fun fl s'=>BagAt s' n/\fl=.nx [some (.scr (ns.map .int)),some (.int (i:Int)),some (.ref n),some (.int N),some (aK l),some (.bl b),some (.str (allT (l.map prodT))),v7]) ?_ ?_
   ·generalize hd:aK l=d;simp only[W,V];exact zck hd.symm ex (by lia) fun g=>⟨(Drew.more hb g).bag,rfl⟩
   rintro _ s6 ⟨hb,rfl⟩;show WP _ _;have aT:=zlp pc;generalize hz:allT (l.map prodT)=z at aT;refine zcy (R:=fun fl s'=>BagAt s' n/\fl=.nx [some (.scr (ns.map .int)),some (.int (i:Int)),some (.ref n),some (.int N),some (aK l),some (.bl b),some (.str z),v7]) ?_ ?_
   ·simp only[W,V];refine⟨b,rfl,?_⟩;cases b with
    | true =>
     rw[if_neg (by decide)];exact⟨hb,trivial⟩
    | false =>
     rw[if_pos rfl];refine zeh ex (by lia) ?_;rw[hz];refine zeq aT ⟨true,rfl,?_⟩;rw[if_neg (by decide)];exact⟨hb,trivial⟩
   rintro _ s7 ⟨hb,rfl⟩;show WP _ _;refine zcy (R:=fun fl s'=>fl=.nx [some (.scr (ns.map .int)),some (.int (i:Int)),some (.ref n),some (.int N),some (aK l),some (.bl b),some (.str z),v7]) ?_ ?_
   ·simp only[W,V];refine zhi hb n1 n2 fun s'=>⟨true,rfl,?_⟩
    rw[if_neg (by decide)]
    trivial
   rintro _ s8 rfl;show WP _ _;refine zcy (R:=fun fl s'=>fl=.nx [some (.scr (ns.map .int)),some (.int (i:Int)),some (.ref n),some (.int N),some (aK l),some (.bl b),some (.str z),some (aK l)]) ?_ ?_
   ·simp only[W,V];rw[← hz];exact zlv n1 n2 sm fun g=>rfl
   rintro _ s9 rfl;show WP _ _;simp only[W,V];refine WP.of (zes (neg:=true) rfl rfl (Sh.sum (n:=62))) ?_;dsimp only[bK];rw[if_neg (by decide)];refine zvg (fun r hr=>let x:=sm.ex n2 (b:=100) (by lia) r hr;⟨x.len,x.lo,x.hi⟩) (by lia) ⟨true,rfl,?_⟩;rw[if_neg (by decide)];simp only[L];exact⟨_,_,_,_,_,_,_,rfl⟩
  ·rintro σ s ⟨v1,v2,v3,v4,v5,v6,v7,rfl⟩;simp only[W,V]
 obtain⟨a,st',e,rfl⟩:=key.get;exact⟨st',e⟩
end
end Dd
namespace K67
theorem holds:∀ns:List Int,ns.length<=63->∃st',Dd.zbgu [.scr (ns.map .int)] []=.ok (.bl true) st':=fun ns hl=>Dd.zrg ns hl
end K67
namespace K67
open PySem L2 Dd
noncomputable def top (i:Nat):Stmt:=PySem.Challenge.pw_raisedsums_k67_sums_written.main.body.getD i (.Pass ⟨0,0,0,0⟩)
section
variable {Y:En}
theorem zmh (T:TopF Y.K "_law_bag" (top 26))(Ad:Y.mg "len"=none)(z_abs:Y.mg "abs"=none)(Am:Y.mg "min"=none)(Ae:Y.mg "range"=none):Cl Y "_law_bag" 1 ["_law_script", "_law_at"] zed:=cmk ["_law_script", "_law_at", "_law_cell", "_law_mix", "_law_k"] T fun nd f cdv A outer s H E hr=>(zb (sst nd ze)
 (zb (zcl (zy (zqp hr.units0) zqu sv (zk zbe zix rfl Ad zfw (sa1 sv)) (nomark _)) (zd (sst nd (zk zwh zbgo rfl z_abs zbgf (sa1 (zjw sv sv (fun _ _=>rfl)))))) zbl)
 (zb (sst nd (sad (zgf zma (oI_D fun _ _ _ _=>.int _) ze sv) ze))
 (zb (sfr (zbd rfl Ae (sa1 (zk (zlh rfl) zbgp rfl Am zbbk (sa2 (zk zbe zix rfl Ad zfw (sa1 sv)) ze)))) (sgn nd)
 (zd (sst nd (zgf zgy (oI_D fun _ _ _ _=>.int _) (sad (sad (zgf zma (oI_D fun _ _ _ _=>.int _) sv ze) (zgf zgy (oI_D fun _ _ _ _=>.int _) (zjw sv sv (fun _ _=>rfl)) ze)) sv) ze))))
 (zb (zcl (zy (zqp hr.units0) zqu sv (zgf zbdr (oI_D fun _ _ _ _=>.int _) ze ze) (nomark _)) (zd (sst nd ze)) zbl)
 (zd (zm (zov (sa2 sv sv)))))))))
theorem zjr (T:TopF Y.K "_law_take" (top 27))  : Cl Y "_law_take" 1 ["_law_bag_here", "_law_many"] zc:=cmk ["_law_bag_here", "_law_many", "_law_digit", "_law_number", "_law_room"] T fun nd f cdv A outer s H E hr=>(zb (zcl (zy znu (zjs fun _ _ _ _=>.bl _) (zjw sv ze (fun _ _=>rfl)) ze (nomark _)) (zb (sst nd (zgf zgy (oI_D fun _ _ _ _=>.int _) (zjw sv ze (fun _ _=>rfl)) sv))
 (zb (zez (zgf znv (oI_D fun _ _ _ _=>.int _) (zjw sv ze (fun _ _=>rfl)) sv) sv ze)
 (zd (zm sv)))) zbl)
 (zb (sst nd ze)
 (zb (sst nd ze)
 (zb (zkz PassesOwn.never (zy (zqp hr.units0) zqu sv sv (nomark _)) (zb (zez (zgf zgy (oI_D fun _ _ _ _=>.int _) (sad (zgf zma (oI_D fun _ _ _ _=>.int _) (zjw sv ze (fun _ _=>rfl)) ze) ze) ze) sv ze)
 (zb (sst nd (sad (zgf zma (oI_D fun _ _ _ _=>.int _) sv ze) (zgf zgy (oI_D fun _ _ _ _=>.int _) (zgf zma (oI_D fun _ _ _ _=>.int _) (zgf znv (oI_D fun _ _ _ _=>.int _) (zjw sv ze (fun _ _=>rfl)) ze) ze) ze)))
 (zd (sst nd (zgf zma (oI_D fun _ _ _ _=>.int _) sv ze))))))
 (zd (zm (zgf zgy (oI_D fun _ _ _ _=>.int _) sv sv)))))))
theorem zmg (T:TopF Y.K "_law_odd" (top 29))(Au:Y.mg "sorted"=none)(Aa:Y.mg "tuple"=none):Cl Y "_law_odd" 1 ["_law_products"] zbb:=cmk ["_law_products", "_law_often", "_law_product"] T fun nd f cdv A outer s H E hr=>(zb (sst nd zbat)
 (zb (sfr (zdl sv) (sgn nd)
 (zd (zvt (zbet hr) sv sv (sad (zwc (zbet hr) sv sv ze ⟨rfl,rfl,rfl,rfl⟩) ze) rfl)))
 (zd (zm (zbi zbo zeo rfl Aa zcn (sa1 (zk (zka rfl hr.units) zse rfl Au zsd (sa1 (zit rfl (zvw sv) (fun _ _ _ _ _=>(zcm (i:=0) (show(["_law_product", "_law_often"]:List Str).Nodup from by decide +kernel) rfl (Or.inl rfl))) (fun _ _ _ _ _=>(zot (zy (zfj hr.units) zjb (zgf zgy (oI_D fun _ _ _ _=>.int _) (zbau (zbet hr) sv sv (fun _ _=>rfl)) ze) ze (nomark _)))) (fun _ _ _ _ _=>sv) (N:=["_law_product", "_law_often"]) (k:=1) (is:=[1]) (zet (by rfl)))))))))))
theorem zdj (T:TopF Y.K "_law_drawn_product" (top 28))(Ae:Y.mg "range"=none)(Aa:Y.mg "tuple"=none)(Ab:Cl Y "_law_take" 1 ["_law_bag_here", "_law_many"] zc):Cl Y "_law_drawn_product" 2 ["_law_bag_here", "_law_n", "_law_most"] zg:=cmk ["_law_bag_here", "_law_n", "_law_most", "_law_left", "_law_start", "_law_exponents", "_law_k", "_law_e"] T fun nd f cdv A outer s H E hr=>(zb (sst nd (scl Ab hr (sa2 sv (sad sv ze))))
  (zb (sst nd (scl Ab hr (sa2 sv sv)))
  (zb (zrn (i:=5) rfl nd rfl (Or.inl rfl) (zbd rfl Ae (sa1 sv)) (fun _ _ _ _ _=>(zcm (i:=0) (show(["_law_letter"]:List Str).Nodup from by decide +kernel) rfl (Or.inl rfl))) (fun _ _ _ _ _=>zen) (fun _ _ _ _ _=>ze) (N:=["_law_letter"]) (k:=1) (is:=[]) (zet (by rfl)))
  (zb (sfr (zbd rfl Ae (sa1 (ssb sv ze))) (sgn nd)
  (zb (sst nd (scl Ab hr (sa2 sv (sad sv ze))))
  (zb (zez sv sv (zgf zgy (oI_D fun _ _ _ _=>.int _) (sad sv sv) sv))
  (zd (sst nd (ssb sv sv))))))
  (zb (zez sv sv (zgf zgy (oI_D fun _ _ _ _=>.int _) (ssb (sad sv sv) ze) sv))
  (zd (zm (zbi zbo zeo rfl Aa zcn (sa1 sv)))))))))
theorem zeu (T:TopF Y.K "_law_drawn_sum" (top 30))(Ag:Y.mg "int"=none)(Ae:Y.mg "range"=none)(z_sum:Y.mg "sum"=none)(An:Y.mg "max"=none)(Ab:Cl Y "_law_take" 1 ["_law_bag_here", "_law_many"] zc)(Ao:Cl Y "_law_drawn_product" 2 ["_law_bag_here", "_law_n", "_law_most"] zg)(Ai:Cl Y "_law_odd" 1 ["_law_products"] zbb):Cl Y "_law_drawn_sum" 3 ["_law_bag_here", "_law_n"] zbv:=cmk ["_law_bag_here", "_law_n", "_law_most", "_law_many", "_law_products", "_law_degree"] T fun nd f cdv A outer s H E hr=>(zb (sst nd (zjw (zow (sa2 ze ze)) (zbi zhn zwk rfl Ag zms (sa1 (zjx znu (zjs fun _ _ _ _=>.bl _) sv ze (nomark _)))) (fun _ _=>rfl)))
  (zb (sst nd (scl Ab hr (sa2 sv ze)))
  (zb (zcl (zy (zfj hr.units) zjb (scl Ab hr (sa2 sv ze)) ze (nomark _)) (zd (sst nd (scl Ab hr (sa2 sv (zjw (zow (sa2 ze ze)) (zbi zhn zwk rfl Ag zms (sa1 (zjx znu (zjs fun _ _ _ _=>.bl _) sv ze (nomark _)))) (fun _ _=>rfl)))))) zbl)
  (zb (zor (i:=4) rfl nd rfl (Or.inl rfl) (zbd rfl Ae (sa1 sv)) (fun _ _ _ _ _=>(zcm (i:=0) (show(["_law_k", "_law_bag_here", "_law_n", "_law_most"]:List Str).Nodup from by decide +kernel) rfl (Or.inl rfl))) (fun _ _ _ _ _=>zen) (fun _ _ _ _ _=>(scl Ao hr (zfb sv (sa2 sv sv)))) (N:=["_law_k", "_law_bag_here", "_law_n", "_law_most"]) (k:=1) (is:=[0, 1, 2]) (zet (by rfl)))
  (zb (zcl (JW.pt (zsz (zy (zfj hr.units) zjb (scl Ab hr (sa2 sv ze)) ze (nomark _)) (zft (zy znu (zjs fun _ _ _ _=>.bl _) sv ze (nomark _)) (by first | exact Or.inl rfl | exact Or.inr rfl)))) (zb (sst nd (zk (zsa rfl) zbbq rfl An zbbl (sa1 (scp ["_law_product"] (zdl sv) (fun _ _ _ _ _=>(zk (zlf rfl) zbbp rfl z_sum zbbj (sa1 sv)))))))
  (zd (zor (i:=4) rfl nd rfl (Or.inl rfl) (zdl sv) (fun _ _ _ _ _=>(zcm (i:=0) (show(["_law_product", "_law_degree"]:List Str).Nodup from by decide +kernel) rfl (Or.inl rfl))) (fun _ _ _ _ _=>zen) (fun _ _ _ _ _=>(sad (zbfv sv zem (zel (zbar ze))) (zbaq (sa1 (ssb (sad (zjw sv (zbar ze) (fun _ _=>rfl)) sv) (zk (zlf rfl) zbbp rfl z_sum zbbj (sa1 sv))))))) (N:=["_law_product", "_law_degree"]) (k:=1) (is:=[5]) (zet (by rfl))))) zbl)
  (zd (zm (scl Ai hr (sa1 sv)))))))))
theorem zdo (T:TopF Y.K "_law_product_text" (top 31))(Ad:Y.mg "len"=none)(Ae:Y.mg "range"=none)(Ah:Y.mg "str"=none):Cl Y "_law_product_text" 1 ["_law_product"] zbk:=cmk ["_law_product", "_law_words", "_law_k"] T fun nd f cdv A outer s H E hr=>(zb (sst nd (zov zlc))
 (zb (sfr (zbd rfl Ae (sa1 (zk zbe zix rfl Ad zfw (sa1 sv)))) (sgn nd)
 (zd (zcl (zy znu (zjs fun _ _ _ _=>.bl _) (zjw sv sv (fun _ _=>rfl)) ze (nomark _)) (zd (zos (zle sv (sa1 (sad (zbfy zew sv (fun _ _=>rfl)) (zpr (zy znu (zjs fun _ _ _ _=>.bl _) (zjw sv sv (fun _ _=>rfl)) ze (nomark _)) (zbi zlg zti rfl Ah zsc (sa1 (zjw sv sv (fun _ _=>rfl)))) zew)))))) zbl)))
 (zd (zm (zpr (zy znu (zjs fun _ _ _ _=>.bl _) (zk zbe zix rfl Ad zfw (sa1 sv)) ze (nomark _)) (zld zew (sa1 (zbje sv))) zew)))))
theorem zfm (T:TopF Y.K "_law_sum_text" (top 34))(Ad:Y.mg "len"=none)(Av:Cl Y "_law_product_text" 1 ["_law_product"] zbk):Cl Y "_law_sum_text" 2 ["_law_some"] zq:=cmk ["_law_some"] T fun nd f cdv A outer s H E hr=>(zd (zm (zpr (zy znu (zjs fun _ _ _ _=>.bl _) (zk zbe zix rfl Ad zfw (sa1 sv)) ze (nomark _)) (zld zew (sa1 (scp ["_law_product"] (zdl sv) (fun _ _ _ _ _=>(scl Av hr (sa1 sv)))))) zew)))
theorem zfl (T:TopF Y.K "figures_ahead" (top 19)){k_FIGURES:Tok}(m_FIGURES:Y.mg "FIGURES"=some (.str "0123456789" k_FIGURES)):Cl Y "figures_ahead" 1 ["text"] zu:=cmk ["text", "told", "sign"] T fun nd f cdv A outer s H E hr=>(zb (sst nd zew)
 (zb (sfr (ztb sv) (sgn nd)
 (zb (zcl (zy zjp zyw sv (zde (zer (v:=.str "0123456789") rfl m_FIGURES ⟨_, rfl⟩) (fun _ _=>.str _)) rfl) (zd zro) zbl)
 (zd (zbad (i:=1) nd rfl (Or.inl rfl) sv zzl zbii))))
 (zd (zm sv))))
theorem zha (T:TopF Y.K "read_number" (top 20))(Ad:Y.mg "len"=none)(Ag:Y.mg "int"=none)(Ah:Y.mg "str"=none){Bh:Tok}(m_MOST_FIGURES:Y.mg "MOST_FIGURES"=some (.int 2 Bh))(Ap:Cl Y "figures_ahead" 1 ["text"] zu):Cl Y "read_number" 2 ["text"] zcj:=cmk ["text"] T fun nd f cdv A outer s H E hr=>(zb (zcl (JW.pt (zop (zdk (zrm zbhf zbhf (zjs fun _ _ _ _=>.bl _) (zjs fun _ _ _ _=>.bl _) ze (zk zdp zpg rfl Ad zfw (sa1 sv)) (zde (zer (v:=.int 2) rfl m_MOST_FIGURES ⟨_, rfl⟩) (fun _ _=>.int _)))) (zft (zy (znt hr.units) zjb (scl Ap hr (sa1 sv)) sv (nomark _)) (by first | exact Or.inl rfl | exact Or.inr rfl)))) (zd (zm zwb)) zbl)
 (zd (zm (zpr (zy (zfj hr.units) zjb (zbi zlg zti rfl Ah zsc (sa1 (zbi zli ztj rfl Ag zms (sa1 sv)))) sv (nomark _)) (zbi zli ztj rfl Ag zms (sa1 sv)) zwb))))
theorem zfk (T:TopF Y.K "read_exponent" (top 21))(Aw:Cl Y "read_number" 2 ["text"] zcj):Cl Y "read_exponent" 3 ["figures"] zbu:=cmk ["figures"] T fun nd f cdv A outer s H E hr=>(zd (zm (zpr (zoq sv) (scl Aw hr (sa1 sv)) ze)))
theorem zgd (T:TopF Y.K "read_product" (top 22))(Ad:Y.mg "len"=none)(Aa:Y.mg "tuple"=none){Ax:Tok}(m_LETTERS:Y.mg "LETTERS"=some (.str "abcdefghij" Ax))(Ap:Cl Y "figures_ahead" 1 ["text"] zu)(Ay:Cl Y "read_exponent" 3 ["figures"] zbu):Cl Y "read_product" 4 ["n", "text"] zcd:=cmk ["n", "text", "told", "letter", "e", "figures"] T fun nd f cdv A outer s H E hr=>(zb (zcl (zy (zfj hr.units) zjb sv zew (nomark _)) (zd (zm (zgf zyo zyx (zbaq (sa1 ze)) sv))) zbl)
 (zb (sst nd (zov zlc))
 (zb (sfr (ztb (zwa (zde (zer (v:=.str "abcdefghij") rfl m_LETTERS ⟨_, rfl⟩) (fun _ _=>.str _)) zem (zel sv))) (sgn nd)
 (zb (sst nd ze)
 (zb (zcl (zcr (zrq sv (sa1 sv))) (zb (sst nd (scl Ap hr (sa1 (zwa sv (zel ze) zem))))
 (zb (sst nd (zwa sv (zel (sad ze (zk zdp zpg rfl Ad zfw (sa1 sv)))) zem))
 (zd (sst nd (scl Ay hr (sa1 sv)))))) zbl)
 (zd (zos (zle sv (sa1 sv)))))))
 (zd (zm (zpr (zy (zfj hr.units) zjb sv zew (nomark _)) (zbi zbo zeo rfl Aa zcn (sa1 sv)) zwb))))))
theorem zjq (T:TopF Y.K "is_rising" (top 2))(Aq:Y.mg "zip"=none)(Aj:Y.mg "all"=none):Cl Y "is_rising" 1 ["things"] zdh:=cmk ["things"] T fun nd f cdv A outer s H E hr=>(zd (zm (zk (zkb rfl) zwl rfl Aj zwj (sa1 (zit rfl (zbaj rfl Aq (sa2 sv (zbfv sv (zel ze) zem))) (fun _ _ _ _ _=>(ztd rfl (zfa (zcm (i:=0) (show(["one", "other"]:List Str).Nodup from by decide +kernel) rfl (Or.inl rfl)) (zfa (zcm (i:=1) (show(["one", "other"]:List Str).Nodup from by decide +kernel) rfl (Or.inl rfl)) zou)))) (fun _ _ _ _ _=>zen) (fun _ _ _ _ _=>(zjx (zqp hr.units0) zqu sv sv (nomark _))) (N:=["one", "other"]) (k:=2) (is:=[]) (zet (by rfl)))))))
theorem zmf (T:TopF Y.K "is_whole" (top 1))(Ar:Y.mg "bool"=none)(Af:Y.mg "isinstance"=none)(Ag:Y.mg "int"=none):Cl Y "is_whole" 1 ["thing"] zee:=cmk ["thing"] T fun nd f cdv A outer s H E hr=>(zd (zm (zru (zk zbj zcb rfl Af zt (sa2 sv (zde (zdr (v:=.ty "int") rfl Ag zms rfl) (fun _ _=>.ty _)))) (zrs (zbfw (zk zbj zcb rfl Af zt (sa2 sv (zde (zdr (v:=.ty "bool") rfl Ar zth rfl) (fun _ _=>.ty _)))))))))
theorem zic (T:TopF Y.K "is_product" (top 7))(Ad:Y.mg "len"=none)(Aa:Y.mg "tuple"=none)(Af:Y.mg "isinstance"=none)(Aj:Y.mg "all"=none)(Az:Cl Y "is_whole" 1 ["thing"] zee):Cl Y "is_product" 2 ["n", "thing"] zcv:=cmk ["n", "thing"] T fun nd f cdv A outer s H E hr=>(zb (zcl (JW.pt (zop (zdk (zcr (zk zbj zcb rfl Af zt (sa2 sv (zde (zdr (v:=.ty "tuple") rfl Aa zcn rfl) (fun _ _=>.ty _)))))) (zft (zy (znt hr.units) zjb (zk zbe zix rfl Ad zfw (sa1 sv)) sv (nomark _)) (by first | exact Or.inl rfl | exact Or.inr rfl)))) (zd (zm zwe)) zbl)
 (zd (zm (zk (zkb rfl) zwl rfl Aj zwj (sa1 (scp ["e"] (zdl sv) (fun _ _ _ _ _=>(zru (scl Az hr (sa1 sv)) (zrs (zjx zbib (zjs fun _ _ _ _=>.bl _) sv ze (nomark _)))))))))))
theorem zqq (T:TopF Y.K "is_sum" (top 8))(Aa:Y.mg "tuple"=none)(Af:Y.mg "isinstance"=none)(Aj:Y.mg "all"=none)(A0:Cl Y "is_rising" 1 ["things"] zdh)(A1:Cl Y "is_product" 2 ["n", "thing"] zcv):Cl Y "is_sum" 3 ["n", "thing"] zhq:=cmk ["n", "thing"] T fun nd f cdv A outer s H E hr=>(zb (zcl (zdk (zcr (zk zbj zcb rfl Af zt (sa2 sv (zde (zdr (v:=.ty "tuple") rfl Aa zcn rfl) (fun _ _=>.ty _)))))) (zd (zm zwe)) zbl)
 (zd (zm (zru (zk (zkb rfl) zwl rfl Aj zwj (sa1 (scp ["product", "n"] (zdl sv) (fun _ _ _ _ _=>(scl A1 hr (sa2 sv sv)))))) (zrs (scl A0 hr (sa1 sv)))))))
theorem zmd (T:TopF Y.K "show_all" (top 17)){A2:Tok}(m_BETWEEN:Y.mg "BETWEEN"=some (.str " + " A2)){A3:Tok}(m_NOTHING:Y.mg "NOTHING"=some (.str "0" A3)):Cl Y "show_all" 1 ["texts"] zeb:=cmk ["texts"] T fun nd f cdv A outer s H E hr=>(zd (zm (zpr (zcr sv) (zld (zde (zer (v:=.str " + ") rfl m_BETWEEN ⟨_, rfl⟩) (fun _ _=>.str _)) (sa1 sv)) (zde (zer (v:=.str "0") rfl m_NOTHING ⟨_, rfl⟩) (fun _ _=>.str _)))))
theorem zgz (T:TopF Y.K "show_letter" (top 15))  : Cl Y "show_letter" 1 ["letter", "e"] zci:=cmk ["letter", "e"] T fun nd f cdv A outer s H E hr=>(zb (zcl (zy (zfj hr.units) zjb sv ze (nomark _)) (zd (zm zew)) zbl)
 (zd (zm (zpr (zy (zfj hr.units) zjb sv ze (nomark _)) sv (zbas sv sv)))))
theorem zgc (T:TopF Y.K "show_product" (top 16))(Aq:Y.mg "zip"=none){Ax:Tok}(m_LETTERS:Y.mg "LETTERS"=some (.str "abcdefghij" Ax))(A4:Cl Y "show_letter" 1 ["letter", "e"] zci):Cl Y "show_product" 2 ["product"] zcc:=cmk ["product", "told"] T fun nd f cdv A outer s H E hr=>(zb (sst nd (zld zew (sa1 (zit rfl (zvv rfl Aq (sa2 (zde (zer (v:=.str "abcdefghij") rfl m_LETTERS ⟨_, rfl⟩) (fun _ _=>.str _)) sv)) (fun _ _ _ _ _=>(ztd rfl (zfa (zcm (i:=0) (show(["letter", "e"]:List Str).Nodup from by decide +kernel) rfl (Or.inl rfl)) (zfa (zcm (i:=1) (show(["letter", "e"]:List Str).Nodup from by decide +kernel) rfl (Or.inl rfl)) zou)))) (fun _ _ _ _ _=>zen) (fun _ _ _ _ _=>(scl A4 hr (sa2 sv sv))) (N:=["letter", "e"]) (k:=2) (is:=[]) (zet (by rfl))))))
  (zd (zm (zpr (zoq sv) sv zew))))
theorem zmc (T:TopF Y.K "show_sum" (top 18))(A5:Cl Y "show_all" 1 ["texts"] zeb)(A6:Cl Y "show_product" 2 ["product"] zcc):Cl Y "show_sum" 3 ["some"] zbw:=cmk ["some"] T fun nd f cdv A outer s H E hr=>(zd (zm (scl A5 hr (sa1 (scp ["product"] (zdl sv) (fun _ _ _ _ _=>(scl A6 hr (sa1 sv))))))))
theorem zmb (T:TopF Y.K "texts_of" (top 23))(Ah:Y.mg "str"=none)(Af:Y.mg "isinstance"=none){A3:Tok}(m_NOTHING:Y.mg "NOTHING"=some (.str "0" A3)){A2:Tok}(m_BETWEEN:Y.mg "BETWEEN"=some (.str " + " A2)):Cl Y "texts_of" 1 ["text"] zea:=cmk ["text"] T fun nd f cdv A outer s H E hr=>(zb (zcl (zdk (zcr (zk zbj zcb rfl Af zt (sa2 sv (zde (zdr (v:=.ty "str") rfl Ah zsc rfl) (fun _ _=>.ty _)))))) (zd zla) zbl)
 (zd (zm (zpr (zy (znt hr.units) zjb sv (zde (zer (v:=.str "0") rfl m_NOTHING ⟨_, rfl⟩) (fun _ _=>.str _)) (nomark _)) (zvz sv (sa1 (zde (zer (v:=.str " + ") rfl m_BETWEEN ⟨_, rfl⟩) (fun _ _=>.str _)))) (zow zlc)))))
theorem zme (T:TopF Y.K "read_sum" (top 24))(Aa:Y.mg "tuple"=none)(A7:Cl Y "texts_of" 1 ["text"] zea)(A8:Cl Y "read_product" 4 ["n", "text"] zcd)(Ak:Cl Y "show_sum" 3 ["some"] zbw)(A9:Cl Y "is_sum" 3 ["n", "thing"] zhq):Cl Y "read_sum" 5 ["n", "text"] zec:=cmk ["n", "text", "told"] T fun nd f cdv A outer s H E hr=>(zb (sst nd (zbi zbo zeo rfl Aa zcn (sa1 (scp ["one", "n"] (zdl (scl A7 hr (sa1 sv))) (fun _ _ _ _ _=>(scl A8 hr (sa2 sv sv)))))))
 (zb (zcl (JW.pt (zop (zdk (zcr (scl A9 hr (sa2 sv sv)))) (zft (zy (znt hr.units) zjb (scl Ak hr (sa1 sv)) sv (nomark _)) (by first | exact Or.inl rfl | exact Or.inr rfl)))) (zd zla) zbl)
 (zd (zm sv))))
theorem zej (T:TopF Y.K "_law_text_right" (top 33))(Ah:Y.mg "str"=none)(Af:Y.mg "isinstance"=none):Cl Y "_law_text_right" 1 ["_law_told", "_law_due"] zx:=cmk ["_law_told", "_law_due"] T fun nd f cdv A outer s H E hr=>(zd (zm (zru (zk zbj zcb rfl Af zt (sa2 sv (zde (zdr (v:=.ty "str") rfl Ah zsc rfl) (fun _ _=>.ty _)))) (zrs (zjx (zfj hr.units) zjb sv sv (nomark _))))))
theorem zdi (T:TopF Y.K "_law_great_product" (top 36))(Ae:Y.mg "range"=none)(Aa:Y.mg "tuple"=none)(Ab:Cl Y "_law_take" 1 ["_law_bag_here", "_law_many"] zc):Cl Y "_law_great_product" 2 ["_law_bag_here", "_law_n"] zbc:=cmk ["_law_bag_here", "_law_n"] T fun nd f cdv A outer s H E hr=>(zd (zm (zbi zbo zeo rfl Aa zcn (sa1 (scp ["_law_letter", "_law_bag_here"] (zbd rfl Ae (sa1 sv)) (fun _ _ _ _ _=>(scl Ab hr (sa2 sv (zjw (zow (sa2 ze ze)) (scl Ab hr (sa2 sv ze)) (fun _ _=>rfl))))))))))
theorem zdt (T:TopF Y.K "_law_great_right" (top 37))(Ag:Y.mg "int"=none)(Ae:Y.mg "range"=none)(Ab:Cl Y "_law_take" 1 ["_law_bag_here", "_law_many"] zc)(Ai:Cl Y "_law_odd" 1 ["_law_products"] zbb)(Ba:Cl Y "_law_great_product" 2 ["_law_bag_here", "_law_n"] zbc)(As:Cl Y "_law_text_right" 1 ["_law_told", "_law_due"] zx)(Al:Cl Y "_law_sum_text" 2 ["_law_some"] zq)(Ak:Cl Y "show_sum" 3 ["some"] zbw):Cl Y "_law_great_right" 4 ["_law_bag_here", "_law_n"] zbn:=cmk ["_law_bag_here", "_law_n", "_law_many", "_law_some"] T fun nd f cdv A outer s H E hr=>(zb (sst nd (scl Ab hr (sa2 sv (zjw (zow (sa2 ze ze)) (zbi zhn zwk rfl Ag zms (sa1 (zjx znu (zjs fun _ _ _ _=>.bl _) sv ze (nomark _)))) (fun _ _=>rfl)))))
 (zb (sst nd (scl Ai hr (sa1 (scp ["_law_k", "_law_bag_here", "_law_n"] (zbd rfl Ae (sa1 sv)) (fun _ _ _ _ _=>(scl Ba hr (sa2 sv sv)))))))
 (zd (zm (scl As hr (sa2 (scl Ak hr (sa1 sv)) (scl Al hr (sa1 sv))))))))
theorem zds (T:TopF Y.K "_law_right_kinds" (top 35))(Ar:Y.mg "bool"=none)(Af:Y.mg "isinstance"=none)(Ad:Y.mg "len"=none)(Aa:Y.mg "tuple"=none):Cl Y "_law_right_kinds" 1 ["_law_some"] zbm:=cmk ["_law_some", "_law_product"] T fun nd f cdv A outer s H E hr=>(zb (sfr (zdl sv) (sgn nd)
 (zd (zcl (JW.pt (zop (zdk (zcr (zk zbj zcb rfl Af zt (sa2 sv (zde (zdr (v:=.ty "tuple") rfl Aa zcn rfl) (fun _ _=>.ty _)))))) (zft (zy znu (zjs fun _ _ _ _=>.bl _) (zk zbe zix rfl Ad zfw (sa1 (zit rfl (zdl sv) (fun _ _ _ _ _=>(zcm (i:=0) (show(["_law_e"]:List Str).Nodup from by decide +kernel) rfl (Or.inl rfl))) (fun _ _ _ _ _=>(zot (zcr (zk zbj zcb rfl Af zt (sa2 sv (zde (zdr (v:=.ty "bool") rfl Ar zth rfl) (fun _ _=>.ty _))))))) (fun _ _ _ _ _=>sv) (N:=["_law_e"]) (k:=1) (is:=[]) (zet (by rfl))))) ze (nomark _)) (by first | exact Or.inl rfl | exact Or.inr rfl)))) (zd (zm zwe)) zbl)))
 (zd (zm (zk zbj zcb rfl Af zt (sa2 sv (zde (zdr (v:=.ty "tuple") rfl Aa zcn rfl) (fun _ _=>.ty _)))))))
theorem zdn (T:TopF Y.K "_law_wide_product" (top 32))(Ae:Y.mg "range"=none)(Aa:Y.mg "tuple"=none)(Ab:Cl Y "_law_take" 1 ["_law_bag_here", "_law_many"] zc):Cl Y "_law_wide_product" 2 ["_law_bag_here", "_law_n"] zw:=cmk ["_law_bag_here", "_law_n"] T fun nd f cdv A outer s H E hr=>(zd (zm (zbi zbo zeo rfl Aa zcn (sa1 (scp ["_law_letter", "_law_bag_here"] (zbd rfl Ae (sa1 sv)) (fun _ _ _ _ _=>(scl Ab hr (sa2 sv ze))))))))
theorem zbdv {f:Addr}{fd:FuncData}(F:Fun Y.K "law" "law" (top 38) f fd)(Ad:Y.mg "len"=none)(Am:Y.mg "min"=none)(An:Y.mg "max"=none)(Ae:Y.mg "range"=none)(Bb:Cl Y "_law_bag" 1 ["_law_script", "_law_at"] zed)(Ab:Cl Y "_law_take" 1 ["_law_bag_here", "_law_many"] zc)(Bc:Cl Y "_law_drawn_sum" 3 ["_law_bag_here", "_law_n"] zbv)(Ai:Cl Y "_law_odd" 1 ["_law_products"] zbb)(Bd:Cl Y "_law_wide_product" 2 ["_law_bag_here", "_law_n"] zw)(Ao:Cl Y "_law_drawn_product" 2 ["_law_bag_here", "_law_n", "_law_most"] zg)(Al:Cl Y "_law_sum_text" 2 ["_law_some"] zq)(As:Cl Y "_law_text_right" 1 ["_law_told", "_law_due"] zx)(Ak:Cl Y "show_sum" 3 ["some"] zbw)(Be:Cl Y "_law_great_right" 4 ["_law_bag_here", "_law_n"] zbn)(Bf:Cl Y "read_sum" 5 ["n", "text"] zec)(Bg:Cl Y "_law_right_kinds" 1 ["_law_some"] zbm):FnOk Y.P Y.w Y.K Y.mg Y.base CX0 6 f fd ["_law_script"] (spLaw Y.K) :=
 have sc:FnScope ["_law_script", "_law_at", "_law_bag_here", "_law_n", "_law_some", "_law_wide", "_law_due", "_law_found"] ["_law_script"] (defScope (top 38)):=⟨rfl, rfl, rfl, by decide +kernel, rfl, by decide +kernel, by decide +kernel⟩
 have nd:=sc.nd
 zzh (k:=5) F sc rfl (fun cdv A outer s H E hr=>(zb (sfr (zbd rfl Ae (sa1 (zk (zsb rfl) zbgp rfl An zbbl (sa2 ze (zk (zlh rfl) zbgp rfl Am zbbk (sa2 ze (zk zbe zix rfl Ad zfw (sa1 sv)))))))) (sgn nd)
 (zb (sst nd (scl Bb hr (sa2 sv sv)))
 (zb (sst nd (sad ze (scl Ab hr (sa2 sv ze))))
 (zb (sst nd (scl Bc hr (sa2 sv sv)))
 (zb (sst nd (zjx (zfj hr.units) zjb (scl Ab hr (sa2 sv ze)) ze (nomark _)))
 (zb (zcl (zcr sv) (zb (sst nd (scl Ai hr (sa1 (scp ["_law_k", "_law_bag_here", "_law_n"] (zbd rfl Ae (sa1 (scl Ab hr (sa2 sv ze)))) (fun _ _ _ _ _=>(scl Bd hr (sa2 sv sv)))))))
 (zb (zcl (zy (zfj hr.units) zjb (scl Ab hr (sa2 sv ze)) ze (nomark _)) (zd (sst nd (scl Ai hr (sa1 (scp ["_law_k", "_law_bag_here", "_law_n"] (zbd rfl Ae (sa1 (scl Ab hr (sa2 sv ze)))) (fun _ _ _ _ _=>(scl Ao hr (zfb sv (sa2 sv ze))))))))) zbl)
 (zd (zkz PassesOwn.never (zy znu (zjs fun _ _ _ _=>.bl _) (zk zdp zpg rfl Ad zfw (sa1 (scl Al hr (sa1 sv)))) ze (nomark _)) (zd (sst nd (zbfv sv (zel ze) zem))))))) zbl)
 (zb (sst nd (scl Al hr (sa1 sv)))
 (zb (zcl (JW.pt (zsz (zdk (zcr sv)) (zft (zdk (zcr (scl As hr (sa2 (scl Ak hr (sa1 sv)) sv)))) (by first | exact Or.inl rfl | exact Or.inr rfl)))) (zd (zm zwe)) zbl)
 (zb (zcl (zdk (zcr (scl Be hr (sa2 sv sv)))) (zd (zm zwe)) zbl)
 (zb (sst nd (scl Bf hr (sa2 sv sv)))
 (zd (zcl (JW.pt (zop (zy (znt hr.units) zjb sv sv (nomark _)) (zft (zdk (zcr (scl Bg hr (sa1 sv)))) (by first | exact Or.inl rfl | exact Or.inr rfl)))) (zd (zm zwe)) zbl))))))))))))
 (zd (zm zwe)))) K67.holds
end
theorem all_mk {l:W.OpenLaw}{w:World}{K:Fg}{h:Heap}{mg:Str->Option Value}{fa:Addr}{u0:Tok}{u1:Tok}{u2:Tok}{u3:Tok}{u4:Tok}(X:K.In h)(G:h.Ns mainGlobals mg)(hfa:mg "law"=some (.ref fa))
  (t1:TopF K "_law_bag" (top 26))(t2:TopF K "_law_take" (top 27))(t3:TopF K "_law_odd" (top 29))(t4:TopF K "_law_drawn_product" (top 28))(t5:TopF K "_law_drawn_sum" (top 30))(t6:TopF K "_law_product_text" (top 31))(t7:TopF K "_law_sum_text" (top 34))(t8:TopF K "figures_ahead" (top 19))(t9:TopF K "read_number" (top 20))(t10:TopF K "read_exponent" (top 21))(t11:TopF K "read_product" (top 22))(t12:TopF K "is_rising" (top 2))(t13:TopF K "is_whole" (top 1))(t14:TopF K "is_product" (top 7))(t15:TopF K "is_sum" (top 8))(t16:TopF K "show_all" (top 17))(t17:TopF K "show_letter" (top 15))(t18:TopF K "show_product" (top 16))(t19:TopF K "show_sum" (top 18))(t20:TopF K "texts_of" (top 23))(t21:TopF K "read_sum" (top 24))(t22:TopF K "_law_text_right" (top 33))(t23:TopF K "_law_great_product" (top 36))(t24:TopF K "_law_great_right" (top 37))(t25:TopF K "_law_right_kinds" (top 35))(t26:TopF K "_law_wide_product" (top 32))(t27:TopF K "law" (top 38))  (z0:W.nsIn K mainGlobals "len"=some none)(z1:W.nsIn K mainGlobals "abs"=some none)(z2:W.nsIn K mainGlobals "min"=some none)(z3:W.nsIn K mainGlobals "range"=some none)(z4:W.nsIn K mainGlobals "sorted"=some none)(z5:W.nsIn K mainGlobals "tuple"=some none)(z6:W.nsIn K mainGlobals "int"=some none)(z7:W.nsIn K mainGlobals "sum"=some none)(z8:W.nsIn K mainGlobals "max"=some none)(z9:W.nsIn K mainGlobals "str"=some none)(z10:W.nsIn K mainGlobals "zip"=some none)(z11:W.nsIn K mainGlobals "all"=some none)(z12:W.nsIn K mainGlobals "bool"=some none)(z13:W.nsIn K mainGlobals "isinstance"=some none)(y0:W.nsIn K mainGlobals "FIGURES"=some (some (.str "0123456789" u0)))(y1:W.nsIn K mainGlobals "MOST_FIGURES"=some (some (.int 2 u1)))(y2:W.nsIn K mainGlobals "LETTERS"=some (some (.str "abcdefghij" u2)))(y3:W.nsIn K mainGlobals "BETWEEN"=some (some (.str " + " u3)))(y4:W.nsIn K mainGlobals "NOTHING"=some (some (.str "0" u4)))  :
  ∃ fd:FuncData,(∀(s:Shared) (v:Value), BindsTo s fd ⟨[v],[]⟩ [("_law_script", v)])/\∀ base:Heap, K.In base->base.Ns mainGlobals mg->FnOk l.prog w K mg base CX0 6 fa fd ["_law_script"] (spLaw K):=by
 have Ad:=xda X G z0;have z_abs:=xda X G z1;have Am:=xda X G z2;have Ae:=xda X G z3;have Au:=xda X G z4;have Aa:=xda X G z5;have Ag:=xda X G z6;have z_sum:=xda X G z7;have An:=xda X G z8;have Ah:=xda X G z9;have Aq:=xda X G z10;have Aj:=xda X G z11;have Ar:=xda X G z12;have Af:=xda X G z13;have m_FIGURES:=xgs X G y0;have m_MOST_FIGURES:=xgs X G y1;have m_LETTERS:=xgs X G y2;have m_BETWEEN:=xgs X G y3;have m_NOTHING:=xgs X G y4;obtain⟨f,fd,a,F⟩:=t27;have e:=hfa.symm.trans (xgs X G a);cases e;obtain⟨oc,od,kV,doc,pm,an,cdv,ct,osl,rfl,lk,hcd⟩:=id F.ex;refine⟨W.fnOf "law" "law" (defArgs (top 38)) (defBody (top 38)) (defScope (top 38)) .none kV doc pm an cdv ct, fun s v=>.of_eq rfl, fun base _ _=>?_⟩
 let Y:En:=⟨l.prog,w,K,mg,base,h,X,G⟩
 have Bb:=zmh (Y:=Y) t1 Ad z_abs Am Ae;have Ab:=zjr (Y:=Y) t2;have Ai:=zmg (Y:=Y) t3 Au Aa;have Ao:=zdj (Y:=Y) t4 Ae Aa Ab;have Bc:=zeu (Y:=Y) t5 Ag Ae z_sum An Ab Ao Ai;have Av:=zdo (Y:=Y) t6 Ad Ae Ah;have Al:=zfm (Y:=Y) t7 Ad Av;have Ap:=zfl (Y:=Y) t8 m_FIGURES;have Aw:=zha (Y:=Y) t9 Ad Ag Ah m_MOST_FIGURES Ap;have Ay:=zfk (Y:=Y) t10 Aw;have A8:=zgd (Y:=Y) t11 Ad Aa m_LETTERS Ap Ay;have A0:=zjq (Y:=Y) t12 Aq Aj;have Az:=zmf (Y:=Y) t13 Ar Af Ag;have A1:=zic (Y:=Y) t14 Ad Aa Af Aj Az;have A9:=zqq (Y:=Y) t15 Aa Af Aj A0 A1;have A5:=zmd (Y:=Y) t16 m_BETWEEN m_NOTHING;have A4:=zgz (Y:=Y) t17;have A6:=zgc (Y:=Y) t18 Aq m_LETTERS A4;have Ak:=zmc (Y:=Y) t19 A5 A6;have A7:=zmb (Y:=Y) t20 Ah Af m_NOTHING m_BETWEEN;have Bf:=zme (Y:=Y) t21 Aa A7 A8 Ak A9;have As:=zej (Y:=Y) t22 Ah Af;have Ba:=zdi (Y:=Y) t23 Ae Aa Ab
 have Be:=zdt (Y:=Y) t24 Ag Ae Ab Ai Ba As Al Ak;have Bg:=zds (Y:=Y) t25 Ar Af Ad Aa;have Bd:=zdn (Y:=Y) t26 Ae Aa Ab;exact zbdv (Y:=Y) F Ad Am An Ae Bb Ab Bc Ai Bd Ao Al As Ak Be Bf Bg
end K67
open PySem PySem.W PyProof.Rows
set_option maxRecDepth 100000 in
set_option maxHeartbeats 0 in
theorem PySem.Challenge.cw_raisedsums_k67_sums_written_holds : PySem.Challenge.rw_raisedsums_k67_sums_written.Holds := by
  w_on; o_law; k_head; (case hw => w_witness2)
  k_fill
  refine L2.zwx (l := PySem.Challenge.rw_raisedsums_k67_sums_written) (n := 63) (k := 6) (x := "_law_script") (CX := fun _ => L2.CX0) (sp := fun w => Dd.spLaw _) rfl (by decide) rfl ⟨rfl, by decide, by decide⟩ (fun w h Y => PySem.W.kIn_of Y) ?F (fun _ _ a ns hl _ hS => ⟨a, ns, rfl, hS, hl, fun _ => rfl⟩) (fun _ _ _ _ _ z => z)
  case F =>
    intro w mg fa h KX G hmg
    refine' K67.all_mk KX G hmg ?t1 ?t2 ?t3 ?t4 ?t5 ?t6 ?t7 ?t8 ?t9 ?t10 ?t11 ?t12 ?t13 ?t14 ?t15 ?t16 ?t17 ?t18 ?t19 ?t20 ?t21 ?t22 ?t23 ?t24 ?t25 ?t26 ?t27  ?z0 ?z1 ?z2 ?z3 ?z4 ?z5 ?z6 ?z7 ?z8 ?z9 ?z10 ?z11 ?z12 ?z13 ?y0 ?y1 ?y2 ?y3 ?y4 
    all_goals first|k_is|kernel_rfl|(refine' L2.zbr ?a ?l ?c ?k;(case a=>k_is);(case l=>k_is);(case c=>k_is);(case k=>k_is))|skip
#print axioms PySem.Challenge.cw_raisedsums_k67_sums_written_holds
