import PyProof.Rows.All
import Wide.All
import OpenK.KSplit
import OpenK.KNot
import OpenK.KApp
import KE.KIsAll
import KE.RegKIsAll
import KE.LcSums
import KE.KItem
import KE.KSortTup
import KE.KSortAsk
import KE.KDictOf
import KE.KItemsList
import Wide.FinOn
import Lean
import PyProof.EqAt
import PyProof.EqKinds
import PyProof.TupleCall
import PySem.Challenge.RW_loanroll_k61_sums_paid_on_days
set_option Elab.async false
set_option linter.all false
set_option maxRecDepth 100000
set_option maxHeartbeats 20000000
noncomputable section
set_option genSizeOf false
namespace PySem.W.Fast
def tw10206540153720449329:=0
def tw8583114499334966004:=0
def tw2894170448711426342:=0
def tw15138470791026877375:=0
def tw861502493610598483:=0
def tw13764138953752482590:=0
def tw9095462852727241198:=0
def tw4642255945157176958:=0
def tw1186011676593774846:=0
def tw7853718676959766473:=0
def tw11854616366305685915:=0
def tw4934116040678700208:=0
def tw18111853076867884516:=0
def tw2250443682989827970:=0
def tw6505400148883583384:=0
def tw1886142198274157871:=0
def tw8574918690776348908:=0
def tw7774113678449685934:=0
def tw16024492617791385187:=0
def tw17891505820241659885:=0
def tw13622848540026110595:=0
def tw10958507122237075249:=0
def tw5927503464811193556:=0
def tw14950160332441906116:=0
def tw10600413367226739535:=0
def tw9289785034321846288:=0
def tw15132458516325018785:=0
def tw18392752954473715759:=0
def tw10794316228461398450:=0
def tw2875724977328499099:=0
def tw3283898770331421783:=0
def tw2870957612703475602:=0
def tw13700598899030691371:=0
def tw14346322387006502589:=0
def tw17346623794827051843:=0
def tw5617726103321767126:=0
def tw11158990594105118765:=0
def tw2041926188850086339:=0
def tw14572810596863954285:=0
def tw15504105790966721872:=0
def tw4993863958327201973:=0
def tw8520198449270238397:=0
def tw12250869413391326473:=0
def tw15870398105094248349:=0
def tw5221592684559293012:=0
def tw5240077947681225987:=0
def tw9530734954097333506:=0
def tw646091604453992162:=0
def tw3233987462203235646:=0
def tw16109456028575089023:=0
def tw12681666616541194006:=0
def tw11205608169257636508:=0
def tw16309811473084048462:=0
def tw17980500129456985241:=0
def tw14647417624928369756:=0
def tw5274481202262711730:=0
def tw5289818103960998278:=0
def tw2978921820657808603:=0
def tw3110587219445414310:=0
def tw7943549864190904611:=0
def tw9296065175928017463:=0
def tw18073898193381586223:=0
def tw2990168724187919761:=0
def tw5086489192560080304:=0
def tw10842938092177581297:=0
def tw9878177214627512989:=0
def tw8997383693586321770:=0
def tw4102176305081739490:=0
def tw10312438410070409164:=0
def tw2754868194923854518:=0
def tw10851082721055443051:=0
def tw3604082896382514872:=0
def tw10825703294847644431:=0
def tw12182174808115992843:=0
def tw17731313482808627303:=0
def tw3475869608268796686:=0
def tw5890639436620234070:=0
def tw14522782377427387804:=0
def tw5661595848482461739:=0
def tw9719393640593047967:=0
def tw17590705303994421779:=0
def tw9387514328989991554:=0
def tw5812350808301622050:=0
def tw11220919329744738794:=0
def tw726351398001015727:=0
def tw6170744672141170255:=0
def tw1125065396945160393:=0
def tw4603639169887128792:=0
def tw18328257000508772394:=0
def tw14391293386007564604:=0
def tw1915925776726481438:=0
def tw431221854992830470:=0
def tw11319137370959639493:=0
def tw1070438729232803039:=0
def tw12843764043397292189:=0
def tw402139726102294341:=0
def tw6338894885288841830:=0
def tw17817366049700826239:=0
def tw9806118890596472461:=0
def tw6105849179199505303:=0
def tw2167315655227761912:=0
def tw9992116715903482975:=0
def tw555815775780349263:=0
def tw17184031218471190783:=0
def tw4493901809537577575:=0
def tw15171223727094530161:=0
def tw5364010647548929812:=0
def tw16380965088707415623:=0
def tw10094733558918713432:=0
def tw14569604634059749682:=0
def tw8151759404152838978:=0
def tw11837218909656210887:=0
def tw2894314189432023629:=0
def tw714316940305868277:=0
def tw8150244357695641675:=0
def tw2528511596961503537:=0
def tw4991487270385306882:=0
def tw15621415185263527259:=0
def tw9959121941294770655:=0
def tw2172918983371916017:=0
def tw3500664145855060485:=0
def tw18220031379085947620:=0
def tw12373591211622371556:=0
def tw16035376269474964883:=0
def tw5444512763150141072:=0
def tw14710976976299594304:=0
def tw13851515409511356469:=0
def tw8757050672659960515:=0
def tw2983494736656345032:=0
def tw18060508904421208200:=0
def tw11564986514327137767:=0
def tw3971525946579005399:=0
def tw8646635810480103244:=0
def tw15438627641174518403:=0
def tw18095796173783872564:=0
def tw12393862125047025020:=0
def tw10387345722656961088:=0
def tw10550934584343373414:=0
def tw13601115934706021691:=0
def tw4757880891971583632:=0
def tw2983127059725616120:=0
def tw10295913840692754127:=0
def tw11793702604926673555:=0
def tw3303267245142563540:=0
def tw7611196895359807804:=0
def tw12528533614272120300:=0
def tw5072417060200589145:=0
def tw4938610541543285704:=0
def tw13459084325293418506:=0
def tw17382457898008728272:=0
def tw3270257207059953099:=0
def tw5816495043963226922:=0
def tw18335596039185421423:=0
def tw154272780991502253:=0
def tw13257283266767686631:=0
def tw4211115844707057057:=0
def tw4884199854448574:=0
def tw6575520176995025181:=0
def tw10151330197121100416:=0
def tw3721919958574915784:=0
def tw17877845533520812795:=0
def tw17852080271459398996:=0
def tw15540911362017771936:=0
def tw2789304352393801511:=0
def tw8454940587590390560:=0
def tw11078473246598507814:=0
def tw16060203290454839817:=0
def tw12930229547647579594:=0
def tw12903330217458380548:=0
def tw9791860783291734942:=0
def tw6145912378217320015:=0
def tw1293241653719404408:=0
def tw11657350159256941575:=0
def tw1045582712504079209:=0
def tw11402884983299125971:=0
def tw14842496431369740429:=0
def tw13956191218907399338:=0
def tw16409965706819354750:=0
def tw4096438862311573950:=0
def tw7926090574327391632:=0
def tw5994696166404524948:=0
def tw2950685276103557050:=0
def tw13053394406489344094:=0
def tw4189273013823423559:=0
def tw3940733116343649955:=0
def tw15214748959534726111:=0
def tw12627051441459223148:=0
def tw10741264400317747893:=0
def tw3817596123196066256:=0
def tw12151077715039277381:=0
def tw3681537716864247207:=0
def tw17558320327384617127:=0
def tw16670193898709178398:=0
def tw17614877247268290040:=0
def tw9536688357841153863:=0
def tw13855379610559885079:=0
def tw3641951560692057861:=0
def tw9860861378791804195:=0
def tw13953587524928339648:=0
def tw8171798328758944481:=0
def tw16116027297012810434:=0
def tw8319933024895762948:=0
def tw9646623106273453227:=0
def tw17499849576073844966:=0
def tw16412085850373738351:=0
def tw7476452910721959123:=0
def tw9584292182412213727:=0
def tw15895094517606616290:=0
def tw3719891259706897012:=0
def tw8157277791214410489:=0
def tw11161164713144168021:=0
def tw18124618509676941091:=0
def tw1342123614928995077:=0
def tw16654469307462801742:=0
def tw6327569006664949090:=0
def tw2546767868308347339:=0
def tw17261404542052806724:=0
def tw10293081186089767411:=0
def tw4480162626587320490:=0
def tw209982475168477708:=0
def tw6631347999910079877:=0
def tw15127105006835628225:=0
def tw16120054744476736488:=0
def tw14736888041290939073:=0
def tw6329614223026926184:=0
def tw11502921971960690029:=0
def tw5344687154915797982:=0
def tw9456574344343218679:=0
def tw7828442866392281868:=0
def tw4313010194945074917:=0
def tw18352723725473834589:=0
def tw5217270863462422736:=0
def tw3214969091617688553:=0
def tw14441679199631801671:=0
def tw16864618592142003386:=0
def tw9197174079833555027:=0
def tw17883462748017686043:=0
def tw9104974531708491489:=0
def tw12132732476715806282:=0
def tw6508132753307246276:=0
def tw8899516883271353254:=0
def tw14958820412457663293:=0
def tw4046790133079468173:=0
def tw1956775160557780875:=0
def tw10406584006884427733:=0
def tw4562827626845409882:=0
def tw11384182702204212275:=0
def tw6128106870883400570:=0
def tw4267111383703672358:=0
def tw12188032599808994241:=0
def tw9186807149237001177:=0
def tw9461873434466728008:=0
def tw18094105663378112561:=0
def tw4953865588907285216:=0
def tw8080008513338510535:=0
def tw15499940227032437249:=0
def tw5404398260228975080:=0
def tw9757595895972200118:=0
def tw5002640475654186023:=0
def tw2187251505897268136:=0
def tw11824586356888161845:=0
def tw1986786360949550309:=0
def tw16773468814595293053:=0
def tw16802631365582062104:=0
def tw1181674027530198351:=0
def tw14546174082565282566:=0
def tw12064304430848566033:=0
def tw7212858340449540239:=0
def tw12477129341811645039:=0
def tw11153126096140912846:=0
def tw424408320835691240:=0
def tw7787813539459594420:=0
def tw5462360663327728810:=0
def tw17713387462200973399:=0
def tw15969335453137586327:=0
def tw4598271963242535575:=0
def tw2997492091776894028:=0
def tw15267169705364848929:=0
def tw8356303796347215682:=0
def tw6701911527682315725:=0
def tw10859743581388371069:=0
def tw2216542800690825051:=0
def tw16248296213531012650:=0
def tw896878414759379649:=0
def tw16670775579421159206:=0
def tw640624198105042115:=0
def tw7792700002687035005:=0
def tw14334995849660946996:=0
def tw8166255043249204926:=0
def tw12330612334027959195:=0
def tw866717566613908145:=0
def tw8210202977690762169:=0
def tw6408665033692976793:=0
def tw9679390387850249182:=0
def tw10792498714594961201:=0
def tw12488014758255163090:=0
def tw3538781236444307513:=0
def tw16260866306193365299:=0
def tw10539347186207431242:=0
def tw5395340147747708899:=0
def tw4327107012436481372:=0
def tw16756451883985382160:=0
def tw2576523973992343609:=0
def tw8185220541750880888:=0
def tw4704452742865826424:=0
def tw16839002366802243188:=0
def tw14935156969734317764:=0
def tw8392358500681263680:=0
def tw7501186508268903616:=0
def tw3433779192033484610:=0
def tw16723463757517087524:=0
def tw87601786513091389:=0
def tw17435391645217708394:=0
def tw3953844824629472508:=0
def tw6469784823511061222:=0
def tw3365755272349913518:=0
def tw12269216009862288129:=0
def tw16721508838639397229:=0
def tw4683681711962371626:=0
def tw8739830900816887780:=0
def tw11401859456886640639:=0
def tw12297992134047619483:=0
def tw1495895850433845275:=0
def tw2827255003249426055:=0
def tw13936439389310444312:=0
def tw13215348057498601715:=0
def tw6284410105664486691:=0
def tw16765560720781731146:=0
def tw14520296925931582552:=0
def tw15932183184989994656:=0
def tw1692201390411429781:=0
def tw18157406047293677543:=0
def tw4548300405975405348:=0
def tw11844019762684407370:=0
def tw10395332584310045583:=0
def tw16212330677787901120:=0
def tw18333273249017474000:=0
def tw15415318616479256277:=0
def tw2474200967059427378:=0
def tw10159399881129095643:=0
def tw14081431093454284249:=0
def tw5388589039460942527:=0
def tw16792556548410726896:=0
def tw17079817176256170043:=0
def tw2768188642542392010:=0
def tw15475723433398761304:=0
def tw8274446707539698164:=0
def tw2015444344454546412:=0
def tw12826555694032677247:=0
def tw10236332898609347644:=0
def tw5233118043267047457:=0
def tw15433366417846715934:=0
def tw5323657890516693427:=0
def tw8833496514701923757:=0
def tw6420159726195949164:=0
def tw17348111734160510231:=0
def tw9252304221032618942:=0
def tw10052031235695348791:=0
def tw3236729772642805936:=0
def tw9553971096990549364:=0
def tw86012387029904805:=0
def tw18441984877410159329:=0
def tw2403389108928632939:=0
def tw18418582437962087742:=0
def tw14321067358777074657:=0
def tw6702445572142316249:=0
def tw9869809959619462935:=0
def tw11207431853666184334:=0
def tw14196522196718054806:=0
def tw14859695947638507448:=0
def tw2333105410213810865:=0
def tw11863963456291920697:=0
def tw15675013803050531044:=0
def tw18248855084332350957:=0
def tw13439652990877377571:=0
def tw5832146486336120021:=0
def tw15733337929971156237:=0
def tw18400553757987027518:=0
def tw296083027919845158:=0
def tw15888466755372326495:=0
def tw14607143338591219252:=0
def tw4946147512530127568:=0
def tw11673493167334670398:=0
def tw16006964320088977360:=0
def tw13390110025980002063:=0
def tw6979879451811627008:=0
def tw15491626551210286737:=0
def tw7940444493234123854:=0
def tw15514331714962229615:=0
def tw16626521671886133394:=0
def tw3665444673518743966:=0
def tw4323258101793500111:=0
def tw542563422162235373:=0
def tw547895379624588593:=0
def tw2228412568605170491:=0
def tw14727194681476072466:=0
def tw16753820520455620202:=0
def tw8840235324560252208:=0
def tw5872530126848033075:=0
def tw4693966885379303072:=0
def tw14284835775768690865:=0
def tw4075453323654395381:=0
def tw140236481695663071:=0
def tw11853640710764476214:=0
def tw12147665669636231765:=0
def tw1599053048872161195:=0
def tw4309217394794523951:=0
def tw15805137534098808535:=0
def tw8374155422468719031:=0
def tw2694234056635809718:=0
def tw8972062959192195235:=0
def tw15861351967447197489:=0
def tw14564479935002850509:=0
def tw8912161614967838395:=0
def tw11738243743197964597:=0
def tw3652199383789512132:=0
def tw5239429619861171699:=0
def tw10953238642706405951:=0
def tw6900931685637148767:=0
def tw819570635367399668:=0
def tw6829468419937405859:=0
def tw14219159868682941630:=0
def tw13831308528885131752:=0
def tw3099597729799864441:=0
def tw10538165733446703262:=0
def tw7151132215420815488:=0
def tw8996207646774452837:=0
def tw11033627544408312984:=0
def tw4772062507164038959:=0
def tw13073492499399858440:=0
def tw1835201335921387983:=0
def tw7001957589650049515:=0
def tw10470340158578859262:=0
def tw5960047855520388891:=0
def tw6651725471809605288:=0
def tw2386784164831690217:=0
def tw3985964047577975286:=0
def tw2846267367221353805:=0
def tw12360917755211006479:=0
def tw17155049476370652306:=0
def tw15402603294489630176:=0
def tw2869065659524454656:=0
def tw628631919661052299:=0
def tw9201617497623189827:=0
def tw7766106395892283477:=0
def tw10310341975313369176:=0
def tw896239598344801917:=0
def tw16298917771340976007:=0
def tw9977182230042388008:=0
def tw2080317491765294665:=0
def tw2144661209622563809:=0
def tw6229817132586351632:=0
def tw14689541978594310382:=0
def tw15743010393045028110:=0
def tw1537541725227008683:=0
def tw18101783494082082527:=0
def tw8222940686941784037:=0
def tw5449563278759341024:=0
def tw3456351732281881909:=0
def tw17410218998227585676:=0
def tw16522183678017940807:=0
def tw11566098044289413073:=0
def tw15792790952358468732:=0
def tw14454166528178196959:=0
def tw593343749668468936:=0
def tw8915285831880473931:=0
def tw15627779663793561183:=0
def tw11107512795663914464:=0
def tw8757255369765604158:=0
def tw699815216081779126:=0
def tw14560624547652848805:=0
def tw12091130801917272685:=0
def tw4051853165826885262:=0
def tw5101696844757716304:=0
def tw12887044766017154078:=0
def tw11823594873375168262:=0
def tw14811890972901180937:=0
def tw9630203353718772412:=0
def tw12132596417379514657:=0
def tw1000662321505670351:=0
def tw10911716485165742097:=0
def tw11095110211248682772:=0
def tw6942634455013318504:=0
def tw14294133066467233204:=0
def tw7942791058656714990:=0
def tw17292613610259460706:=0
def tw14782954611325821827:=0
def tw4607425872040536859:=0
def tw11153475782318119604:=0
def tw5459702643516471331:=0
def tw8919978131948313185:=0
def tw2135409205425526673:=0
def tw9972681490609642005:=0
def tw4039707410889071942:=0
def tw17483705464198625004:=0
def tw8565224436197482051:=0
def tw10161179621583223854:=0
def tw10861573186032746274:=0
def tw13571862603940711859:=0
def tw6798380500665416597:=0
def tw4341293187932698999:=0
def tw2629151800749243262:=0
def tw13622603851894308203:=0
def tw7873748247521183178:=0
def tw7770478706760583155:=0
def tw6714880395473160397:=0
def tw12003660372656728261:=0
def tw3438699932752214802:=0
def tw17260811203177919210:=0
def tw5783627655825047438:=0
def tw7998583776865276027:=0
def tw14036186469904095446:=0
def tw12459912946257978736:=0
def tw9615563845995560447:=0
def tw15702583709834301711:=0
def tw4483904966330829159:=0
def tw5467331546851215429:=0
def tw7164969610272591079:=0
def tw6153300077656785580:=0
def tw2314633323536394700:=0
def tw3919386906821981792:=0
def tw4449799235075362730:=0
def tw16232239604740543338:=0
def tw8412748745612879247:=0
def tw376983999666122830:=0
def tw511232430288663203:=0
def tw1864683662541468164:=0
def tw8865387616306378214:=0
def tw7387728532749555685:=0
def tw3897268976836264337:=0
def tw17510684818845775701:=0
def tw28018229315631829:=0
def tw12936088452001202715:=0
def tw5000232492035539693:=0
def tw10149570385669482864:=0
def tw2483420100392427323:=0
def tw12314708539913122752:=0
def tw8044325682031459534:=0
def tw6921103065077540406:=0
def tw991626836265849350:=0
def tw6044648929357246223:=0
def tw10186303709888756887:=0
def tw3328811466098603303:=0
def tw8422229294311615681:=0
def tw15771247859494662083:=0
def tw7985883749528016586:=0
def tw1683588176727124409:=0
def tw2400638427578300857:=0
def tw10826640976665885199:=0
def tw1719895430356276633:=0
def tw14715273107921467267:=0
def tw7397212543588705075:=0
def tw14022695629967993375:=0
def tw727924238349540522:=0
def tw14847308668706973960:=0
def tw14746253646979254834:=0
def tw4091352561680426876:=0
def tw17188069144378779261:=0
def tw5748170370737335489:=0
def tw13462424878891718212:=0
def tw14474530201714352570:=0
def tw18048741565030583774:=0
def tw13313058339493701161:=0
def tw15125770126966510544:=0
def tw3801850119919557013:=0
def tw14173793092197918974:=0
def tw578191462805490351:=0
def tw17951090304560329564:=0
def tw5498123283257192965:=0
def tw14144024108822670751:=0
def tw2244103112122482387:=0
def tw13468011388731342839:=0
def tw1303901927050219478:=0
def tw4436474186459923750:=0
def tw8546256303203405941:=0
def tw9919008367099125623:=0
def tw6278996535519779258:=0
def tw13547939009206843870:=0
def tw1866716027138748530:=0
def tw15418378422589880096:=0
def tw12325864989022198202:=0
def tw7350462372000428638:=0
def tw7764699552788554220:=0
def tw13861322856664149509:=0
def tw8981176238543900561:=0
def tw16453263628727151865:=0
def tw17590876675597686902:=0
def tw18004296560267143027:=0
def tw9947508896943372755:=0
def tw5667099127317398114:=0
def tw5665240888008139550:=0
def tw306047672372848657:=0
def tw5515903443438498500:=0
def tw7407744344239389898:=0
def tw2295934692909999376:=0
def tw5037459499596335280:=0
def tw17360015989920007124:=0
def tw354308444213283272:=0
def tw16053306600634468012:=0
def tw1062514266329012355:=0
def tw15418674001244492974:=0
def tw7631320640757110747:=0
def tw3198059409981156222:=0
def tw10576836333797772347:=0
def tw7050804516273991350:=0
def tw12099505692703838030:=0
def tw15554417296805563061:=0
def tw17334828202450815106:=0
def tw2692750590507578028:=0
def tw13557862171009465336:=0
def tw3831019782443316194:=0
def tw694261584828832409:=0
def tw17170472223608059050:=0
def tw17678831435119133177:=0
def tw3581434408401558974:=0
def tw13307065042914920193:=0
def tw14424681132571578402:=0
def tw16003985067176294414:=0
def tw14594842627406614536:=0
def tw17862349074038704544:=0
def tw1607123104830579860:=0
def tw6408400580700104982:=0
def tw17691633702590694504:=0
def tw10164718903369591474:=0
def tw14061609134260724683:=0
def tw2773992215795510196:=0
def tw3042748168174471775:=0
def tw14332157829676619468:=0
def tw5537553045615171315:=0
def tw13367274342830030513:=0
def tw12020253756985099128:=0
def tw16860917588515726111:=0
def tw7007286002206832825:=0
def tw17464319187374939960:=0
def tw17890440400047909864:=0
def tw9045458381397004210:=0
def tw1891733041441978011:=0
def tw206757683497733573:=0
def tw10026605065719503897:=0
def tw18361725300881549022:=0
def tw7873786274422454737:=0
def tw2046362190076281809:=0
def tw17016834523296244275:=0
def tw4860023922305330110:=0
def tw247591363613054380:=0
def tw14801369171006070438:=0
def tw2084650752826471497:=0
def tw11212356425047092601:=0
def tw12468840222048715292:=0
def tw11180800956215176064:=0
def tw10297410513487048360:=0
def tw18105302477358141223:=0
def tw9848817304349107530:=0
def tw16151628708876355199:=0
def tw523537741815420091:=0
def tw9592300441314626372:=0
def tw10388488172074580225:=0
def tw5008593111378822452:=0
def tw13465540834166320765:=0
def tw15254633091992210921:=0
def tw6549852094080907030:=0
def tw12461081396071149458:=0
def tw14261769069557060686:=0
def tw7249310025045793396:=0
def tw10910644110388302437:=0
def tw938635154573522699:=0
def tw18111429629039517087:=0
def tw13669536469129627823:=0
def tw5376530373609499990:=0
def tw15251835097244881130:=0
def tw7520747337044880989:=0
def tw18402647697222807634:=0
def tw6124413428159637790:=0
def tw11266997524610791606:=0
def tw3520257249291928256:=0
def tw15779231459743154856:=0
def tw8219003486749837733:=0
def tw17338325484393633139:=0
def tw1825952489489211193:=0
def tw2941924889016668590:=0
def tw11429584451438056573:=0
def tw13674586047789940208:=0
def tw16531682779099013679:=0
def tw7485256538410118956:=0
def tw13885670934486923800:=0
def tw2868442198168577507:=0
def tw18407495941553956032:=0
def tw4449297822257671152:=0
def tw4684226298888400098:=0
def tw4470585836733325578:=0
def tw1198783387198779033:=0
def tw6880980288501444468:=0
def tw14329579894275425762:=0
def tw7181997581385953548:=0
def tw4545961482378311905:=0
def tw10611411778653204182:=0
def tw12549542988036985293:=0
def tw16279288168775177219:=0
def tw1383625962624193546:=0
def tw4547051000311932777:=0
def tw1937721966566455358:=0
def tw15142666989864626641:=0
def tw4334401890000744311:=0
def tw8432719020341155521:=0
def tw13769103115541136327:=0
def tw5832305185047221409:=0
def tw10551173667578312727:=0
def tw11962351593759143498:=0
def tw10373885705245885314:=0
def tw17397653436517662659:=0
def tw6607644564249050058:=0
def tw14260533273033392520:=0
def tw11219443903484984970:=0
def tw10956520680868813917:=0
def tw599730875272715187:=0
def tw17613222154834848340:=0
def tw13861969467909019144:=0
def tw11692469974320434101:=0
def tw6128145076113358165:=0
def tw6125853113672642322:=0
def tw14664691819916384248:=0
def tw9402243437249704421:=0
def tw10988312798546598065:=0
def tw8293125293789966914:=0
def tw2813801546833155447:=0
def tw12876709506271813870:=0
def tw643336161829623379:=0
def tw11526606772788702011:=0
def tw10374632558016547081:=0
def tw12041797014711123256:=0
def tw7046044490832178742:=0
def tw13813618637161013713:=0
def tw3543459598558145280:=0
def tw14135006944967825841:=0
def tw1142673529048489019:=0
def tw16728255500844073214:=0
def tw4290864757253303354:=0
def tw1663524305781585820:=0
def tw2213964242967304950:=0
def tw9113380124883318265:=0
def tw10713865542653931438:=0
def tw446995266069924076:=0
def tw13539809779269347639:=0
def tw13142635158332540280:=0
def tw7538781388859322016:=0
def tw3592811809046731828:=0
def tw8297923619242306668:=0
def tw14904681115217272601:=0
def tw7374399212775623666:=0
def tw577049184839899653:=0
def tw16797375974695604193:=0
def tw15699961213505342161:=0
def tw5306753302271460952:=0
def tw16682895059504647277:=0
def tw5874822333441161849:=0
def tw4565167180653195659:=0
def tw4944497897694004105:=0
def tw3297117884562324255:=0
def tw8115137120850386438:=0
def tw8428246938381088814:=0
def tw16217903435359918192:=0
def tw18031968618487185184:=0
def tw17318462890700432884:=0
def tw14387916025512776202:=0
def tw8159993647027272844:=0
def tw3846801734645722302:=0
def tw8331849164307833061:=0
def tw11280630913190679075:=0
def tw2527701527901579348:=0
def tw5171440476677080432:=0
def tw3277229846650655979:=0
def tw9399754086935153974:=0
def tw3215387988796971590:=0
def tw8950108695139179302:=0
def tw6522051377940421278:=0
def tw17508347553164502932:=0
def tw11707130962622978684:=0
def tw17271881437230615512:=0
def tw8176730645128964420:=0
def tw15925456577456769635:=0
def tw14398111036562950334:=0
def tw740290905518256060:=0
def tw13996866031312336078:=0
def tw14170518179582410385:=0
def tw9317495090193701157:=0
def tw15227483606004533461:=0
def tw10294118229990073760:=0
def tw16103829930404553856:=0
def tw5920806927976990809:=0
def tw9215358943560890414:=0
def tw5342471268416680606:=0
def tw4517560463748656503:=0
def tw1922157984580058403:=0
def tw16955839230299176341:=0
def tw13348088958985639553:=0
def tw17916429707943930468:=0
def tw3419001889969749887:=0
def tw14154597600763967237:=0
def tw17658959251048325594:=0
def tw6030501089693204938:=0
def tw16005714805435085966:=0
def tw1630143524128594353:=0
def tw6056707288978253535:=0
def tw2595618661548880785:=0
def tw5694767641087392711:=0
def tw13931877327420345601:=0
def tw1725486776273817318:=0
def tw4849480874435393781:=0
def tw7557421358154311045:=0
def tw14903569129155370506:=0
def tw13710940844802916613:=0
def tw8535803893964050539:=0
def tw16746677531222629524:=0
def tw18183970276198133131:=0
def tw14553807712399142462:=0
def tw2708214617527550399:=0
def tw10510019762269167821:=0
def tw7933485763601977624:=0
def tw5992840812097835891:=0
def tw9388066449989048879:=0
def tw4766597723019941021:=0
def tw7231845647793152400:=0
def tw2392593158011319353:=0
def tw12408111787983249662:=0
def tw16607193741793207195:=0
def tw16101134707931498060:=0
def tw6208910965292489261:=0
def tw2570914705882880060:=0
def tw17137270108147033825:=0
def tw1932759071263863916:=0
def tw6194202620331982285:=0
def tw11024694936033576346:=0
def tw16766484511958638138:=0
def tw14611616552423853409:=0
def tw8833860146974802555:=0
def tw13303234937177203706:=0
def tw3713540243193553862:=0
def tw16132249320637822498:=0
def tw2931988195819169919:=0
def tw8752102160057688731:=0
def tw12717557048674177747:=0
def tw12670982853097334264:=0
def tw12921946191010883867:=0
def tw17680797132471856694:=0
def tw2480015634913765671:=0
def tw14479964200598819128:=0
def tw15590096980072825465:=0
def tw786537726763496527:=0
def tw2259672571474061568:=0
def tw15565715512253457277:=0
def tw1378205811072252300:=0
def tw10341888390210383824:=0
def tw5285915839522022235:=0
def tw13385558918117058561:=0
def tw12369848792361866835:=0
def tw9969077435446430640:=0
def tw4382473104129494423:=0
def tw13631397514672939371:=0
def tw13484562703626004877:=0
def tw2078950565319712143:=0
def tw908480701973217441:=0
def tw18310463660012746435:=0
def tw11489344026974618541:=0
def tw855453113358079251:=0
def tw7053471978191194526:=0
def tw3374319085511977134:=0
def tw727553628536289456:=0
def tw7220529860990300233:=0
def tw890339118813698166:=0
def tw2997480634906808460:=0
def tw14760874974797668852:=0
def tw506581581156960101:=0
def tw16493865465440409018:=0
def tw15621116118777243554:=0
def tw6325675986683464353:=0
def tw4859391219904099992:=0
def tw10958628066121416707:=0
def tw8232614014015475128:=0
def tw16226643914720891334:=0
end PySem.W.Fast
set_option maxHeartbeats 0 in
open_top hd for PySem.Challenge.rw_loanroll_k61_sums_paid_on_days
local macro_rules | `(tactic| walk_at "o") => `(tactic| first | lia | omega)
local macro_rules | `(tactic| ac_rfl)=>`(tactic| walk_at "o")
open List renaming getElem?_eq_getElem→yaa,length_map→yab,getElem?_eq_some_iff→yac,getD_eq_getElem?_getD→yad,mem_append→yae,length_append→yaf,mem_map→yag,mem_of_getElem?→yah,getElem?_map→yai,mem_append_right→yaj,size_toArray→yak,mem_cons→yal,mem_cons_of_mem→yam,find?_cons_of_neg→yan,mem_filter→yao,mem_cons_self→yap,getElem?_eq_none→yaq,map_append→yar,find?_cons_of_pos→yas,replicate→yat,filter_cons_of_pos→yau,filter_cons_of_neg→yav,take_of_length_le→yaw,mem_iff_getElem→yax,length_filter_le→yay,length_take→yaz,range→yba,pairwise_iff_getElem→ybb,take_add_one→ybc,filter_append→ybd,pairwise_append→ybe,getElem?_append_right→ybf,mem_map_of_mem→ybg,length_cons→ybh,mem_iff_getElem?→ybi,nodup_cons→ybj,getElem?_append_left→ybk,map_map→ybl,map_cons→ybm,toArray→ybn,pairwise_singleton→ybo,pairwise_map→ybp,mem_append_left→ybq,pairwise_cons→ybr,mem_singleton→ybs,replicate_succ→ybt,length_singleton→ybu,length_pos_of_mem→ybv,ext_getElem?→ybw,foldl_cons→ybx,lookup→yby,not_mem_nil→ybz,any_eq_true→yca,length_erase_of_mem→ycb,getElem?_replicate→ycc,nodup_append→ycd,length_range→yce,filterMap_cons→ycf,getElem?_range→ycg,filter_eq_nil_iff→ych,take_length→yci,any_cons→ycj,flatten_cons→yck,getElem?_zip_eq_some→ycl,mem_of_find?_eq_some→ycm,mem_erase_of_ne→ycn,map_congr_left→yco,length_drop→ycp,getElem_mem→ycq,find?_eq_none→ycr,append_nil→ycs,append_assoc→yct,foldl_append→ycu,getElem_map→ycv,map_id→ycw
open Nat renaming le_refl→ycx,ne_of_lt→ycy,lt_of_le_of_lt→ycz,zero_le→yda,lt_of_lt_of_le→ydb,le_trans→ydc,lt_irrefl→ydd,lt_succ_self→yde,lt_trichotomy→ydf,lt_succ_of_lt→ydg,lt_trans→ydh,ne_of_gt→ydi,le_succ→ydj,le_of_lt→ydk,sub_self→ydl
open PySem.Heap renaming get?_push_of_some→ydm,lt_size→ydn,get?_push_size→ydo,get?_update_ne→ydp,size_push→ydq,get?_update_self→ydr,get?_none_of_le→yds
open Int renaming emod_lt_of_pos→ydt,emod_nonneg→ydu,le_refl→ydv,lt_trichotomy→ydw,zero_add→ydx
open Array renaming length_toList→ydy,getElem?_eq_getElem→ydz,getD_eq_getD_getElem?→yea,getElem?_toList→yeb,getD→yec
namespace L2
open PySem PySem.Spec PyProof.Rows
noncomputable abbrev Key:=Sum Int Str
noncomputable def zwV:Key->Value->Bool
 | .inl k,v=>Value.isInt k v
 | .inr x,v=>Value.isStrOf x v
noncomputable def zzY (w:World):Key->Int
 | .inl k=>hashInt k
 | .inr x=>hashStr w x
theorem zbf:∀ {k:Key} {v:Value},zwV k v=true->(∃ i t,k=Sum.inl i/\v=Value.int i t)\/(∃ x t,k=Sum.inr x/\v=Value.str x t)
 | .inl i,v,h=>by
  obtain ⟨t,e⟩:=Value.isInt_shape (k:=i) (v:=v) h
  exact .inl ⟨i,t,rfl,e⟩
 | .inr x,v,h=>by
  obtain ⟨t,e⟩:=Value.isStrOf_shape (x:=x) (v:=v) h
  exact .inr ⟨x,t,rfl,e⟩
theorem zyn (a b:Int):decide ((Sum.inl a:Key)=Sum.inl b)=(a == b):=by
 by_cases e:a=b
 ·subst e;simp
 ·have h:¬ (Sum.inl a:Key)=Sum.inl b:=fun q=>e (Sum.inl.inj q)
  rw[decide_eq_false h]
  exact (beq_eq_false_iff_ne.mpr e).symm
theorem zyi (a b:Str):decide ((Sum.inr a:Key)=Sum.inr b)=decide (a=b):=by
 by_cases e:a=b
 ·subst e;simp
 ·have h:¬ (Sum.inr a:Key)=Sum.inr b:=fun q=>e (Sum.inr.inj q)
  rw[decide_eq_false h,decide_eq_false e]
theorem zx1 (a:Int) (b:Str):decide ((Sum.inl a:Key)=Sum.inr b)=false:=decide_eq_false (fun q=>nomatch q)
theorem zyN (a:Str) (b:Int):decide ((Sum.inr a:Key)=Sum.inl b)=false:=decide_eq_false (fun q=>nomatch q)
noncomputable def zxQ (prog:Program) (w:World):PySem.KeyKind prog w Key where
 is:=zwV
 hash:=zzY w
 inj:=fun v a b ha hb=>by
  rcases zbf ha with ⟨i,t,rfl,rfl⟩ | ⟨x,t,rfl,rfl⟩
  ·rcases zbf hb with ⟨j,u,rfl,e⟩ | ⟨y,u,rfl,e⟩
   ·injection e with e1 _;rw[e1]
   ·exact nomatch e
  ·rcases zbf hb with ⟨j,u,rfl,e⟩ | ⟨y,u,rfl,e⟩
   ·exact nomatch e
   ·injection e with e1 _;rw[e1]
 byValue:=fun k v h=>by
  rcases zbf h with ⟨i,t,rfl,rfl⟩ | ⟨x,t,rfl,rfl⟩ <;> rfl
 pyHash:=fun hv h=>by
  rcases zbf hv with ⟨i,t,rfl,rfl⟩ | ⟨x,t,rfl,rfl⟩
  ·exact wpAny_pyHash_int h
  ·exact wpAny_pyHash_str h
 eqBool:=fun hu hv h=>by
  rcases zbf hu with ⟨i,t,rfl,rfl⟩ | ⟨x,t,rfl,rfl⟩
  ·rcases zbf hv with ⟨j,u,rfl,rfl⟩ | ⟨y,u,rfl,rfl⟩
   ·rw[zyn] at h;exact wpAny_eqBool_int h
   ·rw[zx1] at h;exact SeqAt.EqAt.int_str i t y u _ _ _ _ h
  ·rcases zbf hv with ⟨j,u,rfl,rfl⟩ | ⟨y,u,rfl,rfl⟩
   ·rw[zyN] at h;exact SeqAt.EqAt.str_int x t j u _ _ _ _ h
   ·rw[zyi] at h;exact wpAny_eqBool_str h
 «strs»:=fun k x t v h=>by
  rcases zbf h with ⟨i,u,rfl,e⟩ | ⟨y,u,rfl,e⟩
  ·exact nomatch e
  ·injection e with e1 _
   subst e1
   cases v <;> rfl
inductive V where
 | non | bl (b:Bool) | int (i:Int) | str (x:Str) | byt (b:Array UInt8) | flt (b:UInt64) | ref (a:Addr) | ty (n:String)
 deriving DecidableEq
noncomputable def RelV:V->Value->Prop
 | .non,u=>u=Value.none
 | .bl b,u=>u=Value.bool b
 | .int i,u=>∃ t,u=Value.int i t
 | .str x,u=>∃ t,u=Value.str x t
 | .byt b,u=>∃ t,u=Value.bytes b t
 | .flt b,u=>∃ t,u=Value.float b t
 | .ref a,u=>u=Value.ref a
 | .ty n,u=>u=Value.type n
noncomputable abbrev Vals:List V->List Value->Prop:=Paired RelV
theorem Vals.length (r:Vals xs us):xs.length=us.length:=Paired.length r
theorem Vals.get:∀ {xs:List V} {us:List Value} {i:Nat} {x:V},Vals xs us->xs[i]?=some x->∃ u,us[i]?=some u/\RelV x u
 | _,_,_,_,.nil,e=>by simp at e
 | _,_,0,_,.cons r _,e=>by simp at e;subst e;exact ⟨_,rfl,r⟩
 | _,_,i+1,x,.cons _ t,e=>by
  obtain ⟨u,h1,h2⟩:=Vals.get (i:=i) (x:=x) t (by simpa using e)
  exact ⟨u,by simpa using h1,h2⟩
theorem Vals.set (r:RelV x u):∀ {xs:List V} {us:List Value} (i:Nat),Vals xs us->Vals (xs.set i x) (us.set i u)
 | _,_,_,.nil=>.nil
 | _,_,0,.cons _ t=>.cons r t
 | _,_,i+1,.cons q t=>.cons q (Vals.set r i t)
theorem Vals.append:∀ {xs ys:List V} {us ws:List Value},Vals xs us->Vals ys ws->Vals (xs++ys) (us++ws)
 | _,_,_,_,.nil,s=>s
 | _,_,_,_,.cons r t,s=>.cons r (Vals.append t s)
theorem Vals.take:∀ {xs:List V} {us:List Value} (n:Nat),Vals xs us->Vals (xs.take n) (us.take n)
 | _,_,0,_=>.nil
 | _,_,_+1,.nil=>.nil
 | _,_,n+1,.cons r t=>.cons r (Vals.take n t)
theorem Vals.drop:∀ {xs:List V} {us:List Value} (n:Nat),Vals xs us->Vals (xs.drop n) (us.drop n)
 | _,_,0,r=>r
 | _,_,_+1,.nil=>.nil
 | _,_,n+1,.cons _ t=>Vals.drop n t
noncomputable def ziR:Option V->Option Value->Prop
 | some v,some u=>RelV v u
 | none,none=>True
 | _,_=>False
noncomputable def KV {κ:Type}:List (κ × V)->List (κ × Value)->Prop:=Paired fun (p:κ × V) (q:κ × Value)=>p.1=q.1/\RelV p.2 q.2
inductive HO where
 /-- a list -/
 | lst (xs:List V)
 /-- a tuple (never changes) -/
 | tup (xs:List V)
 /-- a dict whose keys are ints and texts;one whose keys are tuples of ints and texts (the empty one is both) -/
 | dK (kvs:List (Key × V))
 /-- a set of ints: its members,its size -/
 | set (S:Int->Bool) (n:Nat)
 /-- an instance of the class at C,its dict at dx,its attributes -/
 | ins (C dx:Addr) (fs:List (Str × V))
 /-- the dict of the instance at x -/
 | own (x:Addr)
 /-- the dict of an exception -/
 | xd (fs:List (Str × V))
 /-- a bound method,f of x -/
 | met (f x:Addr)
 /-- a range object lo,lo+1,.. below hi -/
 | rng (lo hi:Int)
 /-- a thing that is known to the object (the script;a dict while a loop walks it): read,never written while it is so -/
 | frz (o:Obj) (u:HO)
 /-- a code object's table -/
 | tbl (ps:Array Value)
 /-- any other thing,by what is true of its one object (a def of one's own: zut a S n:=HO.ext fun h=>..) -/
 | ext (φ:Heap->Prop)
noncomputable abbrev Hp:=Addr->Option HO
noncomputable def upd (H:Hp) (a:Addr) (o:HO):Hp:=fun b=>if b=a then some o else H b
theorem zh {H:Hp} {a:Addr} {o:HO}:upd H a o a=some o:=by unfold upd;rw[if_pos rfl]
theorem zr {H:Hp} {a b:Addr} {o:HO} (h:b≠a):upd H a o b=H b:=by unfold upd;rw[if_neg h]
theorem zad:upd (upd H a o) a u=upd H a u:=by
 funext b;unfold upd;split <;> rfl
theorem zae {H:Hp} {a b:Addr} {o u:HO} (h:H a=some o) (h':H b=some u) (d:o≠u):a≠b:=by
 intro e;subst e;rw[h] at h';exact d (Option.some.inj h')
theorem zY {H:Hp} {a b:Addr} {o:HO} (h:H a=some o) (h':H b=none):a≠b:=by
 intro e;subst e;rw[h] at h';cases h'
section
variable (P:Program) (w:World)
noncomputable def zar (H:Hp) (h:Heap) (a:Addr):HO->Prop
 | .lst xs=>xs.length<=sizeLine/\∃ (its:List Value) (n:Nat),Vals xs its/\h.get? a=some { cls:=.type "list", data:=.seq its.toArray n }
 | .tup xs=>xs.length<=sizeLine/\∃ its:List Value,Vals xs its/\IsTup h a its.toArray
 | .dK kvs=>kvs.length<=sizeLine/\(a == sysModules)=false/\∃ vs,KV kvs vs/\h.DictOf (zxQ P w) a vs
 | .set S n=>h.SetOf (intKind P w) a S n
 | .ins C dx fs=>H dx=some (.own a)/\fs.length<=1000/\dx≠a/\h.get? a=some (PySem.W.instObj C dx) /\
   ∃ mA,h.Ns1 dx mA/\(∀ f,ziR (fs.lookup f) (mA f))/\PySem.Within mA (fs.map (·.1))
 | .own _=>∃ o,h.get? a=some o
 | .xd fs=>∃ mA,h.Ns1 a mA/\∀ f,ziR (fs.lookup f) (mA f)
 | .rng lo hi=>∃ t u v,h.get? a=some { cls:=.type "range", data:=.fields #[.int lo t,.int hi u,.int 1 v] }
 | .frz o u=>h.get? a=some o/\zar H h a u
 | .tbl ps=>h.get? a=some { cls:=.none,data:=.fields ps }
 | .met f x=>h.get? a=some (PySem.W.methodObj (.ref f) (.ref x))
 | .ext φ=>φ h/\(∃ o,h.get? a=some o)/\∀ h1 h2:Heap,φ h1->(∀ o,h1.get? a=some o->h2.get? a=some o)->φ h2
def HOk (H:Hp) (h:Heap):Prop:=∀ a o,H a=some o->zar P w H h a o
end
section
variable {P:Program} {w:World} {H H':Hp} {h h':Heap} {a:Addr} {o:HO}
theorem zar.lt (x:zar P w H h a o):a<h.objs.size:=by
 cases o with
 | lst xs=>obtain ⟨_,_,_,_,e⟩:=x;exact ydn e
 | tup xs=>obtain ⟨_,_,_,p⟩:=x;exact p.lt
 | dK kvs=>obtain ⟨_,_,_,_,o,_,_,e,_⟩:=x;exact ydn e
 | set S n=>obtain ⟨o,_,_,_,e,_⟩:=x;exact ydn e
 | ins C dx fs=>obtain ⟨_,_,_,e,_⟩:=x;exact ydn e
 | own y=>obtain ⟨_,e⟩:=x;exact ydn e
 | xd fs=>obtain ⟨_,⟨_,_,_,e,_⟩,_⟩:=x;exact ydn e
 | rng lo hi=>obtain ⟨_,_,_,e⟩:=x;exact ydn e
 | frz ob u=>obtain ⟨e,_⟩:=x;exact ydn e
 | tbl ps=>exact ydn (show h.get? a=some _ from x)
 | met f y=>exact ydn (show h.get? a=some _ from x)
 | ext φ=>obtain ⟨_,⟨_,e⟩,_⟩:=x;exact ydn e
theorem zar.stay (x:zar P w H h a o) (k:∀ b u,(b=a\/H b=some (.own a))->h.get? b=some u->h'.get? b=some u)
  (ho:∀ b,H b=some (.own a)->H' b=some (.own a)) (ht:∀ b xs,H b=some (.tup xs)->H' b=some (.tup xs)):zar P w H' h' a o:=by
 induction o with
 | lst xs=>obtain ⟨z,its,n,r,e⟩:=x;exact ⟨z,its,n,r,k _ _ (.inl rfl) e⟩
 | tup xs=>obtain ⟨z,its,r,ob,e,c⟩:=x;exact ⟨z,its,r,ob,k _ _ (.inl rfl) e,c⟩
 | dK kvs=>obtain ⟨z,y,vs,r,ob,es,ep,e,c⟩:=x;exact ⟨z,y,vs,r,ob,es,ep,k _ _ (.inl rfl) e,c⟩
 | set S n=>obtain ⟨ob,es,ep,t,e,c⟩:=x;exact ⟨ob,es,ep,t,k _ _ (.inl rfl) e,c⟩
 | ins C dx fs =>
  obtain ⟨d,z,ne,e,mA,⟨od,es,ep,e2,c⟩,r⟩:=x
  exact ⟨ho _ d,z,ne,k _ _ (.inl rfl) e,mA,⟨od,es,ep,k _ _ (.inr d) e2,c⟩,r⟩
 | own y=>obtain ⟨ob,e⟩:=x;exact ⟨ob,k _ _ (.inl rfl) e⟩
 | xd fs=>obtain ⟨mA,⟨od,es,ep,e,c⟩,r⟩:=x;exact ⟨mA,⟨od,es,ep,k _ _ (.inl rfl) e,c⟩,r⟩
 | rng lo hi=>obtain ⟨t,u,v,e⟩:=x;exact ⟨t,u,v,k _ _ (.inl rfl) e⟩
 | frz ob u ih=>obtain ⟨e,q⟩:=x;exact ⟨k _ _ (.inl rfl) e,ih q⟩
 | tbl ps =>
  have e:h.get? a=some { cls:=.none,data:=.fields ps }:=x
  show h'.get? a=some { cls:=.none,data:=.fields ps }
  exact k a _ (.inl rfl) e
 | met f y =>
  have e:h.get? a=some (PySem.W.methodObj (.ref f) (.ref y)):=x
  show h'.get? a=some (PySem.W.methodObj (.ref f) (.ref y))
  exact k a _ (.inl rfl) e
 | ext φ=>obtain ⟨p,⟨o,e⟩,st⟩:=x;exact ⟨st _ _ p fun o q=>k _ _ (.inl rfl) q,⟨o,k _ _ (.inl rfl) e⟩,st⟩
theorem HOk.lt (x:HOk P w H h) (e:H a=some o):a<h.objs.size:=(x a o e).lt
theorem HOk.fresh (x:HOk P w H h) (e:h.objs.size<=a):H a=none:=by
 cases q:H a with
 | none=>rfl
 | some u=>exact absurd (ydb (x.lt q) e) (ydd _)
theorem HOk.kept (x:HOk P w H h) (k:∀ b u,h.get? b=some u->h'.get? b=some u):HOk P w H h':=fun a o e =>
 (x a o e).stay (fun b u _ q=>k b u q) (fun _ q=>q) fun _ _ q=>q
theorem HOk.laid (x:HOk P w H h) (k:∀ b u,h.get? b=some u->h'.get? b=some u) (hp:h.objs.size<=a) (new:zar P w (upd H a o) h' a o):HOk P w (upd H a o) h':=fun b u e=>by
 have hn:=x.fresh hp
 by_cases hb:b=a
 ·subst hb;rw[zh] at e;cases e;exact new
 ·rw[zr hb] at e
  exact (x b u e).stay (fun c v _ q=>k c v q) (fun c q=>by rw[zr (zY q hn)];exact q) fun c xs q=>by rw[zr (zY q hn)];exact q
end
def Rd (H:Hp) (a:Addr) (u:HO):Prop:=H a=some u\/∃ o,H a=some (.frz o u)
theorem Rd.ok (r:Rd H a u) (x:HOk P w H h):zar P w H h a u:=by
 rcases r with r | ⟨o,r⟩
 ·exact x a u r
 ·obtain ⟨_,q⟩:=x a _ r
  exact q
noncomputable def Mut:Option HO->Prop
 | some (.lst _)=>True
 | some (.dK _)=>True
 | some (.set _ _)=>True
 | some (.ins _ _ _)=>True
 | some (.ext _)=>True
 | _=>False
section
variable {P:Program} {w:World} {H:Hp} {h h':Heap} {x e:Addr} {o':HO}
theorem HOk.write (ok:HOk P w H h) (mu:Mut (H x)) (he:e=x\/H e=some (.own x)) (k:∀ b u,b≠e->h.get? b=some u->h'.get? b=some u) (heo:∃ u,h'.get? e=some u)
  (new:zar P w (upd H x o') h' x o'):HOk P w (upd H x o') h':=fun b u q=>by
 have nown:∀ c y,H c=some (.own y)->c≠x:=fun c y r z=>by subst z;rw[r] at mu;exact mu
 have ntup:∀ c xs,H c=some (.tup xs)->c≠x:=fun c xs r z=>by subst z;rw[r] at mu;exact mu
 by_cases hb:b=x
 ·subst hb;rw[zh] at q;cases q;exact new
 ·rw[zr hb] at q
  by_cases hbe:b=e
  ·have q':H b=some (.own x):=by
    rcases he with z | z
    ·exact absurd (hbe.trans z) hb
    ·rw[hbe];exact z
   rw[q] at q';cases q'
   obtain ⟨v,hv⟩:=heo
   exact ⟨v,by rw[hbe];exact hv⟩
  ·refine (ok b u q).stay (fun c v hc r=>k c v ?_ r) (fun c r=>by rw[zr (nown c b r)];exact r) fun c xs r=>by rw[zr (ntup c xs r)];exact r
   rcases hc with rfl | hc
   ·exact hbe
   ·rintro rfl
    rcases he with z | z
    ·exact nown c b hc z
    ·rw[hc] at z;cases z;exact hb rfl
end
set_option genInjectivity false
structure Un (fs ex:List Addr) (H H':Hp) (h h':Heap):Prop where
 keep:∀ b o,h.get? b=some o->H b=none->b ∉ fs->b ∉ ex->h'.get? b=some o
 slot:∀ b o,h.get? b=some o->H b=none->b∈fs->b ∉ ex->∃ sl,h'.get? b=some { o with slots:=sl }
 free:∀ b o,h.get? b=some o->H b=none->b ∉ ex->H' b=none
 there:∀ b o,h.get? b=some o->b ∉ ex->∃ o',h'.get? b=some o'
 tups:∀ b xs,H b=some (.tup xs)->H' b=some (.tup xs)
 frzs:∀ b o u,H b=some (.frz o u)->H' b=some (.frz o u)
 tbls:∀ b ps,H b=some (.tbl ps)->∃ more,H' b=some (.tbl (ps++more))
section
variable {fs fs' ex ex':List Addr} {H H1 H2:Hp} {h h1 h2 h':Heap} {a x e:Addr} {o:HO}
theorem Un.any (u:Un fs ex H H1 h h1) (q:h.get? b=some ob) (n:H b=none) (hx:b ∉ ex):∃ sl,h1.get? b=some { ob with slots:=sl }:=by
 by_cases hb:b∈fs
 ·exact u.slot b ob q n hb hx
 ·exact ⟨ob.slots,u.keep b ob q n hb hx⟩
theorem Un.kept (k:∀ b u,h.get? b=some u->h'.get? b=some u):Un fs ex H H h h' :=
 ⟨fun b ob q _ _ _=>k b ob q,fun b ob q _ _ _=>⟨ob.slots,k b ob q⟩,fun _ _ _ n _=>n,fun b ob q _=>⟨ob,k b ob q⟩,fun _ _ q=>q,fun _ _ _ q=>q,fun _ ps q=>⟨#[],by rw[q];simp⟩⟩
theorem Un.refl:Un fs ex H H h h:=Un.kept fun _ _ q=>q
theorem Un.laid (k:∀ b u,h.get? b=some u->h'.get? b=some u) (hp:h.objs.size<=a) (hn:H a=none):Un fs ex H (upd H a o) h h' where
 keep:=fun b u q _ _ _=>k b u q
 slot:=fun b u q _ _ _=>⟨u.slots,k b u q⟩
 free:=fun b u q n _=>by rw[zr (ycy (ydb (ydn q) hp))];exact n
 there:=fun b u q _=>⟨u,k b u q⟩
 tups:=fun b xs q=>by rw[zr (zY q hn)];exact q
 frzs:=fun b u xs q=>by rw[zr (zY q hn)];exact q
 tbls:=fun b ps q=>⟨#[],by rw[zr (zY q hn),q];simp⟩
theorem Un.write (mu:Mut (H x)) (he:e=x\/H e=some (.own x)) (k:∀ b u,b≠e->h.get? b=some u->h'.get? b=some u) (heo:∃ u,h'.get? e=some u):Un fs ex H (upd H x o) h h':=by
 have hx:∀ b,H b=none->b≠x:=fun b n z=>by subst z;rw[n] at mu;exact mu
 have hb:∀ b,H b=none->b≠e:=fun b n z=>by
  subst z
  rcases he with r | r
  ·exact hx b n r
  ·rw[n] at r;cases r
 have hm:∀ b u,H b=some u->¬ Mut (some u)->b≠x:=fun b u q nm z=>by subst z;rw[q] at mu;exact nm mu
 refine ⟨fun b u q n _ _=>k b u (hb b n) q,fun b u q n _ _=>⟨u.slots,k b u (hb b n) q⟩,fun b u q n _=>by rw[zr (hx b n)];exact n,fun b u q _=>?_,
  fun b xs q=>by rw[zr (hm b _ q fun z=>z)];exact q,fun b u xs q=>by rw[zr (hm b _ q fun z=>z)];exact q,fun b ps q=>⟨#[],by rw[zr (hm b _ q fun z=>z),q];simp⟩⟩
 by_cases hbe:b=e
 ·subst hbe;exact heo
 ·exact ⟨u,k b u hbe q⟩
end
noncomputable def trk (h:Heap) (H:Hp):List Addr:=(yba h.objs.size).filter fun a=>(H a).isSome
noncomputable def zkd (h:Heap) (H:Hp):Heap:=PySem.W.hideAll h (trk h H)
theorem zvb (h:Heap) (H:Hp):(zkd h H).objs.size=h.objs.size:=PySem.W.hideAll_size _ _
theorem zww (e:h.get? b=some o) (n:H b=none):(zkd h H).get? b=some o :=
 PySem.W.hideAll_get _ e fun hm=>by
  have q:(H b).isSome=true:=(yao.mp hm).2
  rw[n] at q;simp at q
theorem zxK (e:(zkd h H).get? b=some o):h.get? b=some o/\H b=none:=by
 have e':h.get? b=some o:=PySem.W.of_hideAll (trk h H) e
 refine ⟨e',?_⟩
 cases q:H b with
 | none=>rfl
 | some x =>
  have hm:b∈trk h H:=yao.mpr ⟨List.mem_range.mpr (ydn e'),by simp[q]⟩
  have z:(zkd h H).get? b=none:=PySem.W.hideAll_none (trk h H) hm
  rw[z] at e;cases e
noncomputable def zxI (g h:Heap) (L:Addr):List (Addr × Obj):=(yba h.objs.size).filterMap fun a=>if a=L\/(g.get? a).isSome=true then none else (h.get? a).map fun o=>(a,o)
noncomputable def rest (g h:Heap) (L d:Addr):List (Addr × Obj):=(zxI g h L).filter fun p=>decide (p.1≠d)
structure Mod (K:W.Frag) (mg:Str->Option Value) (base:Heap):Prop where
 kin:K.In base
 glob:base.Ns mainGlobals mg
 blt:∃ mb,base.Ns builtinsNs mb/\∀ x:Str,x ≠ "__name__" -> mb x=bootBuiltins x
 nolimit:base.NoLimit
structure Cx where
 prog:Program
 w:World
 K:W.Frag
 mg:Str->Option Value
 base:Heap
 A:Around
 N:List Str
 s₀:Shared
 H₀:Hp
 env:Env
 outer:List Env
 stack:List Env
 ex:List Addr
 fn:Str->Bool
 calm:Bool
 pn:List (Addr × Obj)
 xe:Value->Shared->Prop
noncomputable def frs (l:List Env):List Addr:=l.filterMap (·.frame)
noncomputable abbrev Cx.fs (X:Cx):List Addr:=frs X.outer
def Vis (sc:Scope) (x:Str):Prop:=sc.names.lookup x=some .local\/sc.names.lookup x=some .cell\/sc.names.lookup x=some .free
def Loc (sc:Scope) (x:Str):Prop:=sc.names.lookup x=some .local\/sc.names.lookup x=some .cell
def Look (env:Env) (h:Heap) (m:Str->Option Value) (x:Str) (u:Value):Prop :=
 (env.kindOf x=some .local/\m x=some u)\/((env.kindOf x=some .cell\/env.kindOf x=some .free)/\∃ c,env.cells.lookup x=some c/\h.IsCell c (some u))
structure Cx.Ok (X:Cx):Prop where
 mod:Mod X.K X.mg X.base
 kind:X.env.scope.kind=.function
 glob:X.env.globals=mainGlobals
 blt:X.env.builtins=builtinsNs
 above:X.s₀.heap.objs.size<=X.env.locals
 inj:∀ x y c,X.env.cells.lookup x=some c->X.env.cells.lookup y=some c->x=y
 has:∀ x,(X.env.kindOf x=some .cell\/X.env.kindOf x=some .free)->∃ c,X.env.cells.lookup x=some c
 cab:∀ x c,X.fn x=true->X.env.cells.lookup x=some c->X.s₀.heap.objs.size<=c
 hd:X.calm=true->X.A.handled=none
 frames:X.A.frames=some X.stack
 stk:X.stack=X.outer\/(X.stack=X.env::X.outer/\X.env.frame=some X.env.locals)
 exf:∀ b∈X.ex,b≠X.env.locals/\∀ x c,X.env.cells.lookup x=some c->c≠b
 bs:∀ b o,X.base.get? b=some o->X.s₀.heap.get? b=some o/\X.H₀ b=none
 bsz:X.base.objs.size<=X.s₀.heap.objs.size
 noex:∀ b o,X.base.get? b=some o->b ∉ X.ex
 exfs:∀ b∈X.ex,b ∉ X.fs
 funs:X.s₀.heap.FunFrames X.base X.outer
 frf:∀ b∈X.fs,X.H₀ b=none
structure Inv (X:Cx) (pins:List (Addr × Obj)) (σ:List (Option V)) (H:Hp) (s:Shared):Prop where
 ok:X.Ok
 os:s.os=X.s₀.os
 bare:AllBare s.gens
 base:Un X.fs X.ex X.H₀ H X.s₀.heap s.heap
 loc:∃ m,s.heap.Ns X.env.locals m/\∀ (i:Nat) (x:Str) (v:V),X.N[i]?=some x->σ[i]?=some (some v)->Vis X.env.scope x->∃ u,RelV v u/\Look X.env s.heap m x u
 cell:∀ x c,X.env.cells.lookup x=some c->∃ v,s.heap.IsCell c v
 free:H X.env.locals=none
 freeC:∀ x c,X.env.cells.lookup x=some c->H c=none
 pin:∀ p∈X.pn++pins,s.heap.get? p.1=some p.2/\H p.1=none/\p.1≠X.env.locals/\p.1 ∉ X.fs/\∀ v,p.2.data≠.cell v
 hok:HOk X.prog X.w H s.heap
 len:σ.length=X.N.length
section
variable {X:Cx} {pins:List (Addr × Obj)} {σ:List (Option V)} {H H':Hp} {s:Shared} {h':Heap}
theorem Cx.Ok.nofr (ok:X.Ok) (e:X.base.get? b=some o):b ∉ X.fs:=fun hb=>by
 have:=(ok.funs.mem hb).1
 rw[e] at this;cases this
theorem Inv.bs (I:Inv X pins σ H s):∀ b o,X.base.get? b=some o->s.heap.get? b=some o/\H b=none:=fun b o e =>
 ⟨I.base.keep b o (I.ok.bs b o e).1 (I.ok.bs b o e).2 (I.ok.nofr e) (I.ok.noex b o e),I.base.free b o (I.ok.bs b o e).1 (I.ok.bs b o e).2 (I.ok.noex b o e)⟩
theorem Inv.bk (I:Inv X pins σ H s):∀ b o,X.base.get? b=some o->s.heap.get? b=some o:=fun b o e=>(I.bs b o e).1
theorem Inv.mod (I:Inv X pins σ H s):Mod X.K X.mg X.base:=I.ok.mod
theorem Inv.kIn (I:Inv X pins σ H s):X.K.In s.heap:=I.ok.mod.kin.keeps I.bk
theorem Inv.lt (I:Inv X pins σ H s):X.env.locals<s.heap.objs.size:=let ⟨_,hn,_⟩:=I.loc;hn.lt
theorem Inv.sz (I:Inv X pins σ H s):X.s₀.heap.objs.size<=s.heap.objs.size:=ydc I.ok.above (ydk I.lt)
theorem Inv.nofs (I:Inv X pins σ H s) (h:s.heap.objs.size<=a):a ∉ X.fs:=fun hb=>by
 obtain ⟨_,o,ho,_⟩:=I.ok.funs.mem hb
 exact absurd (ydb (ydn ho) (ydc I.sz h)) (ydd _)
theorem Inv.cne (I:Inv X pins σ H s):∀ x c,X.env.cells.lookup x=some c->c≠X.env.locals:=fun x c e z=>by
 obtain ⟨v,o,ho,hd⟩:=I.cell x c e
 obtain ⟨m,⟨o',es,ep,ho',hd',_⟩,_⟩:=I.loc
 rw[z,ho'] at ho;cases ho;rw[hd'] at hd;cases hd
theorem Inv.funs (I:Inv X pins σ H s):s.heap.FunFrames X.base X.outer:=by
 have all:∀ (l:List Env),(∀ b∈frs l,b∈X.fs)->X.s₀.heap.FunFrames X.base l->s.heap.FunFrames X.base l:=by
  intro l
  induction l with
  | nil=>intro _ _;trivial
  | cons env r ih =>
   intro hs hl
   obtain ⟨hk,⟨L,o,hf,hn,ho,hd⟩,hr⟩:=hl
   have hL:L∈X.fs:=hs L (by unfold frs;rw[ycf,hf];exact yap)
   obtain ⟨sl,e⟩:=I.base.slot L o ho (I.ok.frf L hL) hL fun z=>I.ok.exfs L z hL
   exact ⟨hk,⟨L,_,hf,hn,e,hd⟩,ih (fun b hb=>hs b (by unfold frs;rw[ycf,hf];exact yam _ hb)) hr⟩
 exact all X.outer (fun _ hb=>hb) I.ok.funs
theorem Inv.stack (I:Inv X pins σ H s):s.heap.FunFrames X.base X.stack:=by
 rcases I.ok.stk with e | ⟨e,hf⟩
 ·rw[e];exact I.funs
 ·rw[e]
  obtain ⟨m,hn,_⟩:=I.loc
  refine .cons (by rw[I.ok.kind];decide) hf hn ?_ I.funs
  exact yds (ydc I.ok.bsz I.ok.above)
theorem Inv.zeL (I:Inv X pins σ H s):∀ b∈frs X.stack,b∈X.env.locals::X.fs:=fun b hb=>by
 rcases I.ok.stk with e | ⟨e,hf⟩
 ·rw[e] at hb;exact yam _ hb
 ·rw[e] at hb
  unfold frs at hb
  rw[ycf,hf] at hb
  exact hb
theorem Inv.zoC (I:Inv X pins σ H s):∀ b∈frs X.stack,H b=none:=fun b hb=>by
 rcases yal.mp (I.zeL b hb) with e | hb
 ·rw[e];exact I.free
 ·obtain ⟨_,o,ho,_⟩:=I.ok.funs.mem hb
  exact I.base.free b o ho (I.ok.frf b hb) fun z=>I.ok.exfs b z hb
theorem Inv.step {g':Array GenState} {t':Nat} {d':Drawn} {ch:List Addr} (I:Inv X pins σ H s)
  (hch:∀ b∈ch,(b∈X.ex\/X.s₀.heap.objs.size<=b)/\b≠X.env.locals/\(∀ x c,X.env.cells.lookup x=some c->c≠b)/\∀ p∈X.pn++pins,p.1≠b)
  (keep:∀ b o,b≠X.env.locals->b ∉ X.fs->b ∉ ch->s.heap.get? b=some o->H b=none->h'.get? b=some o)
  (slot:∀ b o,b≠X.env.locals->b∈X.fs->b ∉ ch->s.heap.get? b=some o->H b=none->∃ sl,h'.get? b=some { o with slots:=sl }) (free:∀ b o,b ∉ ch->s.heap.get? b=some o->H b=none->H' b=none)
  (there:∀ b o,b ∉ ch->s.heap.get? b=some o->∃ o',h'.get? b=some o')
  (tups:∀ b xs,H b=some (.tup xs)->H' b=some (.tup xs)) (frzs:∀ b o u,H b=some (.frz o u)->H' b=some (.frz o u)) (tbls:∀ b ps,H b=some (.tbl ps)->∃ more,H' b=some (.tbl (ps++more)))
  (ns:∀ m,s.heap.Ns X.env.locals m->h'.Ns X.env.locals m) (hok:HOk X.prog X.w H' h') (hg:AllBare g') :
  Inv X pins σ H' { s with heap:=h',gens:=g',drawn:=d',toks:=t' }:=by
 have neL:∀ b o,X.s₀.heap.get? b=some o->b≠X.env.locals:=fun b o e=>ycy (ydb (ydn e) I.ok.above)
 have neC:∀ b o,X.s₀.heap.get? b=some o->b ∉ X.ex->b ∉ ch:=fun b o e hx hb=>by
  rcases (hch b hb).1 with z | z
  ·exact hx z
  ·exact absurd (ydb (ydn e) z) (ydd _)
 have cellK:∀ x c,X.env.cells.lookup x=some c->∀ v,s.heap.IsCell c v->h'.IsCell c v:=fun x c e v ⟨o,ho,hd⟩=>by
  have nch:c ∉ ch:=fun z=>(hch c z).2.2.1 x c e rfl
  by_cases hc:c∈X.fs
  ·obtain ⟨sl,q⟩:=slot c o (I.cne x c e) hc nch ho (I.freeC x c e)
   exact ⟨_,q,hd⟩
  ·exact ⟨o,keep c o (I.cne x c e) hc nch ho (I.freeC x c e),hd⟩
 refine ⟨I.ok,I.os,hg,⟨fun b o e n hb hx=>?_,fun b o e n hb hx=>?_,fun b o e n hx=>?_,fun b o e hx=>?_,fun b xs e=>tups b xs (I.base.tups b xs e),fun b o xs e=>frzs b o xs (I.base.frzs b o xs e),fun b ps e=>?_⟩,?_,fun x c e=>?_,?_,fun x c e=>?_,fun p hp=>?_,hok,I.len⟩
 ·exact keep b o (neL b o e) hb (neC b o e hx) (I.base.keep b o e n hb hx) (I.base.free b o e n hx)
 ·obtain ⟨sl,e1⟩:=I.base.slot b o e n hb hx
  obtain ⟨sl',e2⟩:=slot b _ (neL b o e) hb (neC b o e hx) e1 (I.base.free b o e n hx)
  exact ⟨sl',e2⟩
 ·obtain ⟨o',e1⟩:=I.base.there b o e hx
  exact free b o' (neC b o e hx) e1 (I.base.free b o e n hx)
 ·obtain ⟨o',e1⟩:=I.base.there b o e hx
  exact there b o' (neC b o e hx) e1
 ·obtain ⟨m1,e1⟩:=I.base.tbls b ps e
  obtain ⟨m2,e2⟩:=tbls b _ e1
  exact ⟨m1++m2,by rw[e2,Array.append_assoc]⟩
 ·obtain ⟨m,hn,hl⟩:=I.loc
  refine ⟨m,ns m hn,fun i x v e1 e2 e3=>?_⟩
  obtain ⟨u,r,l⟩:=hl i x v e1 e2 e3
  refine ⟨u,r,?_⟩
  rcases l with l | ⟨k,c,e,z⟩
  ·exact .inl l
  ·exact .inr ⟨k,c,e,cellK x c e _ z⟩
 ·obtain ⟨v,z⟩:=I.cell x c e
  exact ⟨v,cellK x c e v z⟩
 ·obtain ⟨m,⟨o,_,_,ho,_⟩,_⟩:=I.loc
  exact free _ o (fun z=>(hch _ z).2.1 rfl) ho I.free
 ·obtain ⟨v,o,ho,hd⟩:=I.cell x c e
  exact free c o (fun z=>(hch c z).2.2.1 x c e rfl) ho (I.freeC x c e)
 ·obtain ⟨e,n,ne,nf,d⟩:=I.pin p hp
  have nch:p.1 ∉ ch:=fun z=>(hch p.1 z).2.2.2 p hp rfl
  exact ⟨keep p.1 p.2 ne nf nch e n,free p.1 p.2 nch e n,ne,nf,d⟩
theorem Inv.un {t':Nat} (I:Inv X pins σ H s) (u:Un X.fs [] H H' s.heap h') (hok:HOk X.prog X.w H' h'):Inv X pins σ H' { s with heap:=h',toks:=t' }:=by
 obtain ⟨m,⟨o,es,ep,ho,r⟩,_⟩:=id I.loc
 obtain ⟨sl,hL⟩:=u.any ho I.free (by simp)
 exact I.step (g':=s.gens) (d':=s.drawn) (ch:=[]) (fun _ z=>nomatch z) (fun b o _ hb _ e n=>u.keep b o e n hb (by simp)) (fun b o _ hb _ e n=>u.slot b o e n hb (by simp)) (fun b o _ e n=>u.free b o e n (by simp)) (fun b o _ e=>u.there b o e (by simp)) u.tups u.frzs u.tbls (fun m' hm=>by
  obtain ⟨o',es',ep',ho',r'⟩:=hm
  rw[ho] at ho';cases ho'
  exact ⟨_,es',ep',hL,r'⟩) hok I.bare
theorem Inv.call {g':Array GenState} {t':Nat} {d':Drawn} {ch:List Addr} (I:Inv X pins σ H s) (u:Un (frs X.stack) ch H H' s.heap h') (hok:HOk X.prog X.w H' h') (hg:AllBare g')
  (hch:∀ b∈ch,(b∈X.ex\/X.s₀.heap.objs.size<=b)/\b≠X.env.locals/\(∀ x c,X.env.cells.lookup x=some c->c≠b)/\∀ p∈X.pn++pins,p.1≠b) :
  Inv X pins σ H' { s with heap:=h',gens:=g',drawn:=d',toks:=t' }:=by
 obtain ⟨m,⟨o,es,ep,ho,r⟩,_⟩:=id I.loc
 obtain ⟨sl,hL⟩:=u.any ho I.free fun z=>(hch _ z).2.1 rfl
 exact I.step (ch:=ch) hch (fun b o hL hb hc e n=>u.keep b o e n (fun z=>(yal.mp (I.zeL b z)).elim hL hb) hc) (fun b o _ _ hc e n=>u.any e n hc) (fun b o hc e n=>u.free b o e n hc) (fun b o hc e=>u.there b o e hc) u.tups u.frzs u.tbls (fun m' hm=>by
  obtain ⟨o',es',ep',ho',r'⟩:=hm
  rw[ho] at ho';cases ho'
  exact ⟨_,es',ep',hL,r'⟩) hok hg
theorem Inv.turned {t':Nat} {it:Addr} (I:Inv X pins σ H s) (k:∀ b o,b≠it->s.heap.get? b=some o->h'.get? b=some o) (hn:H it=none) (hL:it≠X.env.locals)
  (h1:it∈X.ex\/X.s₀.heap.objs.size<=it) (h2:∀ x c,X.env.cells.lookup x=some c->c≠it) (h3:∀ p∈X.pn++pins,p.1≠it):Inv X pins σ H { s with heap:=h',toks:=t' }:=by
 have nit:∀ b u,H b=some u->b≠it:=fun b u e z=>by rw[z,hn] at e;cases e
 refine I.step (g':=s.gens) (d':=s.drawn) (ch:=[it]) (fun b hb=>?_) (fun b o _ _ hc e _=>k b o (fun z=>hc (by simp[z])) e) (fun b o _ _ hc e _=>⟨o.slots,k b o (fun z=>hc (by simp[z])) e⟩) (fun _ _ _ _ n=>n)
  (fun b o hc e=>⟨o,k b o (fun z=>hc (by simp[z])) e⟩) (fun _ _ e=>e) (fun _ _ _ e=>e) (fun b ps e=>⟨#[],by rw[e];simp⟩) (fun m hm=>?_) (fun b u e=>?_) I.bare
 ·have e:b=it:=by simpa using hb
  subst e
  exact ⟨h1,hL,h2,h3⟩
 ·obtain ⟨o,es,ep,ho,r⟩:=hm
  exact ⟨o,es,ep,k _ o (Ne.symm hL) ho,r⟩
 ·refine (I.hok b u e).stay (fun c v hc q=>k c v ?_ q) (fun _ q=>q) fun _ _ q=>q
  rcases hc with z | z
  ·rw[z];exact nit b u e
  ·exact nit c _ z
theorem Inv.tok (I:Inv X pins σ H s) (t:Nat):Inv X pins σ H { s with toks:=t }:=I.un (h':=s.heap) (t':=t) Un.refl I.hok
theorem Inv.kept (I:Inv X pins σ H s) (k:∀ b u,s.heap.get? b=some u->h'.get? b=some u):Inv X pins σ H { s with heap:=h',toks:=t' }:=I.un (Un.kept k) (I.hok.kept k)
theorem Inv.laid (I:Inv X pins σ H s) (k:∀ b u,s.heap.get? b=some u->h'.get? b=some u) (hp:s.heap.objs.size<=a) (new:zar X.prog X.w (upd H a o) h' a o) :
  Inv X pins σ (upd H a o) { s with heap:=h',toks:=t' }:=I.un (Un.laid k hp (I.hok.fresh hp)) (I.hok.laid k hp new)
theorem Inv.write (I:Inv X pins σ H s) (mu:Mut (H x)) (he:e=x\/H e=some (.own x)) (k:∀ b u,b≠e->s.heap.get? b=some u->h'.get? b=some u) (heo:∃ u,h'.get? e=some u)
  (new:zar X.prog X.w (upd H x o) h' x o):Inv X pins σ (upd H x o) { s with heap:=h',toks:=t' }:=I.un (Un.write mu he k heo) (I.hok.write mu he k heo new)
theorem Inv.zon (I:Inv X pins σ H s) (h:∀ p∈pins',s.heap.get? p.1=some p.2/\H p.1=none/\p.1≠X.env.locals/\p.1 ∉ X.fs/\∀ v,p.2.data≠.cell v):Inv X pins' σ H s :=
 ⟨I.ok,I.os,I.bare,I.base,I.loc,I.cell,I.free,I.freeC,fun p hp=>(yae.mp hp).elim (fun z=>I.pin p (ybq _ z)) (h p),I.hok,I.len⟩
theorem zrn {N:List Str} (hN:N.Nodup) {i j:Nat} {x:Str} (a:N[i]?=some x) (b:N[j]?=some x):i=j:=by
 obtain ⟨h1,e1⟩:=yac.mp a
 obtain ⟨h2,e2⟩:=yac.mp b
 exact (List.getElem_inj hN).mp (e1.trans e2.symm)
theorem zvs {M:Model} {A:Around} {E:Value->Shared->Prop} {i:Nat} {x:Str} {v:V} {u:Value} {Q:Unit->Shared->Prop} (I:Inv X pins σ H s) (hN:X.N.Nodup) (hi:X.N[i]?=some x) (hx:Loc X.env.scope x) (r:RelV v u)
  (h:∀ s',Inv X pins (σ.set i (some v)) H s'->(∃ a,Heap.SameBut a s.heap s'.heap/\(a=X.env.locals\/X.env.cells.lookup x=some a))->Q () s') (hf:X.fn x=true\/X.env.scope.names.lookup x=some .local:=by first | exact .inl rfl | exact .inr rfl | assumption):wpAny M A (storeName X.env x u) Q E s:=by
 obtain ⟨m,hn,hl⟩:=id I.loc
 have hcls:(X.env.scope.kind == .class || (X.env.scope.kind == .module && X.env.locals != X.env.globals))=false:=by rw[I.ok.kind];rfl
 have hiσ:i<σ.length:=by rw[I.len];exact (yac.mp hi).1
 have cne:=I.cne
 have tracked:∀ {a:Addr} {h':Heap},(∃ o,s.heap.get? a=some o/\H a=none)->Heap.SameBut a s.heap h'->HOk X.prog X.w H h':=fun {a h'} ha hs b ob e=>by
  obtain ⟨_,_,hfree⟩:=ha
  refine (I.hok b ob e).stay (fun c w' hc q=>(hs.2 c ?_).trans q) (fun _ q=>q) fun _ _ q=>q
  rintro rfl
  rcases hc with rfl | hc
  ·rw[hfree] at e;cases e
  ·rw[hfree] at hc;cases hc
 rcases hx with hk | hk
 ·refine wpAny_storeName_local hk hn (fun h' hn' hs=>?_) hcls
  obtain ⟨oL,_,_,hoL,_⟩:=id hn
  refine h _ ⟨I.ok,I.os,I.bare,⟨fun b o e n hb hx=>?_,fun b o e n hb hx=>?_,I.base.free,fun b o e hx=>?_,I.base.tups,I.base.frzs,I.base.tbls⟩,⟨_,hn',fun j y v' e1 e2 e3=>?_⟩,fun y c e=>?_,I.free,I.freeC,fun p hp=>?_,tracked ⟨oL,hoL,I.free⟩ hs,by simpa using I.len⟩ ⟨_,hs,.inl rfl⟩
  ·exact (hs.2 b (ycy (ydb (ydn e) I.ok.above))).trans (I.base.keep b o e n hb hx)
  ·obtain ⟨sl,e1⟩:=I.base.slot b o e n hb hx
   exact ⟨sl,(hs.2 b (ycy (ydb (ydn e) I.ok.above))).trans e1⟩
  ·obtain ⟨o',e1⟩:=I.base.there b o e hx
   exact ⟨o',(hs.2 b (ycy (ydb (ydn e) I.ok.above))).trans e1⟩
  ·by_cases hj:j=i
   ·subst hj
    rw[hi] at e1;cases e1
    rw[List.getElem?_set_self hiσ] at e2
    cases e2
    exact ⟨u,r,.inl ⟨hk,by simp⟩⟩
   ·rw[List.getElem?_set_ne (Ne.symm hj)] at e2
    obtain ⟨u',r',q⟩:=hl j y v' e1 e2 e3
    refine ⟨u',r',?_⟩
    rcases q with ⟨k,e⟩ | ⟨k,c,e,z⟩
    ·refine .inl ⟨k,?_⟩
     have:y≠x:=fun e=>hj (zrn hN e1 (e ▸ hi))
     simp[this,e]
    ·exact .inr ⟨k,c,e,z.sameBut hs (cne y c e)⟩
  ·obtain ⟨w',z⟩:=I.cell y c e
   exact ⟨w',z.sameBut hs (cne y c e)⟩
  ·obtain ⟨e,n,ne,nf,d⟩:=I.pin p hp
   exact ⟨(hs.2 p.1 ne).trans e,n,ne,nf,d⟩
 ·have hfn:X.fn x=true:=by
   rcases hf with z | z
   ·exact z
   ·rw[z] at hk;cases hk
  obtain ⟨c,hc⟩:=I.ok.has x (.inl hk)
  obtain ⟨w',z⟩:=I.cell x c hc
  refine wpAny_storeName_cell I.ok.kind hk hc z (fun h' hc' hs=>?_)
  obtain ⟨oc,hoc,hocd⟩:=id z
  refine h { s with heap:=h' } ⟨I.ok,I.os,I.bare,⟨fun b o e n hb hx=>?_,fun b o e n hb hx=>?_,I.base.free,fun b o e hx=>?_,I.base.tups,I.base.frzs,I.base.tbls⟩,⟨m,hn.sameBut hs (Ne.symm (cne x c hc)),fun j y v' e1 e2 e3=>?_⟩,fun y c' e=>?_,I.free,I.freeC,fun p hp=>?_,tracked ⟨oc,hoc,I.freeC x c hc⟩ hs,by simpa using I.len⟩ ⟨c,hs,.inr hc⟩
  ·exact (hs.2 b (ycy (ydb (ydn e) (I.ok.cab x c hfn hc)))).trans (I.base.keep b o e n hb hx)
  ·obtain ⟨sl,e1⟩:=I.base.slot b o e n hb hx
   exact ⟨sl,(hs.2 b (ycy (ydb (ydn e) (I.ok.cab x c hfn hc)))).trans e1⟩
  ·obtain ⟨o',e1⟩:=I.base.there b o e hx
   exact ⟨o',(hs.2 b (ycy (ydb (ydn e) (I.ok.cab x c hfn hc)))).trans e1⟩
  ·by_cases hj:j=i
   ·subst hj
    rw[hi] at e1;cases e1
    rw[List.getElem?_set_self hiσ] at e2
    cases e2
    exact ⟨u,r,.inr ⟨.inl hk,c,hc,hc'⟩⟩
   ·rw[List.getElem?_set_ne (Ne.symm hj)] at e2
    obtain ⟨u',r',q⟩:=hl j y v' e1 e2 e3
    refine ⟨u',r',?_⟩
    rcases q with q | ⟨k,c',e,z'⟩
    ·exact .inl q
    ·refine .inr ⟨k,c',e,z'.sameBut hs ?_⟩
     rintro rfl
     exact hj (zrn hN e1 (I.ok.inj _ _ _ e hc ▸ hi))
  ·by_cases hcc:c'=c
   ·subst hcc;exact ⟨_,hc'⟩
   ·obtain ⟨w2,z2⟩:=I.cell y c' e
    exact ⟨w2,z2.sameBut hs hcc⟩
  ·obtain ⟨e,n,ne,nf,d⟩:=I.pin p hp
   refine ⟨(hs.2 p.1 ?_).trans e,n,ne,nf,d⟩
   intro q
   rw[q,hoc] at e
   have q':oc=p.2:=Option.some.inj e
   exact d w' (by rw[<-q'];exact hocd)
theorem zsd (I:Inv X pins σ H s) (hN:X.N.Nodup) (hi:X.N[i]?=some x) (hx:Loc X.env.scope x) (r:RelV v u)
  (h:∀ s',Inv X pins (σ.set i (some v)) H s'->Q () s') (hf:X.fn x=true\/X.env.scope.names.lookup x=some .local:=by first | exact .inl rfl | exact .inr rfl | assumption):wpAny M A (storeName X.env x u) Q E s :=
 zvs I hN hi hx r (fun s' I' _=>h s' I') hf
theorem Inv.call' (I:Inv X pins σ H s) (ho:s'.os=s.os) (u:Un (frs X.stack) ch H H' s.heap s'.heap) (hok:HOk X.prog X.w H' s'.heap) (hg:AllBare s'.gens)
  (hch:∀ b∈ch,(b∈X.ex\/X.s₀.heap.objs.size<=b)/\b≠X.env.locals/\(∀ x c,X.env.cells.lookup x=some c->c≠b)/\∀ p∈X.pn++pins,p.1≠b):Inv X pins σ H' s':=by
 obtain ⟨h',g',d',t',o'⟩:=s'
 have e:o'=s.os:=ho
 subst e
 exact I.call (g':=g') (t':=t') (d':=d') u hok hg hch
end
noncomputable abbrev XK:=Value->Option Addr->Hp->Prop
noncomputable abbrev St:=List (Option V)
noncomputable abbrev VK:=V->Hp->Prop
noncomputable abbrev TE:=St->Hp->VK->Prop
noncomputable abbrev TT:=St->Hp->(Bool->Hp->Prop)->Prop
noncomputable abbrev TA:=St->Hp->(List V->Hp->Prop)->Prop
structure Ends where
 nx:St->Hp->Prop
 rt:VK
 bk:St->Hp->Prop:=fun _ _=>False
 ct:St->Hp->Prop:=fun _ _=>False
noncomputable abbrev TS:=Ends->St->Hp->Prop
def EP (X:Cx) (pins:List (Addr × Obj)) (σ:St) (Q:VK) (u:Value) (s':Shared):Prop:=∃ v H',Inv X pins σ H' s'/\RelV v u/\Q v H'
def TP (X:Cx) (pins:List (Addr × Obj)) (σ:St) (Q:Bool->Hp->Prop) (b:Bool) (s':Shared):Prop:=∃ H',Inv X pins σ H' s'/\Q b H'
def AP (X:Cx) (pins:List (Addr × Obj)) (σ:St) (Q:List V->Hp->Prop) (us:List Value) (s':Shared):Prop:=∃ vs H',Inv X pins σ H' s'/\Vals vs us/\Q vs H'
def SP (X:Cx) (pins:List (Addr × Obj)) (D:Ends) (f:Flow) (s':Shared):Prop :=
 match f with
 | .next=>∃ σ' H',Inv X pins σ' H' s'/\D.nx σ' H'
 | .brk=>∃ σ' H',Inv X pins σ' H' s'/\D.bk σ' H'
 | .cont=>∃ σ' H',Inv X pins σ' H' s'/\D.ct σ' H'
 | .ret u=>∃ v σ' H',Inv X pins σ' H' s'/\RelV v u/\D.rt v H'
def PE (X:Cx) (e:Expr) (t:TE):Prop :=
 ∀ (pins:List (Addr × Obj)) (s:Shared) (σ:St) (H:Hp) (Q:VK),Inv X pins σ H s->t σ H Q->wpAny (model X.prog X.w) X.A (eval e X.env) (EP X pins σ Q) X.xe s
def PT (X:Cx) (e:Expr) (t:TT):Prop :=
 ∀ (pins:List (Addr × Obj)) (s:Shared) (σ:St) (H:Hp) (Q:Bool->Hp->Prop),Inv X pins σ H s->t σ H Q->wpAny (model X.prog X.w) X.A (isTrue e X.env (eval e X.env)) (TP X pins σ Q) X.xe s
def PW (X:Cx) (e:Expr) (t:TT):Prop :=
 ∀ (whole:Sem Value) (pins:List (Addr × Obj)) (s:Shared) (σ:St) (H:Hp) (Q:Bool->Hp->Prop),Inv X pins σ H s->t σ H Q->wpAny (model X.prog X.w) X.A (isTrue e X.env whole) (TP X pins σ Q) X.xe s
theorem PW.pt (h:PW X e t):PT X e t:=h _
def PA (X:Cx) (es:List Expr) (t:TA):Prop :=
 ∀ (pos:Pos) (pins:List (Addr × Obj)) (s:Shared) (σ:St) (H:Hp) (Q:List V->Hp->Prop),Inv X pins σ H s->t σ H Q->wpAny (model X.prog X.w) X.A (spliced (backTo pos (starEach es X.env))) (AP X pins σ Q) X.xe s
def PS (X:Cx) (st:Stmt) (t:TS):Prop :=
 ∀ (pins:List (Addr × Obj)) (s:Shared) (σ:St) (H:Hp) (D:Ends),Inv X pins σ H s->t D σ H->wpAny (model X.prog X.w) X.A (exec st X.env) (SP X pins D) X.xe s
def PSs (X:Cx) (st:List Stmt) (t:TS):Prop :=
 ∀ (pins:List (Addr × Obj)) (s:Shared) (σ:St) (H:Hp) (D:Ends),Inv X pins σ H s->t D σ H->wpAny (model X.prog X.w) X.A (execs st X.env) (SP X pins D) X.xe s
theorem thn (h:wpAny M A t Q E s) (hQ:∀ a s,Q a s->Q' a s):wpAny M A t Q' E s:=wpAny_mono h hQ fun _ _ x=>x
section
variable {X:Cx}
def zyz (i:Nat):TE:=fun σ H Q=>∃ v,σ[i]?=some (some v)/\Q v H
def tC (v:V):TE:=fun _ H Q=>Q v H
theorem zx3 (hN:X.N[i]?=some x) (hv:Vis X.env.scope x) (hd:(x == ("__debug__" : Str))=false:=by decide) (hcd:(x == ("__classdict__" : Str))=false:=by decide):PE X (.Name x pos) (zyz i):=by
 intro pins s σ H Q I h
 obtain ⟨v,e,h⟩:=h
 obtain ⟨m,hn,hl⟩:=I.loc
 obtain ⟨u,r,l⟩:=hl i x v hN e hv
 have fin:EP X pins σ Q u s:=⟨v,H,I,r,h⟩
 rcases l with ⟨hk,hm⟩ | ⟨hk,c,hc,hcell⟩
 ·exact wpAny_Name (wpAny_loadName_local I.ok.kind hk hn hm fin) hd
 ·rcases hk with hk | hk
  ·exact wpAny_Name (wpAny_loadName_cell I.ok.kind hk hc hcell fin) hd
  ·exact wpAny_Name (wpAny_loadName_free I.ok.kind hk hc hcell fin hcd) hd
theorem zc {i j pos}:PE X (.Constant (.int i) j pos) (tC (.int i)):=fun _ _ _ H _ I h=>wpAny_Constant_int ⟨.int i,H,I.tok _,⟨_,rfl⟩,h⟩
theorem zfm {b j pos}:PE X (.Constant (.bool b) j pos) (tC (.bl b)):=fun _ _ _ H _ I h=>Constant_bool ⟨.bl b,H,I,rfl,h⟩
theorem zvt {j pos}:PE X (.Constant .none j pos) (tC .non):=fun _ _ _ H _ I h=>Constant_none ⟨.non,H,I,rfl,h⟩
theorem zB {x j pos}:PE X (.Constant (.str x) j pos) (tC (.str x)):=fun _ _ _ H _ I h=>Calls.Constant_str ⟨.str x,H,I.tok _,⟨_,rfl⟩,h⟩
def Gl (X:Cx) (x:Str):Prop:=X.env.kindOf x=some .globalImplicit
theorem zmk (I:Inv X pins σ H s) (hg:Gl X x) (hm:X.mg x=some u) (h:Q u s)
  (hd:(x == ("__debug__" : Str))=false:=by decide):wpAny (model X.prog X.w) X.A (eval (.Name x pos) X.env) Q E s :=
 Calls.Name_function_global I.ok.kind hg (Calls.loadGlobal_global (by rw[I.ok.glob];exact I.mod.glob.keeps I.bk) hm h) hd
theorem zly (I:Inv X pins σ H s) (hg:Gl X x) (hm:X.mg x=none) (hv:bootBuiltins x=some u) (h:Q u s)
  (hn:x ≠ "__name__" := by decide) (hd:(x == ("__debug__" : Str))=false:=by decide):wpAny (model X.prog X.w) X.A (eval (.Name x pos) X.env) Q E s:=by
 obtain ⟨mb,h1,h2⟩:=I.mod.blt
 exact Calls.Name_function_global I.ok.kind hg (Calls.loadGlobal_builtin (by rw[I.ok.glob];exact I.mod.glob.keeps I.bk) hm (by rw[I.ok.blt];exact h1.keeps I.bk) ((h2 x hn).trans hv) h) hd
theorem zgT (hg:Gl X x) (hm:X.mg x=some u) (r:RelV v u) (hd:(x == ("__debug__" : Str))=false:=by decide):PE X (.Name x pos) (tC v) :=
 fun _ _ _ H _ I h=>zmk I hg hm ⟨v,H,I,r,h⟩ hd
theorem zoz (hg:Gl X x) (hm:X.mg x=none) (hv:bootBuiltins x=some u) (r:RelV v u) (hn:x ≠ "__name__" := by decide) (hd:(x == ("__debug__" : Str))=false:=by decide):PE X (.Name x pos) (tC v) :=
 fun _ _ _ H _ I h=>zly I hg hm hv ⟨v,H,I,r,h⟩ hn hd
variable {a b:Expr} {ta tb:TE} {pos:Pos}
def PC (X:Cx) (op:CmpOp) (a b:Expr) (t:TE):Prop :=
 ∀ (pins:List (Addr × Obj)) (s:Shared) (σ:St) (H:Hp) (Q:VK),Inv X pins σ H s->t σ H Q ->
  wpAny (model X.prog X.w) X.A (eval a X.env) (fun v s₁=>wpAny (model X.prog X.w) X.A (eval b X.env) (fun u s₂=>wpAny (model X.prog X.w) X.A (compareOp op v u) (EP X pins σ Q) X.xe s₂) X.xe s₁) X.xe s
def tB (t:TE):TT:=fun σ H Q=>t σ H fun x H1=>∃ c,x=.bl c/\Q c H1
theorem zcR (h:PE X e t) (he:∀ whole,isTrue e X.env whole=(do let v <-whole;standAt e.pos;holding [v] (truthy v)):=by intro _;rfl):PT X e (tB t):=by
 intro pins s σ H Q I hw
 refine isTrue_plain (thn (h pins s σ H _ I hw) fun v s1 ⟨x,H1,I1,r1,q1⟩=>?_) (he _)
 obtain ⟨d,rfl,q⟩:=q1
 cases r1
 exact wpAny_truthy_bool ⟨H1,I1,q⟩
variable {tA tB':TT} {rest:List Expr}
def zzz (t u:TT):TT:=fun σ H Q=>t σ H fun c H1=>if c=true then u σ H1 Q else Q false H1
def tOr (t u:TT):TT:=fun σ H Q=>t σ H fun c H1=>if c=true then Q true H1 else u σ H1 Q
def zzw (t:TT):TT:=fun σ H Q=>t σ H fun c H1=>Q (!c) H1
theorem zoG (ha:PT X a tA):PW X (.BoolOp .And [a] pos) tA:=by
 intro wh pins s σ H Q I h
 refine isTrue_and (thn (ha pins s σ H Q I h) fun c s1 e=>?_)
 cases c with
 | true=>exact isTrue_and_nil e
 | false=>exact e
theorem zuB (ha:PT X a tA):PW X (.BoolOp .Or [a] pos) tA:=by
 intro wh pins s σ H Q I h
 refine isTrue_or (thn (ha pins s σ H Q I h) fun c s1 e=>?_)
 cases c with
 | false=>exact isTrue_or_nil e
 | true=>exact e
theorem znN (ha:PT X a tA) (hb:PW X (.BoolOp .And (b::rest) pos) tB'):PW X (.BoolOp .And (a::b::rest) pos) (zzz tA tB'):=by
 intro wh pins s σ H Q I h
 refine isTrue_and (thn (ha pins s σ H _ I h) fun c s1 ⟨H1,I1,q1⟩=>?_)
 cases c with
 | true=>exact hb wh pins s1 σ H1 Q I1 q1
 | false=>exact ⟨H1,I1,q1⟩
theorem zwO (ha:PT X a tA) (hb:PW X (.BoolOp .Or (b::rest) pos) tB'):PW X (.BoolOp .Or (a::b::rest) pos) (tOr tA tB'):=by
 intro wh pins s σ H Q I h
 refine isTrue_or (thn (ha pins s σ H _ I h) fun c s1 ⟨H1,I1,q1⟩=>?_)
 cases c with
 | true=>exact ⟨H1,I1,q1⟩
 | false=>exact hb wh pins s1 σ H1 Q I1 q1
theorem zfX (ha:PT X a tA):PT X (.UnaryOp .Not a pos) (zzw tA):=by
 intro pins s σ H Q I h
 exact isTrue_not (ha pins s σ H (fun c H1=>Q (!c) H1) I h)
def zzi (ta tb:TE):TE:=fun σ H Q=>ta σ H fun x H1=>∃ c,x=.bl c/\if c=true then tb σ H1 Q else Q (.bl false) H1
def zzx (ta tb:TE):TE:=fun σ H Q=>ta σ H fun x H1=>∃ c,x=.bl c/\if c=true then Q (.bl true) H1 else tb σ H1 Q
def zzq (ta:TE):TE:=fun σ H Q=>ta σ H fun x H1=>∃ c,x=.bl c/\Q (.bl (!c)) H1
theorem zh3 {op} (h:PE X a t):PE X (.BoolOp op [a] pos) t:=fun pins s σ H Q I hw=>BoolOp_one (h pins s σ H Q I hw)
theorem zk3 (ha:PE X a ta) (hb:PE X (.BoolOp .And (b::rest) pos) tb):PE X (.BoolOp .And (a::b::rest) pos) (zzi ta tb):=by
 intro pins s σ H Q I h
 refine BoolOp_and (thn (ha pins s σ H _ I h) fun v s1 ⟨x,H1,I1,r1,q1⟩=>?_)
 obtain ⟨c,rfl,q1⟩:=q1
 cases r1
 refine wpAny_truthy_bool ?_
 cases c with
 | true=>exact hb pins s1 σ H1 Q I1 q1
 | false=>exact ⟨.bl false,H1,I1,rfl,q1⟩
theorem zw1 (ha:PE X a ta) (hb:PE X (.BoolOp .Or (b::rest) pos) tb):PE X (.BoolOp .Or (a::b::rest) pos) (zzx ta tb):=by
 intro pins s σ H Q I h
 refine BoolOp_or (thn (ha pins s σ H _ I h) fun v s1 ⟨x,H1,I1,r1,q1⟩=>?_)
 obtain ⟨c,rfl,q1⟩:=q1
 cases r1
 refine wpAny_truthy_bool ?_
 cases c with
 | false=>exact hb pins s1 σ H1 Q I1 q1
 | true=>exact ⟨.bl true,H1,I1,rfl,q1⟩
theorem zyQ (ha:PE X a ta):PE X (.UnaryOp .Not a pos) (zzq ta):=by
 intro pins s σ H Q I h
 refine UnaryOp_ (thn (ha pins s σ H _ I h) fun v s1 ⟨x,H1,I1,r1,q1⟩=>?_)
 obtain ⟨c,rfl,q1⟩:=q1
 cases r1
 exact not_of (wpAny_truthy_bool ⟨.bl (!c),H1,I1,rfl,q1⟩)
def tIf (t:TT) (ta tb:TE):TE:=fun σ H Q=>t σ H fun c H1=>if c=true then ta σ H1 Q else tb σ H1 Q
theorem zr5 (hc:PT X c tA) (ha:PE X a ta) (hb:PE X b tb):PE X (.IfExp c a b pos) (tIf tA ta tb):=by
 intro pins s σ H Q I h
 refine wpAny_IfExp (thn (hc pins s σ H _ I h) fun d s1 ⟨H1,I1,q1⟩=>?_)
 cases d with
 | true=>exact ha pins s1 σ H1 Q I1 q1
 | false=>exact hb pins s1 σ H1 Q I1 q1
end
def SqL (K:W.Frag) (H:Hp) (a:Addr) (xs:List V):Prop :=
 Rd H a (.lst xs) \/
  ∃ (o:Obj) (its:Array Value) (n:Nat),K.lookup a=some o/\o.cls=.type "list" /\ o.dict=none/\o.data=.seq its n/\its.size<=sizeLine/\Vals xs its.toList
def SqT (K:W.Frag) (H:Hp) (a:Addr) (xs:List V):Prop :=
 Rd H a (.tup xs) \/
  ∃ (o:Obj) (its:Array Value) (n:Nat),K.lookup a=some o/\o.cls=.type "tuple" /\ o.data=.seq its n/\its.size<=sizeLine/\Vals xs its.toList
noncomputable def zz0:Value->Option V
 | .none=>some .non
 | .bool b=>some (.bl b)
 | .int i _=>some (.int i)
 | .str x _=>some (.str x)
 | .bytes b _=>some (.byt b)
 | .float b _=>some (.flt b)
 | .ref a=>some (.ref a)
 | .type n=>some (.ty n)
 | _=>none
theorem RelV.abs (r:RelV x u):zz0 u=some x:=by
 cases x with
 | non=>cases r;rfl
 | bl _=>cases r;rfl
 | int _=>obtain ⟨t,rfl⟩:=r;rfl
 | str _=>obtain ⟨t,rfl⟩:=r;rfl
 | byt _=>obtain ⟨t,rfl⟩:=r;rfl
 | flt _=>obtain ⟨t,rfl⟩:=r;rfl
 | ref _=>cases r;rfl
 | ty _=>cases r;rfl
theorem RelV.inj (r:RelV x u) (q:RelV y u):x=y:=Option.some.inj (r.abs.symm.trans q.abs)
theorem Vals.inj:∀ {xs ys:List V} {us:List Value},Vals xs us->Vals ys us->xs=ys
 | _,_,_,.nil,.nil=>rfl
 | _,_,_,.cons r t,.cons r' t'=>by rw[r.inj r',Vals.inj t t']
section
variable {X:Cx} {pins:List (Addr × Obj)} {σ:St} {H:Hp} {s:Shared} {a:Addr} {xs ys:List V}
theorem SqL.of {K:W.Frag} (h:H a=some (.lst xs)):SqL K H a xs:=.inl (.inl h)
theorem SqT.of {K:W.Frag} (h:H a=some (.tup xs)):SqT K H a xs:=.inl (.inl h)
theorem Inv.list (I:Inv X pins σ H s) (h:SqL X.K H a xs):∃ its:List Value,Vals xs its/\PlainL s.heap a its.toArray/\xs.length<=sizeLine:=by
 rcases h with h | ⟨o,its,n,hk,hc,hd,hs,hz,r⟩
 ·obtain ⟨z,its,n,r,e⟩:=h.ok I.hok
  exact ⟨its,r,⟨_,n,e,rfl,rfl,rfl⟩,z⟩
 ·refine ⟨its.toList,r,⟨o,n,I.kIn a o hk,hc,hd,by simpa using hs⟩,?_⟩
  have e:=r.length
  simp only[ydy] at e
  ac_rfl
theorem Inv.tuple (I:Inv X pins σ H s) (h:SqT X.K H a xs):∃ its:List Value,Vals xs its/\IsTup s.heap a its.toArray/\xs.length<=sizeLine:=by
 rcases h with h | ⟨o,its,n,hk,hc,hs,hz,r⟩
 ·obtain ⟨z,its,r,p⟩:=h.ok I.hok
  exact ⟨its,r,p,z⟩
 ·refine ⟨its.toList,r,⟨o,I.kIn a o hk,hc,n,by simpa using hs⟩,?_⟩
  have e:=r.length
  simp only[ydy] at e
  ac_rfl
theorem Inv.zvZ (I:Inv X pins σ H s) (h:SqL X.K H a xs) (h':SqL X.K H a ys):xs=ys:=by
 obtain ⟨its,r,⟨o,n,e,_,_,d⟩,_⟩:=I.list h
 obtain ⟨its',r',⟨o',n',e',_,_,d'⟩,_⟩:=I.list h'
 rw[e] at e';cases e'
 rw[d] at d'
 injection d' with d1 _
 have:its=its':=by simpa using congrArg Array.toList d1
 subst this
 exact r.inj r'
end
noncomputable abbrev Cx.wish (X:Cx) (E:Value->Shared->Prop):Cx:={ X with xe:=E }
noncomputable abbrev Cx.nox (X:Cx):Cx:=X.wish fun _ _=>False
theorem Cx.Ok.wish {X:Cx} (ok:X.Ok) (E:Value->Shared->Prop):(X.wish E).Ok :=
 ⟨ok.mod,ok.kind,ok.glob,ok.blt,ok.above,ok.inj,ok.has,ok.cab,ok.hd,ok.frames,ok.stk,ok.exf,ok.bs,ok.bsz,ok.noex,ok.exfs,ok.funs,ok.frf⟩
theorem Cx.Ok.unwish {X:Cx} {E:Value->Shared->Prop} (ok:(X.wish E).Ok):X.Ok :=
 ⟨ok.mod,ok.kind,ok.glob,ok.blt,ok.above,ok.inj,ok.has,ok.cab,ok.hd,ok.frames,ok.stk,ok.exf,ok.bs,ok.bsz,ok.noex,ok.exfs,ok.funs,ok.frf⟩
section
variable {X:Cx} {pins:List (Addr × Obj)} {σ:St} {H:Hp} {s:Shared} {E:Value->Shared->Prop}
theorem Inv.wish (I:Inv X pins σ H s) (E:Value->Shared->Prop):Inv (X.wish E) pins σ H s:=⟨I.ok.wish E,I.os,I.bare,I.base,I.loc,I.cell,I.free,I.freeC,I.pin,I.hok,I.len⟩
theorem Inv.unwish (I:Inv (X.wish E) pins σ H s):Inv X pins σ H s:=⟨I.ok.unwish,I.os,I.bare,I.base,I.loc,I.cell,I.free,I.freeC,I.pin,I.hok,I.len⟩
theorem SP.unwish (h:SP (X.wish E) pins D f s'):SP X pins D f s':=by
 cases f with
 | next=>obtain ⟨σ',H',I,q⟩:=h;exact ⟨σ',H',I.unwish,q⟩
 | brk=>obtain ⟨σ',H',I,q⟩:=h;exact ⟨σ',H',I.unwish,q⟩
 | cont=>obtain ⟨σ',H',I,q⟩:=h;exact ⟨σ',H',I.unwish,q⟩
 | ret u=>obtain ⟨v,σ',H',I,r,q⟩:=h;exact ⟨v,σ',H',I.unwish,r,q⟩
theorem PSs.nox {st:List Stmt} {t:TS} (h:PSs X.nox st t):PSs X st t:=fun pins s σ H D I hw =>
 wpAny_mono (h pins s σ H D (I.wish _) hw) (fun _ _ q=>q.unwish) fun _ _ z=>False.elim z
end
section
variable {X:Cx} {st:Stmt} {rest:List Stmt} {t u:TS} {e:Expr} {te:TE} {pos:Pos}
def zzl:TS:=fun D σ H=>D.nx σ H
def zal (t u:TS):TS:=fun D σ H=>t { D with nx:=u D } σ H
theorem zO:PSs X [] zzl:=fun _ _ σ H _ I h=>wpAny_execs_nil ⟨σ,H,I,h⟩
theorem zwC (h1:PS X st t) (h2:PSs X rest u):PSs X (st::rest) (zal t u):=by
 intro pins s σ H D I h
 refine wpAny_execs_cons (thn (h1 pins s σ H { D with nx:=u D } I h) fun f s1 q=>?_)
 cases f with
 | next =>
  obtain ⟨σ',H',I',q⟩:=q
  exact h2 pins s1 σ' H' D I' q
 | ret v=>exact q
 | brk=>exact q
 | cont=>exact q
theorem ze (h1:PS X st t):PSs X [st] t:=by
 intro pins s σ H D I h
 refine wpAny_execs_cons (thn (h1 pins s σ H D I h) fun f s1 q=>?_)
 cases f with
 | next=>exact wpAny_execs_nil q
 | ret v=>exact q
 | brk=>exact q
 | cont=>exact q
theorem Inv.quiet (I:Inv X pins σ H s):interactive X.env=false:=by simp[interactive,I.ok.kind]
def zzo (te:TE):TS:=fun D σ H=>te σ H fun _ H1=>D.nx σ H1
theorem zaa (he:PE X e te) (hs:swapsWith e none pos.line X.env=pure false:=by rfl):PS X (.Expr e pos) (zzo te):=by
 intro pins s σ H D I h
 exact wpAny_Expr_any (thn (he pins s σ H _ I h) fun v s1 ⟨x,H1,I1,r1,q1⟩=>⟨σ,H1,I1,q1⟩) I.quiet hs
def zzG (te:TE):TS:=fun D σ H=>te σ H D.rt
theorem zo (he:PE X e te):PS X (.Return (some e) pos) (zzG te):=by
 intro pins s σ H D I h
 exact wpAny_Return_some (thn (he pins s σ H _ I h) fun v s1 ⟨x,H1,I1,r1,q1⟩=>⟨x,σ,H1,I1,r1,q1⟩)
def zzv (c:TT) (t u:TS):TS:=fun D σ H=>c σ H fun b H1=>if b=true then t D σ H1 else u D σ H1
theorem zX (hc:PT X c tc) (ha:PSs X a t) (hb:PSs X b u):PS X (.If c a b pos) (zzv tc t u):=by
 intro pins s σ H D I h
 refine wpAny_If (thn (hc pins s σ H _ I h) fun d s1 ⟨H1,I1,q1⟩=>?_)
 cases d with
 | true=>exact ha pins s1 σ H1 D I1 q1
 | false=>exact hb pins s1 σ H1 D I1 q1
def zyc:TS:=fun _ _ _=>False
theorem zf1:PSs X sts zyc:=fun _ _ _ _ _ _ h=>h.elim
end
noncomputable abbrev TG:=V->St->Hp->(St->Hp->Prop)->Prop
noncomputable abbrev TGs:=List V->St->Hp->(St->Hp->Prop)->Prop
def PG (X:Cx) (target:Expr) (t:TG):Prop :=
 ∀ (pins:List (Addr × Obj)) (s:Shared) (σ:St) (H:Hp) (v:V) (u:Value) (Q:St->Hp->Prop),Inv X pins σ H s->RelV v u->t v σ H Q ->
  wpAny (model X.prog X.w) X.A (assign target X.env u) (fun _ s'=>∃ σ' H',Inv X pins σ' H' s'/\Q σ' H') X.xe s
def PGs (X:Cx) (ts:List Expr) (t:TGs):Prop :=
 ∀ (pins:List (Addr × Obj)) (s:Shared) (σ:St) (H:Hp) (vs:List V) (us:List Value) (Q:St->Hp->Prop),Inv X pins σ H s->Vals vs us->t vs σ H Q ->
  wpAny (model X.prog X.w) X.A (assignInOrder ((assignEach ts X.env).map (·.2)) us) (fun _ s'=>∃ σ' H',Inv X pins σ' H' s'/\Q σ' H') X.xe s
noncomputable abbrev TSet:=V->V->V->Hp->(Hp->Prop)->Prop
def PSet (X:Cx) (t:TSet):Prop :=
 ∀ (pins:List (Addr × Obj)) (s:Shared) (σ:St) (H:Hp) (o i v:V) (ov iv u:Value) (Q:Hp->Prop),Inv X pins σ H s->RelV o ov->RelV i iv->RelV v u->t o i v H Q ->
  wpAny (model X.prog X.w) X.A (setItem ov iv u) (fun _ s'=>∃ H',Inv X pins σ H' s'/\Q H') X.xe s
section
variable {X:Cx} {pos:Pos}
def zdh (i:Nat):TG:=fun v σ H Q=>Q (σ.set i (some v)) H
theorem zI (hN:X.N.Nodup) (hi:X.N[i]?=some x) (hx:Loc X.env.scope x) (hf:X.fn x=true\/X.env.scope.names.lookup x=some .local:=by first | exact .inl rfl | exact .inr rfl | assumption):PG X (.Name x pos) (zdh i):=by
 intro pins s σ H v u Q I r h
 exact wpAny_assign_Name (zsd I hN hi hx r (fun s' I'=>⟨_,H,I',h⟩) hf)
noncomputable def zyd:TGs:=fun vs σ H Q=>vs=[]/\Q σ H
noncomputable def zqg (t:TG) (u:TGs):TGs:=fun vs σ H Q=>∃ v r,vs=v::r/\t v σ H fun σ' H'=>u r σ' H' Q
theorem zc3:PGs X [] zyd:=by
 intro pins s σ H vs us Q I r h
 obtain ⟨e,h⟩:=h
 subst e
 cases r
 exact assignInOrder_nil ⟨σ,H,I,h⟩
theorem zV (h1:PG X e t) (h2:PGs X es u)
  (hs:(assignEach (e::es) X.env).map (·.2)=assign e X.env::(assignEach es X.env).map (·.2):=by rfl):PGs X (e::es) (zqg t u):=by
 intro pins s σ H vs us Q I r h
 obtain ⟨v,vr,e1,h⟩:=h
 subst e1
 cases r with
 | cons r rr =>
  rw[hs]
  refine assignInOrder_cons (thn (h1 pins s σ H _ _ _ I r h) fun _ s1 ⟨σ1,H1,I1,q1⟩=>?_)
  exact h2 pins s1 σ1 H1 _ _ Q I1 rr q1
def zyq (K:W.Frag) (n:Nat) (t:TGs):TG:=fun v σ H Q=>∃ a xs,v=.ref a/\SqT K H a xs/\xs.length=n/\t xs σ H Q
theorem zeh (hc:X.calm=true) (h:PGs X es t)
  (hn:(assignEach es X.env).length=n:=by rfl) (hst:(assignEach es X.env).findIdx? (·.1)=none:=by rfl):PG X (.Tuple es k pos) (zyq X.K n t):=by
 intro pins s σ H v u Q I r hw
 obtain ⟨a,xs,e1,hq,hl,hw⟩:=hw
 subst e1
 cases r
 obtain ⟨its,rv,ht,hz⟩:=I.tuple hq
 refine assign_Tuple_tuple (I.ok.hd hc) ht (by simp[hn,<-hl,rv.length]) hst fun h' hx=>?_
 have I1:Inv X pins σ H { s with heap:=h' }:=I.kept (t':=s.toks) fun b o e=>hx b o (ycy (ydn e)) e
 exact h pins _ σ H xs _ Q I1 (by simpa using rv) hw
def zzy (to ti:TE) (t:TSet):TG:=fun v σ H Q=>to σ H fun o H1=>ti σ H1 fun i H2=>t o i v H2 fun H3=>Q σ H3
theorem zuK (ho:PE X o to) (hi:PE X i ti) (hs:PSet X t)
  (ha:∀ v,assign (.Subscript o i pos) X.env v=(do
   let ov <-holding [v] (eval o X.env)
   let iv <-holding [v,ov] (eval i X.env)
   standAt pos
   holding [v,ov,iv] (setItem ov iv v)
   release [v,ov,iv] []):=by intro _;rfl):PG X (.Subscript o i pos) (zzy to ti t):=by
 intro pins s σ H v u Q I r h
 rw[ha]
 refine wpAny_bind (wpAny_holding (thn (ho pins s σ H _ I h) fun ov s1 ⟨x,H1,I1,r1,q1⟩=>?_))
 refine wpAny_bind (wpAny_holding (thn (hi pins s1 σ H1 _ I1 q1) fun iv s2 ⟨y,H2,I2,r2,q2⟩=>?_))
 refine wpAny_bind (wpAny_standAt (wpAny_bind (wpAny_holding (thn (hs pins s2 σ H2 x y v ov iv u _ I2 r1 r2 r q2) fun _ s3 ⟨H3,I3,q3⟩=>?_))))
 exact wpAny_release ⟨σ,H3,I3,q3⟩
def zqU (te:TE) (g:TG):TS:=fun D σ H=>te σ H fun x H1=>g x σ H1 D.nx
theorem zhx (he:PE X e te) (hg:PG X tg g) (hs:swapsWithSole [tg] e pos.line X.env=pure false:=by rfl) (hw:swappedStores [tg] e X.env=pure none:=by rfl)
  (h1:(assignEach [tg] X.env).map (·.2)=[assign tg X.env]:=by rfl):PS X (.Assign [tg] e pos) (zqU te g):=by
 intro pins s σ H D I h
 refine wpAny_Assign_stores (thn (he pins s σ H _ I h) fun v s1 ⟨x,H1,I1,r1,q1⟩=>?_) hs hw
 rw[h1]
 exact thn (hg pins s1 σ H1 x v _ I1 r1 q1) fun _ s2 q=>q
theorem zp (hN:X.N.Nodup) (hi:X.N[i]?=some x) (hx:Loc X.env.scope x) (he:PE X e te) (hs:swapsWith e (some (.Name x pos')) pos.line X.env=pure false:=by rfl) (hf:X.fn x=true\/X.env.scope.names.lookup x=some .local:=by first | exact .inl rfl | exact .inr rfl | assumption) :
  PS X (.Assign [.Name x pos'] e pos) (zqU te (zdh i)):=by
 intro pins s σ H D I h
 refine wpAny_Assign_Name (thn (he pins s σ H _ I h) fun v s1 ⟨y,H1,I1,r1,q1⟩=>?_) hs
 exact zsd I1 hN hi hx r1 (fun s2 I2=>⟨_,H1,I2,q1⟩) hf
end
section
variable {X:Cx} {pos:Pos}
def zyK (c:TT) (tb:TS):TS:=fun D σ H=>∃ W:Nat->St->Hp->Prop,(∃ m,W m σ H)/\∀ m σ H,W m σ H ->
 c σ H fun b H1=>if b=true then ∃ N:St->Hp->Prop,(∀ σ' H',N σ' H'->∃ m',m'<m/\W m' σ' H')/\tb { D with nx:=N,ct:=N,bk:=D.nx } σ H1 else D.nx σ H1
theorem zdR (hp:PassesOwn (model X.prog X.w) X.A X.env X.xe) (hc:PT X c tc) (hb:PSs X body tb):PS X (.While c body [] pos) (zyK tc tb):=by
 intro pins s σ H D I h
 obtain ⟨W,⟨m0,w0⟩,turn⟩:=h
 refine wpAny_While (codeAny_whileLoop (fun n s'=>∃ σ' H',Inv X pins σ' H' s'/\W n σ' H') ?_ m0 ⟨σ,H,I,w0⟩)
 rintro n s1 ⟨σ1,H1,I1,w1⟩
 refine wpAny_passesOwn hp (thn (hc pins s1 σ1 H1 _ I1 (turn n σ1 H1 w1)) fun b s2 ⟨H2,I2,q2⟩=>?_)
 cases b with
 | true =>
  obtain ⟨N,hN,q2⟩:=q2
  rw[if_pos rfl]
  refine wpAny_passesOwn hp (thn (hb pins s2 σ1 H2 _ I2 q2) fun f s3 q3=>?_)
  cases f with
  | next =>
   obtain ⟨σ3,H3,I3,n3⟩:=q3
   obtain ⟨m',hm,w3⟩:=hN σ3 H3 n3
   exact ⟨m',hm,σ3,H3,I3,w3⟩
  | cont =>
   obtain ⟨σ3,H3,I3,n3⟩:=q3
   obtain ⟨m',hm,w3⟩:=hN σ3 H3 n3
   exact ⟨m',hm,σ3,H3,I3,w3⟩
  | brk=>exact q3
  | ret v=>exact q3
 | false =>
  rw[if_neg Bool.false_ne_true]
  exact wpAny_execs_nil ⟨σ1,H2,I2,q2⟩
end
structure It where
 go:Nat->Hp->Prop
 yld:Nat->Hp->V->Hp->Prop
 stop:Nat->Hp->Prop
def zbr (X:Cx) (pins:List (Addr × Obj)) (H:Hp) (b:Addr):Prop :=
 H b=none/\b≠X.env.locals/\b ∉ X.fs/\(b∈X.ex\/X.s₀.heap.objs.size<=b)/\(∀ x c,X.env.cells.lookup x=some c->c≠b)/\∀ p∈X.pn++pins,p.1≠b
theorem Inv.zrL (I:Inv X pins σ H s) (hb:s.heap.objs.size<=b) (hn:H' b=none):zbr X pins H' b:=by
 refine ⟨hn,ydi (ydb I.lt hb),I.nofs hb,.inr (ydc I.sz hb),fun x c e z=>?_,fun p hp z=>?_⟩
 ·obtain ⟨v,q⟩:=I.cell x c e
  exact absurd (ydb q.lt (by rw[z];exact hb)) (ydd _)
 ·exact absurd (ydb (ydn (I.pin p hp).1) (by rw[z];exact hb)) (ydd _)
structure Turn (P:Program) (w:World) (K:W.Frag) (tg:Expr) (J:It) (fp:List Addr) (it:Addr) (tn:Nat->Heap->Prop):Prop where
 mem:it∈fp
 obj:∀ i h,tn i h->∀ b∈fp,∃ o,h.get? b=some o/\∀ v,o.data≠.cell v
 keep:∀ i h h',tn i h->(∀ b∈fp,∀ o,h.get? b=some o->h'.get? b=some o)->tn i h'
 item:∀ (X:Cx),X.prog=P->X.w=w->X.K=K->X.calm=true->∀ (i:Nat) (pins:List (Addr × Obj)) (s:Shared) (σ:St) (H:Hp) (E:Value->Shared->Prop),Inv X pins σ H s->(∀ b∈fp,zbr X pins H b)->tn i s.heap->J.go i H ->
  wpAny (model P w) X.A (pyNext (.ref it)) (fun r s1=>∃ u,r=some u /\
   wpAny (model P w) X.A (letOwnedTupleGo tg (.ref it) u) (fun _ s2=>∃ x H',Inv X pins σ H' s2/\RelV x u/\J.yld i H x H'/\tn (i+1) s2.heap/\∀ b∈fp,H' b=none) E s1) E s
 done:∀ (X:Cx),X.prog=P->X.w=w->X.K=K->X.calm=true->∀ (i:Nat) (pins:List (Addr × Obj)) (s:Shared) (σ:St) (H:Hp) (E:Value->Shared->Prop),Inv X pins σ H s->(∀ b∈fp,zbr X pins H b)->tn i s.heap->J.stop i H ->
  wpAny (model P w) X.A (pyNext (.ref it)) (fun r s1=>r=none/\Inv X pins σ H s1) E s
 self:∀ (A:Around) (i:Nat) (s:Shared) (Q:Value->Shared->Prop) (E:Value->Shared->Prop),tn i s.heap->Q (.ref it) s->wpAny (model P w) A (pyIter (.ref it)) Q E s
noncomputable abbrev TI:=St->Hp->(It->Hp->Prop)->Prop
def PIE (X:Cx) (pins:List (Addr × Obj)) (σ:St) (tg:Expr) (R:It->Hp->Prop) (itv:Value) (s2:Shared):Prop :=
 ∃ (it:Addr) (fp:List Addr) (tn:Nat->Heap->Prop) (J:It) (H':Hp),itv=.ref it/\Inv X pins σ H' s2/\Turn X.prog X.w X.K tg J fp it tn/\tn 0 s2.heap/\(∀ b∈fp,zbr X pins H' b)/\R J H'
def PI (X:Cx) (tg iter:Expr) (wi:TI):Prop :=
 ∀ (pins:List (Addr × Obj)) (s:Shared) (σ:St) (H:Hp) (R:It->Hp->Prop),Inv X pins σ H s->wi σ H R ->
  wpAny (model X.prog X.w) X.A (eval iter X.env) (fun v s1=>wpAny (model X.prog X.w) X.A (pyIter v) (PIE X pins σ tg R) X.xe s1) X.xe s
theorem zwQ (ho:s.heap.get? it=some o) (hc:o.cls=.type n) (hd:o.data=.fields vs)
  (hn:["enumerate", "zip", "dict_itemiterator", "dict_reverseitemiterator", "odict_iterator", "itertools.zip_longest", "itertools.pairwise"].contains n=false) (hQ:Q () s):wpAny M A (letOwnedTupleGo tg (.ref it) u) Q E s:=by
 unfold letOwnedTupleGo
 cases tg <;> first
  | exact wpAny_pure hQ
  | (cases u <;> first
    | exact wpAny_pure hQ
    | (refine wpAny_bind (wpAny_load ho ?_)
       rw[hc,hd]
       show wpAny M A (if (["enumerate", "zip", "dict_itemiterator", "dict_reverseitemiterator", "odict_iterator", "itertools.zip_longest", "itertools.pairwise"].contains n && vs[0]? == some (rawInt _))=true then _ else _) Q E s
       rw[if_neg (by intro h;rw[hn,Bool.false_and] at h;cases h)]
       exact wpAny_pure hQ))
noncomputable def Itl (K:W.Frag) (a:Addr):It :=
 ⟨fun i H=>∃ xs x,SqL K H a xs/\xs[i]?=some x,fun i H x H'=>H'=H/\∀ xs,SqL K H a xs->xs[i]?=some x,fun i H=>∃ xs,SqL K H a xs/\xs.length<=i⟩
noncomputable def Itr (lo:Int) (n:Nat):It:=⟨fun i _=>i<n,fun i H x H'=>H'=H/\x=.int (lo+i),fun i _=>n<=i⟩
theorem zvu {P:Program} {w:World} {K:W.Frag} {tg:Expr} (a it:Addr):Turn P w K tg (Itl K a) [it] it (fun i h=>h.IsListIter it a i) where
 mem:=by simp
 obj:=fun i h st b hb=>by
  have e:b=it:=by simpa using hb
  subst e
  obtain ⟨o,e,c,d⟩:=st
  exact ⟨o,e,fun v z=>by rw[d] at z;cases z⟩
 keep:=fun i h h' st k=>st.at fun o e=>k it (by simp) o e
 item:=by
  intro X hP hw hK hc i pins s σ H E I hf st hg
  subst hP hw hK
  obtain ⟨xs,x,hq,hx⟩:=hg
  obtain ⟨its,rv,p,hz⟩:=I.list hq
  obtain ⟨u,hu,ru⟩:=rv.get hx
  obtain ⟨f0,f1,f2,f3,f4,f5⟩:=hf it (by simp)
  refine wpAny_pyNext_list_item st p.isList (x:=u) (by simpa using hu) fun h' st' sb=>?_
  have I1:Inv X pins σ H { s with heap:=h' }:=I.turned (t':=s.toks) (fun b o hb e=>(sb.2 b hb).trans e) f0 f1 f3 f4 f5
  obtain ⟨o,e,c,d⟩:=id st'
  exact ⟨u,rfl,zwQ (s:={ s with heap:=h' }) e c d (by decide) ⟨x,H,I1,ru,⟨rfl,fun ys hy=>by rw[I.zvZ hy hq];exact hx⟩,st',fun b hb=>(hf b hb).1⟩⟩
 done:=by
  intro X hP hw hK hc i pins s σ H E I hf st hg
  subst hP hw hK
  obtain ⟨xs,hq,hx⟩:=hg
  obtain ⟨its,rv,p,hz⟩:=I.list hq
  obtain ⟨f0,f1,f2,f3,f4,f5⟩:=hf it (by simp)
  have hl:=rv.length
  exact wpAny_pyNext_list_end (I.ok.hd hc) st p.isList (by simp;ac_rfl) fun h' eb=>⟨rfl,I.turned (t':=s.toks) (fun b o hb e=>eb b o hb e) f0 f1 f3 f4 f5⟩
 self:=fun _ _ _ _ _ st h=>wpAny_pyIter_listiter st h
theorem ztH {P:Program} {w:World} {K:W.Frag} {tg:Expr} (it:Addr) (lo:Int) (n:Nat):Turn P w K tg (Itr lo n) [it] it (fun i h=>IsRangeIter h it (lo+(i:Nat)*1) ((n:Int)-(i:Nat)) 1) where
 mem:=by simp
 obj:=fun i h st b hb=>by
  have e:b=it:=by simpa using hb
  subst e
  exact ⟨_,st,fun v z=>by
   have z':Data.fields _=Data.cell v:=z
   cases z'⟩
 keep:=fun i h h' st k=>k it (by simp) _ st
 item:=by
  intro X hP hw hK hc i pins s σ H E I hf st hg
  subst hP hw hK
  obtain ⟨f0,f1,f2,f3,f4,f5⟩:=hf it (by simp)
  have W:=Walks.range (prog:=X.prog) (w:=X.w) (I.ok.hd hc) it lo 1 n
  refine W.item i s _ _ hg st fun v h' tk hv st' kk=>?_
  obtain ⟨t,rfl⟩:=hv
  have I1:Inv X pins σ H { s with heap:=h',toks:=tk }:=I.turned (fun b o hb e=>kk b o (by simpa using hb) e) f0 f1 f3 f4 f5
  refine ⟨_,rfl,zwQ (s:={ s with heap:=h',toks:=tk }) (n:="range_iterator") st' rfl rfl (by decide) ⟨.int (lo+i),H,I1,⟨t,?_⟩,⟨rfl,rfl⟩,st',fun b hb=>(hf b hb).1⟩⟩
  rw[Int.mul_one]
 done:=by
  intro X hP hw hK hc i pins s σ H E I hf st hg
  subst hP hw hK
  obtain ⟨f0,f1,f2,f3,f4,f5⟩:=hf it (by simp)
  exact wpAny_pyNext_range_end (I.ok.hd hc) st (by have:n<=i:=hg;ac_rfl) fun h' eb=>⟨rfl,I.turned (t':=s.toks) (fun b o hb e=>eb b o hb e) f0 f1 f3 f4 f5⟩
 self:=fun _ _ _ _ _ st h=>wpAny_pyIter_rangeiter st h
section
variable {X:Cx} {tg:Expr}
def zzn (K:W.Frag) (tl:TE):TI:=fun σ H R=>tl σ H fun x H1=>∃ a,x=.ref a/\(∃ xs,SqL K H1 a xs)/\R (Itl K a) H1
theorem zQ {l:Expr} {tl:TE} (hl:PE X l tl):PI X tg l (zzn X.K tl):=by
 intro pins s σ H R I h
 refine thn (hl pins s σ H _ I h) fun v s1 ⟨x,H1,I1,r1,q1⟩=>?_
 obtain ⟨a,e,⟨xs,hq⟩,q⟩:=q1
 subst e
 cases r1
 obtain ⟨its,rv,p,hz⟩:=I1.list hq
 refine wpAny_pyIter_list p.isList ?_
 refine ⟨s1.heap.objs.size,[s1.heap.objs.size],_,_,H1,rfl,I1.kept (t':=s1.toks) fun b o e=>ydm _ e,zvu a _,⟨_,ydo _ rfl,rfl,rfl⟩,fun b hb=>?_,q⟩
 have e:b=s1.heap.objs.size:=by simpa using hb
 subst e
 exact I1.zrL (ycx _) (I1.hok.fresh (ycx _))
theorem zrQ {pins:List (Addr × Obj)} {σ:St} {H:Hp} {s:Shared} {R:It->Hp->Prop} {E:Value->Shared->Prop} {lo hi:Int} {t u v:Tok} {tk:Nat} (I:Inv X pins σ H s) (h1:-(2 ^ 62)<=lo) (h2:lo<2 ^ 62) (h3:-(2 ^ 62)<=hi) (h4:hi<2 ^ 62)
  (q:R (Itr lo (hi-lo).toNat) H):wpAny (model X.prog X.w) X.A (pyIter (.ref s.heap.objs.size)) (PIE X pins σ tg R) E { s with heap:=s.heap.push { cls:=.type "range", data:=.fields #[.int lo t,.int hi u,.int 1 v] },toks:=tk }:=by
 refine wpAny_pyIter_range (IsRange.new ..) (small_one h1 h2 h3 h4) ?_
 have I1:Inv X pins σ H { s with heap:=s.heap.push { cls:=.type "range", data:=.fields #[.int lo t,.int hi u,.int 1 v] },toks:=tk }:=I.kept fun b o e=>ydm _ e
 refine ⟨(s.heap.push { cls:=.type "range", data:=.fields #[.int lo t,.int hi u,.int 1 v] }).objs.size,[(s.heap.push { cls:=.type "range", data:=.fields #[.int lo t,.int hi u,.int 1 v] }).objs.size],_,_,H,rfl,
  I1.kept (t':=tk) fun b o e=>ydm _ e,ztH _ lo (hi-lo).toNat,?_,fun b hb=>?_,q⟩
 ·have e1:lo+((0:Nat):Int)*1=lo:=by simp
  have e2:(((hi-lo).toNat:Nat):Int)-((0:Nat):Int)=Builtin.Range.rangeSize lo hi 1:=by rw[rangeSize_one];split <;> ac_rfl
  show IsRangeIter _ _ (lo+((0:Nat):Int)*1) ((((hi-lo).toNat:Nat):Int)-((0:Nat):Int)) 1
  rw[e1,e2]
  exact ydo _ rfl
 ·have e:b=(s.heap.push { cls:=.type "range", data:=.fields #[.int lo t,.int hi u,.int 1 v] }).objs.size:=by simpa using hb
  subst e
  exact I1.zrL (ycx _) (I1.hok.fresh (ycx _))
def zzd (ta:TA):TI:=fun σ H R=>ta σ H fun vs H1=>∃ j:Int,vs=[.int j] /\ -(2 ^ 62)<=j/\j<2 ^ 62/\R (Itr 0 j.toNat) H1
def zyX (ta:TA):TI:=fun σ H R=>ta σ H fun vs H1=>∃ i j:Int,vs=[.int i,.int j]/\(-(2 ^ 62)<=i/\i<2 ^ 62 /\ -(2 ^ 62)<=j/\j<2 ^ 62)/\R (Itr i (j-i).toNat) H1
theorem zcJ {a:Expr} {ta:TA} {p pos:Pos} (hg:Gl X "range") (hm:X.mg "range" = none) (ha:PA X [a] ta) (hs:starEach [a] X.env=[(false,eval a X.env)]:=by rfl):PI X tg (.Call (.Name "range" p) [a] [] pos) (zzd ta):=by
 intro pins s σ H R I h
 refine Call_ (zly I hg hm boot_range (PyProof.Rows.callWith_type1 (thn (ha pos pins s σ H _ I h) fun us s1 ⟨vs,H1,I1,r1,q1⟩=>?_) hs rfl))
 obtain ⟨j,e,q1,q2,q⟩:=q1
 subst e
 cases r1 with
 | cons r rr =>
  cases rr
  obtain ⟨t,rfl⟩:=r
  exact call_range_1 (zrQ I1 (by ac_rfl) (by ac_rfl) q1 q2 (by simpa using q))
theorem zpc (hg:Gl X "range") (hm:X.mg "range" = none) (ha:PA X [a,b] ta) (hs:starEach [a,b] X.env=[(false,eval a X.env),(false,eval b X.env)]:=by rfl) (hs2:starEach [b] X.env=[(false,eval b X.env)]:=by rfl) :
  PI X tg (.Call (.Name "range" p) [a,b] [] pos) (zyX ta):=by
 intro pins s σ H R I h
 refine Call_ (zly I hg hm boot_range (PyProof.Rows.callWith_type1 (thn (ha pos pins s σ H _ I h) fun us s1 ⟨vs,H1,I1,r1,q1⟩=>?_) (by rw[hs,hs2]) (by rw[hs2];rfl)))
 obtain ⟨i,j,e,⟨q1,q2,q3,q4⟩,q⟩:=q1
 subst e
 cases r1 with
 | cons r rr =>
  cases rr with
  | cons r' rr =>
   cases rr
   obtain ⟨t,rfl⟩:=r
   obtain ⟨t',rfl⟩:=r'
   exact call_range_2 (zrQ I1 q1 q2 q3 q4 q)
def zzJ (wi:TI) (g:TG) (tb:TS):TS:=fun D σ H=>wi σ H fun J H1=>∃ W:Nat->Nat->St->Hp->Prop,(∃ m,W 0 m σ H1)/\∀ i m σ H,W i m σ H ->
 (J.stop i H/\D.nx σ H)\/(J.go i H/\∃ N:St->Hp->Prop,(∀ σ' H',N σ' H'->∃ m',m'<m/\W (i+1) m' σ' H')/\∀ x H',J.yld i H x H'->g x σ H' fun σ2 H2=>tb { D with nx:=N,ct:=N,bk:=D.nx } σ2 H2)
noncomputable def zjz (fp:List Addr) (h:Heap):List (Addr × Obj):=fp.filterMap fun b=>(h.get? b).map fun o=>(b,o)
theorem zbQ (hb:b∈fp) (e:h.get? b=some o):(b,o)∈zjz fp h:=List.mem_filterMap.mpr ⟨b,hb,by rw[e];rfl⟩
theorem zva (hp:p∈zjz fp h):p.1∈fp/\h.get? p.1=some p.2:=by
 obtain ⟨b,hb,e⟩:=List.mem_filterMap.mp hp
 cases q:h.get? b with
 | none=>rw[q] at e;cases e
 | some o =>
  rw[q] at e
  have e':(b,o)=p:=Option.some.inj e
  subst e'
  exact ⟨hb,q⟩
theorem Inv.pinned (I:Inv X pins σ H s) (hf:∀ b∈fp,zbr X pins H b) (ho:∀ b∈fp,∃ o,s.heap.get? b=some o/\∀ v,o.data≠.cell v):Inv X (pins++zjz fp s.heap) σ H s :=
 I.zon fun p hp=>(yae.mp hp).elim (fun z=>I.pin p (yaj _ z)) fun z=>by
  obtain ⟨hb,e⟩:=zva z
  obtain ⟨f0,f1,f2,_⟩:=hf p.1 hb
  obtain ⟨o,e',d⟩:=ho p.1 hb
  rw[e] at e';cases e'
  exact ⟨e,f0,f1,f2,d⟩
theorem Inv.unpinned (I:Inv X (pins++pl) σ H s):Inv X pins σ H s:=I.zon fun p hp=>I.pin p (yaj _ (ybq _ hp))
theorem za6 (hp:PassesOwn (model X.prog X.w) X.A X.env X.xe) (hc:X.calm=true) (hi:PI X tg iter wi) (hg:PG X tg g) (hb:PSs X body tb)
  (hs:∀ x,foldedSetIterable iter X.env x=pure x:=by intro _;rfl):PS X (.For tg iter body [] pos) (zzJ wi g tb):=by
 intro pins s σ H D I h
 refine wpAny_For (thn (hi pins s σ H _ I h) fun v s1 h1=>thn h1 fun itv s2 h2=>?_) hs
 obtain ⟨it,fp,tn,J,H2,e,I2,T,st2,f2,W,⟨m0,w0⟩,turn⟩:=h2
 subst e
 have stat:∀ {H':Hp},(∀ b∈fp,H' b=none)->∀ b∈fp,zbr X pins H' b:=fun hn b hb=>⟨hn b hb,(f2 b hb).2⟩
 refine codeAny_forLoop_any (fun n s'=>∃ i σ' H',Inv X pins σ' H' s'/\tn i s'.heap/\(∀ b∈fp,H' b=none)/\W i n σ' H') ?_ m0 ⟨0,σ,H2,I2,st2,fun b hb=>(f2 b hb).1,w0⟩
 rintro n s3 ⟨i,σ3,H3,I3,st3,fr3,w3⟩
 rcases turn i n σ3 H3 w3 with ⟨stop,qn⟩ | ⟨go,N,hN,step⟩
 ·refine wpAny_passesOwn hp (thn (T.done X rfl rfl rfl hc i pins s3 σ3 H3 X.xe I3 (stat fr3) st3 stop) fun r s4 ⟨hr,I4⟩=>?_)
  subst hr
  exact wpAny_execs_nil ⟨σ3,H3,I4,qn⟩
 ·refine wpAny_passesOwn hp (thn (T.item X rfl rfl rfl hc i pins s3 σ3 H3 X.xe I3 (stat fr3) st3 go) fun r s4 ⟨u,hr,h4⟩=>?_)
  subst hr
  refine wpAny_passesOwn hp (thn h4 fun _ s5 ⟨x,H5,I5,r5,y5,st5,fr5⟩=>?_)
  have I5':=I5.pinned (stat fr5) (T.obj _ _ st5)
  refine wpAny_passesOwn hp (thn (hg _ s5 σ3 H5 x u _ I5' r5 (step x H5 y5)) fun _ s6 ⟨σ6,H6,I6,q6⟩=>?_)
  refine wpAny_passesOwn hp (thn (hb _ s6 σ6 H6 _ I6 q6) fun f s7 q7=>?_)
  have again:∀ {σ7:St} {H7:Hp},Inv X (pins++zjz fp s5.heap) σ7 H7 s7->N σ7 H7->∃ m,m<n/\∃ i σ' H',Inv X pins σ' H' s7/\tn i s7.heap/\(∀ b∈fp,H' b=none)/\W i m σ' H':=fun {σ7 H7} I7 n7=>by
   obtain ⟨m',hm,w7⟩:=hN σ7 H7 n7
   refine ⟨m',hm,i+1,σ7,H7,I7.unpinned,T.keep _ _ _ st5 fun b hb o e=>(I7.pin (b,o) (yaj _ (yaj _ (zbQ hb e)))).1,fun b hb=>?_,w7⟩
   obtain ⟨o,e,d⟩:=T.obj _ _ st5 b hb
   exact (I7.pin (b,o) (yaj _ (yaj _ (zbQ hb e)))).2.1
  cases f with
  | next=>obtain ⟨σ7,H7,I7,n7⟩:=q7;exact again I7 n7
  | cont=>obtain ⟨σ7,H7,I7,n7⟩:=q7;exact again I7 n7
  | brk=>obtain ⟨σ7,H7,I7,q7⟩:=q7;exact ⟨σ7,H7,I7.unpinned,q7⟩
  | ret v=>obtain ⟨x7,σ7,H7,I7,r7,q7⟩:=q7;exact ⟨x7,σ7,H7,I7.unpinned,r7,q7⟩
end
theorem zbm {K:W.Frag} {a:Addr} {xs:List V} {g:TG} {tb:TS} {D:Ends} {σ:St} {H:Hp} (Pv:Nat->St->Hp->Prop) (h0:Pv 0 σ H) (hl:∀ i σ H,i<=xs.length->Pv i σ H->SqL K H a xs)
  (hs:∀ i x σ H,xs[i]?=some x->Pv i σ H->g x σ H fun σ2 H2=>tb { D with nx:=Pv (i+1),ct:=Pv (i+1),bk:=D.nx } σ2 H2) (hd:∀ σ H,Pv xs.length σ H->D.nx σ H) :
  ∃ W:Nat->Nat->St->Hp->Prop,(∃ m,W 0 m σ H)/\∀ i m σ H,W i m σ H ->
   ((Itl K a).stop i H/\D.nx σ H)\/((Itl K a).go i H/\∃ N:St->Hp->Prop,(∀ σ' H',N σ' H'->∃ m',m'<m/\W (i+1) m' σ' H')/\∀ x H',(Itl K a).yld i H x H'->g x σ H' fun σ2 H2=>tb { D with nx:=N,ct:=N,bk:=D.nx } σ2 H2):=by
 refine ⟨fun i m σ H=>m=xs.length-i/\i<=xs.length/\Pv i σ H,⟨xs.length,by simp,yda _,h0⟩,?_⟩
 rintro i m σ H ⟨rfl,hi,p⟩
 have q:=hl i σ H hi p
 by_cases hlt:i<xs.length
 ·refine .inr ⟨⟨xs,xs[i],q,by simp[hlt]⟩,Pv (i+1),fun σ' H' p'=>⟨xs.length-(i+1),by ac_rfl,rfl,hlt,p'⟩,fun x H' y=>?_⟩
  obtain ⟨e,y⟩:=y
  subst e
  exact hs i x σ _ (y xs q) p
 ·have e:i=xs.length:=by ac_rfl
  subst e
  exact .inl ⟨⟨xs,q,ycx _⟩,hd σ H p⟩
theorem zcP {lo:Int} {n:Nat} {g:TG} {tb:TS} {D:Ends} {σ:St} {H:Hp} (Pv:Nat->St->Hp->Prop) (h0:Pv 0 σ H)
  (hs:∀ i σ H,i<n->Pv i σ H->g (.int (lo+i)) σ H fun σ2 H2=>tb { D with nx:=Pv (i+1),ct:=Pv (i+1),bk:=D.nx } σ2 H2) (hd:∀ σ H,Pv n σ H->D.nx σ H) :
  ∃ W:Nat->Nat->St->Hp->Prop,(∃ m,W 0 m σ H)/\∀ i m σ H,W i m σ H ->
   ((Itr lo n).stop i H/\D.nx σ H)\/((Itr lo n).go i H/\∃ N:St->Hp->Prop,(∀ σ' H',N σ' H'->∃ m',m'<m/\W (i+1) m' σ' H')/\∀ x H',(Itr lo n).yld i H x H'->g x σ H' fun σ2 H2=>tb { D with nx:=N,ct:=N,bk:=D.nx } σ2 H2):=by
 refine ⟨fun i m σ H=>m=n-i/\i<=n/\Pv i σ H,⟨n,by simp,yda _,h0⟩,?_⟩
 rintro i m σ H ⟨rfl,hi,p⟩
 by_cases hlt:i<n
 ·refine .inr ⟨hlt,Pv (i+1),fun σ' H' p'=>⟨n-(i+1),by ac_rfl,rfl,hlt,p'⟩,fun x H' y=>?_⟩
  obtain ⟨e,y⟩:=y
  subst e y
  exact hs i σ _ hlt p
 ·have e:i=n:=by ac_rfl
  subst e
  exact .inl ⟨ycx _,hd σ H p⟩
noncomputable abbrev R2:=V->V->Hp->VK->Prop
def OpR (X:Cx) (f:Value->Value->Sem Value) (r:R2):Prop :=
 ∀ (pins:List (Addr × Obj)) (s:Shared) (σ:St) (H:Hp) (x y:V) (v u:Value) (Q:VK),Inv X pins σ H s->RelV x v->RelV y u->r x y H Q ->
  wpAny (model X.prog X.w) X.A (f v u) (EP X pins σ Q) X.xe s
def UnR (X:Cx) (f:Value->Sem Value) (r:V->Hp->VK->Prop):Prop :=
 ∀ (pins:List (Addr × Obj)) (s:Shared) (σ:St) (H:Hp) (x:V) (v:Value) (Q:VK),Inv X pins σ H s->RelV x v->r x H Q ->
  wpAny (model X.prog X.w) X.A (f v) (EP X pins σ Q) X.xe s
def zbG (X:Cx) (f:Value) (r:List V->Hp->VK->Prop):Prop :=
 ∀ (pins:List (Addr × Obj)) (s:Shared) (σ:St) (H:Hp) (xs:List V) (us:List Value) (Q:VK),Inv X pins σ H s->Vals xs us->r xs H Q ->
  wpAny (model X.prog X.w) X.A (call f us) (EP X pins σ Q) X.xe s
def tOp (r:R2) (ta tb:TE):TE:=fun σ H Q=>ta σ H fun x H1=>tb σ H1 fun y H2=>r x y H2 Q
def tUn (r:V->Hp->VK->Prop) (ta:TE):TE:=fun σ H Q=>ta σ H fun x H1=>r x H1 Q
def rI (C:Int->Int->Prop) (g:Int->Int->V):R2:=fun x y H Q=>∃ i j,x=.int i/\y=.int j/\C i j/\Q (g i j) H
def rI0 (g:Int->Int->V):R2:=fun x y H Q=>∃ i j,x=.int i/\y=.int j/\Q (g i j) H
noncomputable def rU (g:Int->V):V->Hp->VK->Prop:=fun x H Q=>∃ i,x=.int i/\Q (g i) H
section
variable {X:Cx} {a b c:Expr} {ta tb tc:TE} {pos:Pos}
theorem zv3 (ha:PE X a ta) (hb:PE X b tb) {pins:List (Addr × Obj)} {s:Shared} {σ:St} {H:Hp} {R:V->V->Hp->Prop} (I:Inv X pins σ H s)
  (h:ta σ H fun x H1=>tb σ H1 fun y H2=>R x y H2) {Q:Value->Shared->Prop} {f:Value->Value->Sem Value}
  (hf:∀ v u s2 x y H2,Inv X pins σ H2 s2->RelV x v->RelV y u->R x y H2->wpAny (model X.prog X.w) X.A (f v u) Q X.xe s2) :
  wpAny (model X.prog X.w) X.A (eval a X.env) (fun v s₁=>wpAny (model X.prog X.w) X.A (eval b X.env) (fun u s₂=>wpAny (model X.prog X.w) X.A (f v u) Q X.xe s₂) X.xe s₁) X.xe s:=by
 refine thn (ha pins s σ H _ I h) fun v s1 ⟨x,H1,I1,r1,q1⟩=>?_
 refine thn (hb pins s1 σ H1 _ I1 q1) fun u s2 ⟨y,H2,I2,r2,q2⟩=>?_
 exact hf v u s2 x y H2 I2 r1 r2 q2
theorem zj {op:Operator} {r:R2} (ho:OpR X (binaryOp op) r) (ha:PE X a ta) (hb:PE X b tb):PE X (.BinOp a op b pos) (tOp r ta tb):=by
 intro pins s σ H Q I h
 exact wpAny_BinOp (zv3 ha hb I h fun v u s2 x y H2 I2 rx ry q=>ho pins s2 σ H2 x y v u Q I2 rx ry q)
theorem zkA (ho:UnR X (unaryOp op) r) (ha:PE X a ta):PE X (.UnaryOp op a pos) (tUn r ta):=by
 intro pins s σ H Q I h
 exact UnaryOp_ (thn (ha pins s σ H _ I h) fun v s1 ⟨x,H1,I1,r1,q1⟩=>ho pins s1 σ H1 x v Q I1 r1 q1)
theorem opI {f:Value->Value->Sem Value} {C:Int->Int->Prop} {g:Int->Int->Int}
  (rule:∀ (i j:Int) (t u:Tok) (s:Shared) (Q:Value->Shared->Prop) (E:Value->Shared->Prop),C i j->Q (.int (g i j) s.toks) { s with toks:=s.toks+1 }->wpAny (model X.prog X.w) X.A (f (.int i t) (.int j u)) Q E s) :
  OpR X f (rI C fun i j=>.int (g i j)):=by
 intro pins s σ H x y v u Q I rx ry h
 obtain ⟨i,j,rfl,rfl,hc,q⟩:=h
 obtain ⟨t,rfl⟩:=rx
 obtain ⟨t',rfl⟩:=ry
 exact rule i j t t' s _ _ hc ⟨.int (g i j),H,I.tok _,⟨_,rfl⟩,q⟩
theorem zyl {f:Value->Value->Sem Value} {g:Int->Int->Int}
  (rule:∀ (i j:Int) (t u:Tok) (s:Shared) (Q:Value->Shared->Prop) (E:Value->Shared->Prop),Q (.int (g i j) s.toks) { s with toks:=s.toks+1 }->wpAny (model X.prog X.w) X.A (f (.int i t) (.int j u)) Q E s) :
  OpR X f (rI0 fun i j=>.int (g i j)):=by
 intro pins s σ H x y v u Q I rx ry h
 obtain ⟨i,j,rfl,rfl,q⟩:=h
 obtain ⟨t,rfl⟩:=rx
 obtain ⟨t',rfl⟩:=ry
 exact rule i j t t' s _ _ ⟨.int (g i j),H,I.tok _,⟨_,rfl⟩,q⟩
theorem ztX {f:Value->Value->Sem Value} {g:Int->Int->Bool}
  (rule:∀ (i j:Int) (t u:Tok) (s:Shared) (Q:Value->Shared->Prop) (E:Value->Shared->Prop),Q (.bool (g i j)) s->wpAny (model X.prog X.w) X.A (f (.int i t) (.int j u)) Q E s) :
  OpR X f (rI0 fun i j=>.bl (g i j)):=by
 intro pins s σ H x y v u Q I rx ry h
 obtain ⟨i,j,rfl,rfl,q⟩:=h
 obtain ⟨t,rfl⟩:=rx
 obtain ⟨t',rfl⟩:=ry
 exact rule i j t t' s _ _ ⟨.bl (g i j),H,I,rfl,q⟩
def CDiv (i j:Int):Prop:=0<j/\j<1073741824
def CPow (i j:Int):Prop:=0<=j/\j<=1000000/\i.natAbs<2 ^ 64
def CMul (i j:Int):Prop:=(-(2 ^ 64)<i/\i<2 ^ 64)\/(-(2 ^ 64)<j/\j<2 ^ 64)
theorem CMul.ok (h:CMul i j):IntMulOk i j:=by
 rcases h with ⟨h1,h2⟩ | ⟨h1,h2⟩
 ·exact .of_left (intBits_le_64 h1 h2)
 ·exact .of_right (intBits_le_64 h1 h2)
theorem zF:OpR X (binaryOp .Add) (rI0 fun i j=>.int (i+j)):=zyl fun _ _ _ _ _ _ _ q=>add_int q
theorem zah:OpR X (binaryOp .Sub) (rI0 fun i j=>.int (i-j)):=zyl fun _ _ _ _ _ _ _ q=>sub_int q
theorem zaB:OpR X (binaryOp .Mult) (rI CMul fun i j=>.int (i*j)):=opI fun _ _ _ _ _ _ _ hc q=>mul_int q hc.ok
theorem zb7:OpR X (binaryOp .FloorDiv) (rI CDiv fun i j=>.int (i / j)):=opI fun i j _ _ _ _ _ hc q=>by
 have h1:(0:Int)<j:=hc.1
 have h2:j<1073741824:=hc.2
 exact floordiv_int (by ac_rfl) (by rw[Int.fdiv_eq_ediv_of_nonneg i (by ac_rfl)];exact q) (.inl (PyProof.noPylong_small (by ac_rfl)))
theorem zS:OpR X (binaryOp .Mod) (rI (fun _ j=>0<j) fun i j=>.int (i % j)):=opI fun i j _ _ _ _ _ hc q=>by
 have h1:(0:Int)<j:=hc
 exact mod_int' (by ac_rfl) (by rw[Int.fmod_eq_emod_of_nonneg i (by ac_rfl)];exact q)
theorem zx9:OpR X (binaryOp .Pow) (rI CPow fun i j=>.int (i ^ j.toNat)):=opI fun _ _ _ _ _ _ _ hc q=>pow_int_small hc.1 hc.2.1 hc.2.2 q
theorem unI {f:Value->Sem Value} {g:Int->Int}
  (rule:∀ (i:Int) (t:Tok) (s:Shared) (Q:Value->Shared->Prop) (E:Value->Shared->Prop),Q (.int (g i) s.toks) { s with toks:=s.toks+1 }->wpAny (model X.prog X.w) X.A (f (.int i t)) Q E s) :
  UnR X f (rU fun i=>.int (g i)):=by
 intro pins s σ H x v Q I rx h
 obtain ⟨i,rfl,q⟩:=h
 obtain ⟨t,rfl⟩:=rx
 exact rule i t s _ _ ⟨.int (g i),H,I.tok _,⟨_,rfl⟩,q⟩
theorem zg2:UnR X (unaryOp .USub) (rU fun i=>.int (-i)):=unI fun _ _ _ _ _ q=>neg_int q
end
noncomputable def scal:V->V->Bool
 | .non,.non=>true | .non,.int _=>true | .int _,.non=>true | .non,.bl _=>true | .bl _,.non=>true | .non,.str _=>true | .str _,.non=>true
 | .int _,.int _=>true | .bl _,.bl _=>true | .str _,.str _=>true | .byt _,.byt _=>true
 | .int _,.str _=>true | .str _,.int _=>true | .bl _,.str _=>true | .str _,.bl _=>true
 | _,_=>false
def rEq:R2:=fun x y H Q=>scal x y=true/\Q (.bl (decide (x=y))) H
def rNe:R2:=fun x y H Q=>scal x y=true/\Q (.bl (!decide (x=y))) H
theorem ztj:decide (V.int i=V.int j)=(i == j):=by
 rw[Bool.eq_iff_iff]
 simp
theorem zvD:decide (V.bl i=V.bl j)=(i == j):=by
 rw[Bool.eq_iff_iff]
 simp
theorem ztd:decide (V.str i=V.str j)=(i == j):=by
 rw[Bool.eq_iff_iff]
 simp
theorem ztD:decide (V.byt i=V.byt j)=(i.toList == j.toList):=by
 rw[Bool.eq_iff_iff]
 cases i
 cases j
 simp
section
variable {X:Cx} {a b c:Expr} {ta tb tc:TE} {pos:Pos}
theorem zap (I:Inv X pins σ H s) (q:Q (.bl k) H) (e:k=k'):EP X pins σ Q (.bool k') s:=by
 subst e
 exact ⟨.bl k,H,I,rfl,q⟩
theorem zak:OpR X (compareOp .Eq) rEq:=by
 intro pins s σ H x y v u Q I rx ry h
 obtain ⟨hs,q⟩:=h
 cases x with
 | non =>
  cases rx
  cases y with
  | non=>cases ry;exact PySem.EqNone.eq_none_none (zap I q (by simp))
  | bl j=>cases ry;exact PySem.EqNone.eq_none_bool (zap I q (by simp))
  | int j=>obtain ⟨t',rfl⟩:=ry;exact PySem.EqNone.eq_none_int (zap I q (by simp))
  | str j=>obtain ⟨t',rfl⟩:=ry;exact PySem.EqNone.eq_none_str (zap I q (by simp))
  | _=>exact absurd (show false=true from hs) Bool.false_ne_true
 | bl i =>
  cases rx
  cases y with
  | non=>cases ry;exact PySem.EqNone.eq_bool_none (zap I q (by simp))
  | bl j=>cases ry;exact eq_bool (zap I q zvD)
  | str j=>obtain ⟨t',rfl⟩:=ry;exact PySem.EqMixed.eq_bool_str (zap I q (by simp))
  | _=>exact absurd (show false=true from hs) Bool.false_ne_true
 | int i =>
  obtain ⟨t,rfl⟩:=rx
  cases y with
  | non=>cases ry;exact PySem.EqNone.eq_int_none (zap I q (by simp))
  | int j=>obtain ⟨t',rfl⟩:=ry;exact eq_int (zap I q ztj)
  | str j=>obtain ⟨t',rfl⟩:=ry;exact PySem.EqMixed.eq_int_str (zap I q (by simp))
  | _=>exact absurd (show false=true from hs) Bool.false_ne_true
 | str i =>
  obtain ⟨t,rfl⟩:=rx
  cases y with
  | non=>cases ry;exact PySem.EqNone.eq_str_none (zap I q (by simp))
  | bl j=>cases ry;exact PySem.EqMixed.eq_str_bool (zap I q (by simp))
  | int j=>obtain ⟨t',rfl⟩:=ry;exact PySem.EqMixed.eq_str_int (zap I q (by simp))
  | str j=>obtain ⟨t',rfl⟩:=ry;exact eq_str (zap I q ztd)
  | _=>exact absurd (show false=true from hs) Bool.false_ne_true
 | byt i =>
  obtain ⟨t,rfl⟩:=rx
  cases y with
  | byt j=>obtain ⟨t',rfl⟩:=ry;exact PySem.W.eq_bytes (zap I q ztD)
  | _=>exact absurd (show false=true from hs) Bool.false_ne_true
 | _=>cases y <;> exact absurd (show false=true from hs) Bool.false_ne_true
theorem zzr:OpR X (compareOp .NotEq) rNe:=by
 intro pins s σ H x y v u Q I rx ry h
 obtain ⟨hs,q⟩:=h
 cases x with
 | non =>
  cases rx
  cases y with
  | non=>cases ry;exact PySem.EqNone.ne_none_none (zap I q (by simp))
  | bl j=>cases ry;exact PySem.EqNone.ne_none_bool (zap I q (by simp))
  | int j=>obtain ⟨t',rfl⟩:=ry;exact PySem.EqNone.ne_none_int (zap I q (by simp))
  | str j=>obtain ⟨t',rfl⟩:=ry;exact PySem.EqNone.ne_none_str (zap I q (by simp))
  | _=>exact absurd (show false=true from hs) Bool.false_ne_true
 | bl i =>
  cases rx
  cases y with
  | non=>cases ry;exact PySem.EqNone.ne_bool_none (zap I q (by simp))
  | bl j=>cases ry;exact ne_bool (zap I q (congrArg not zvD))
  | str j=>obtain ⟨t',rfl⟩:=ry;exact PySem.EqMixed.ne_bool_str (zap I q (by simp))
  | _=>exact absurd (show false=true from hs) Bool.false_ne_true
 | int i =>
  obtain ⟨t,rfl⟩:=rx
  cases y with
  | non=>cases ry;exact PySem.EqNone.ne_int_none (zap I q (by simp))
  | int j=>obtain ⟨t',rfl⟩:=ry;exact ne_int (zap I q (congrArg not ztj))
  | str j=>obtain ⟨t',rfl⟩:=ry;exact PySem.EqMixed.ne_int_str (zap I q (by simp))
  | _=>exact absurd (show false=true from hs) Bool.false_ne_true
 | str i =>
  obtain ⟨t,rfl⟩:=rx
  cases y with
  | non=>cases ry;exact PySem.EqNone.ne_str_none (zap I q (by simp))
  | bl j=>cases ry;exact PySem.EqMixed.ne_str_bool (zap I q (by simp))
  | int j=>obtain ⟨t',rfl⟩:=ry;exact PySem.EqMixed.ne_str_int (zap I q (by simp))
  | str j=>obtain ⟨t',rfl⟩:=ry;exact ne_str (zap I q (congrArg not ztd))
  | _=>exact absurd (show false=true from hs) Bool.false_ne_true
 | byt i =>
  obtain ⟨t,rfl⟩:=rx
  cases y with
  | byt j=>obtain ⟨t',rfl⟩:=ry;exact PySem.W.ne_bytes (zap I q (congrArg not ztD))
  | _=>exact absurd (show false=true from hs) Bool.false_ne_true
 | _=>cases y <;> exact absurd (show false=true from hs) Bool.false_ne_true
theorem zgI:OpR X (compareOp .Lt) (rI0 fun i j=>.bl (decide (i<j))):=ztX fun _ _ _ _ _ _ _ q=>lt_int q
theorem zd2:OpR X (compareOp .LtE) (rI0 fun i j=>.bl (decide (i<=j))):=ztX fun _ _ _ _ _ _ _ q=>le_int q
theorem zgR:OpR X (compareOp .Gt) (rI0 fun i j=>.bl (decide (j<i))):=ztX fun _ _ _ _ _ _ _ q=>gt_int q
theorem ztK:OpR X (compareOp .GtE) (rI0 fun i j=>.bl (decide (j<=i))):=ztX fun _ _ _ _ _ _ _ q=>ge_int q
theorem nomark (b:Expr) (h:op≠.In:=by decide) (h2:op≠.NotIn:=by decide):behindInMarks op b=false:=by
 have e1:(op == CmpOp.In)=false:=by cases op <;> first | rfl | exact absurd rfl h
 have e2:(op == CmpOp.NotIn)=false:=by cases op <;> first | rfl | exact absurd rfl h2
 cases b <;> simp[behindInMarks,e1,e2]
theorem zbc (ho:OpR X (compareOp op) r) (ha:PE X a ta) (hb:PE X b tb) (hm:behindInMarks op b=false):PE X (.Compare a [op] [b] pos) (tOp r ta tb):=by
 intro pins s σ H Q I h
 exact wpAny_Compare1 (zv3 ha hb I h fun v u s2 x y H2 I2 rx ry q=>ho pins s2 σ H2 x y v u Q I2 rx ry q) hm
def zw5 (t:TE):TT:=fun σ H Q=>t σ H fun x H'=>∃ k,x=.bl k/\Q k H'
theorem zz (ho:OpR X (compareOp op) r) (ha:PE X a ta) (hb:PE X b tb) (hm:behindInMarks op b=false):PT X (.Compare a [op] [b] pos) (zw5 (tOp r ta tb)):=by
 intro pins s σ H Q I h
 refine wpAny_isTrue_Compare1 (thn (ha pins s σ H _ I h) fun v s1 ⟨x,H1,I1,r1,q1⟩=>thn (hb pins s1 σ H1 _ I1 q1) fun u s2 ⟨y,H2,I2,r2,q2⟩ =>
  thn (ho pins s2 σ H2 x y v u _ I2 r1 r2 q2) fun c s3 ⟨z,H3,I3,r3,k,e,q3⟩=>?_) hm
 subst e
 cases r3
 exact wpAny_truthy_bool ⟨H3,I3,q3⟩
def zvI (r r':R2) (ta tb tc:TE):TE:=fun σ H Q=>ta σ H fun x H1=>tb σ H1 fun y H2=>r x y H2 fun z H3=>∃ k,z=.bl k /\
 (if k=true then tc σ H3 fun w' H4=>r' y w' H4 Q else Q (.bl false) H3)
theorem zrs (ho:OpR X (compareOp op) r) (ho':OpR X (compareOp op') r') (ha:PE X a ta) (hb:PE X b tb) (hc:PE X c tc)
  (hm:lastMarks [op,op'] [b,c]=false:=by with_unfolding_all rfl):PE X (.Compare a [op,op'] [b,c] pos) (zvI r r' ta tb tc):=by
 intro pins s σ H Q I h
 refine Compare_chain (thn (ha pins s σ H _ I h) fun v s1 ⟨x,H1,I1,r1,q1⟩=>chain_link (thn (hb pins s1 σ H1 _ I1 q1) fun u s2 ⟨y,H2,I2,r2,q2⟩ =>
  thn (ho pins s2 σ H2 x y v u _ I2 r1 r2 q2) fun d s3 ⟨z,H3,I3,r3,k,e,q3⟩=>?_)) hm
 subst e
 cases r3
 refine wpAny_truthy_bool ?_
 cases k with
 | false=>exact ite_ff ⟨.bl false,H3,I3,rfl,q3⟩
 | true=>exact ite_tt (chain_last (thn (hc pins s3 σ H3 _ I3 q3) fun w' s4 ⟨z',H4,I4,r4,q4⟩=>ho' pins s4 σ H4 y z' u w' Q I4 r2 r4 q4))
theorem zv6 (ho:OpR X (compareOp op) r) (ho':OpR X (compareOp op') r') (ha:PE X a ta) (hb:PE X b tb) (hc:PE X c tc)
  (hm:lastMarks [op,op'] [b,c]=false:=by with_unfolding_all rfl):PT X (.Compare a [op,op'] [b,c] pos) (zw5 (zvI r r' ta tb tc)):=by
 intro pins s σ H Q I h
 refine isTrue_chain (thn (ha pins s σ H _ I h) fun v s1 ⟨x,H1,I1,r1,q1⟩=>test_link (thn (hb pins s1 σ H1 _ I1 q1) fun u s2 ⟨y,H2,I2,r2,q2⟩ =>
  thn (ho pins s2 σ H2 x y v u _ I2 r1 r2 q2) fun d s3 ⟨z,H3,I3,r3,k,e,q3⟩=>?_)) hm
 subst e
 cases r3
 refine wpAny_truthy_bool ?_
 cases k with
 | false =>
  obtain ⟨k',e',q'⟩:=q3
  cases e'
  exact ite_ff ⟨H3,I3,q'⟩
 | true =>
  refine ite_tt (test_last (thn (hc pins s3 σ H3 _ I3 q3) fun w' s4 ⟨z',H4,I4,r4,q4⟩=>thn (ho' pins s4 σ H4 y z' u w' _ I4 r2 r4 q4) fun d' s5 ⟨z2,H5,I5,r5,k2,e2,q5⟩=>?_))
  subst e2
  cases r5
  exact wpAny_truthy_bool ⟨H5,I5,q5⟩
theorem znK:(sizeLine:Nat)<2 ^ 63:=by rw[sizeLine_eq];decide
theorem vals1 (r:Vals [x] us):∃ u,us=[u]/\RelV x u:=by
 cases r with
 | cons r1 r2=>cases r2;exact ⟨_,rfl,r1⟩
theorem vals2 (r:Vals [x,y] us):∃ u w',us=[u,w']/\RelV x u/\RelV y w':=by
 cases r with
 | cons r1 r2 =>
  cases r2 with
  | cons r3 r4=>cases r4;exact ⟨_,_,rfl,r1,r3⟩
theorem zbt (hc:X.calm=true):zbG X (.builtin "max") (fun xs H Q=>∃ i j,xs=[.int i,.int j]/\Q (.int (if j > i then j else i)) H):=by
 intro pins s σ H xs us Q I r h
 obtain ⟨i,j,rfl,q⟩:=h
 obtain ⟨u,w',rfl,⟨t,rfl⟩,⟨t',rfl⟩⟩:=vals2 r
 refine max_two_ints (I.ok.hd hc) fun h' tk k=>⟨_,H,I.kept k,?_,q⟩
 by_cases hj:j > i
 ·rw[if_pos hj,if_pos hj];exact ⟨_,rfl⟩
 ·rw[if_neg hj,if_neg hj];exact ⟨_,rfl⟩
theorem zbu (hc:X.calm=true):zbG X (.builtin "min") (fun xs H Q=>∃ i j,xs=[.int i,.int j]/\Q (.int (if j<i then j else i)) H):=by
 intro pins s σ H xs us Q I r h
 obtain ⟨i,j,rfl,q⟩:=h
 obtain ⟨u,w',rfl,⟨t,rfl⟩,⟨t',rfl⟩⟩:=vals2 r
 refine min_two_ints (I.ok.hd hc) fun h' tk k=>⟨_,H,I.kept k,?_,q⟩
 by_cases hj:j<i
 ·rw[if_pos hj,if_pos hj];exact ⟨_,rfl⟩
 ·rw[if_neg hj,if_neg hj];exact ⟨_,rfl⟩
theorem zf0:zbG X (.type "int") (fun xs H Q=>(∃ i,xs=[.int i]/\Q (.int i) H)\/∃ k,xs=[.bl k]/\Q (.int (if k then 1 else 0)) H):=by
 intro pins s σ H xs us Q I r h
 rcases h with ⟨i,rfl,q⟩ | ⟨k,rfl,q⟩
 ·obtain ⟨u,rfl,t,rfl⟩:=vals1 r
  exact call_int_int ⟨.int i,H,I,⟨_,rfl⟩,q⟩
 ·obtain ⟨u,rfl,r1⟩:=vals1 r
  cases r1
  exact call_int_bool ⟨.int (if k then 1 else 0),H,I.tok _,⟨_,rfl⟩,q⟩
end
structure znp (h:Heap) (x dx C:Addr) (mA:Str->Option Value):Prop where
 obj:h.get? x=some (PySem.W.instObj C dx)
 ns:h.Ns1 dx mA
 ne:dx≠x
theorem zuE {h:Heap} {dx:Addr} {mA:Str->Option Value} (n:h.Ns1 dx mA):∃ od,h.get? dx=some od/\∀ name,PySem.W.lookIn name od=some (mA name):=by
 obtain ⟨o,es,ep,ho,hd,hk,_,hm⟩:=n
 refine ⟨o,ho,fun name=>?_⟩
 have e:=hm name
 unfold nsFind findBy at e
 rw[<-Array.find?_toList] at e
 unfold PySem.W.lookIn
 rw[hd]
 dsimp only
 split
 ·rename_i y q
  rw[q] at e
  exact congrArg some e
 ·rename_i q
  rw[q] at e
  have a:es.toList.any (·.refKey)=false:=by
   rw[List.any_eq_false]
   intro y hy
   obtain ⟨z,t,hkey⟩:=hk y (Array.mem_toList_iff.mp hy)
   simp[DictEntry.refKey,hkey]
  have a':¬ es.toList.any (·.refKey)=true:=by rw[a];exact Bool.false_ne_true
  rw[if_neg a']
  exact congrArg some e
theorem znp.look (I:znp h x dx C mA):∃ od,PySem.W.InstAt h x (PySem.W.instObj C dx) C (some od)/\∀ name,PySem.W.lookIn name od=some (mA name) :=
 let ⟨od,ho,hl⟩:=zuE I.ns
 ⟨od,⟨I.obj,rfl,rfl,ho⟩,hl⟩
section
variable {prog:Program} {w:World} {A:Around} {E:Value->Shared->Prop} {s:Shared} {K:W.Frag} {x dx C f:Addr} {mA:Str->Option Value} {name:Str} {v:Value}
theorem get_map (X:K.In s.heap) (I:znp s.heap x dx C mA) (hg:PySem.W.plainGet K C name=true) (hh:PySem.W.hasDictIn K C=true)
  (ha:PySem.W.findIn K (.ref C) name=some none) (hv:mA name=some v) (hv':PySem.W.handedIn v=true) (h:Q v { s with toks:=s.toks+1 }) :
  wpAny (model prog w) A (getAttr (.ref x) name expr) Q E s:=by
 obtain ⟨od,J,hl⟩:=I.look
 exact PySem.W.get_value X J (PySem.W.plainGet_of hg).1 (PySem.W.findObj_own hh ha rfl (by rw[hl,hv])) hv' h
theorem zwg (X:K.In s.heap) (I:znp s.heap x dx C mA) (hg:PySem.W.plainGet K C name=true)
  (hf:PySem.W.findIn K (.ref C) name=some (some (.ref f))) (ht:PySem.W.isFn K (.ref f)=true) (hv:mA name=none) (h:Q (.ref f,[.ref x]) s) :
  wpAny (model prog w) A (getMethod (.ref x) name pl) Q E s:=by
 obtain ⟨od,J,hl⟩:=I.look
 exact PySem.W.method_fn X J (PySem.W.plainGet_of hg).1 (PySem.W.plainGet_of hg).2 hf (beq_iff_eq.mp ht) (by show (PySem.W.lookIn name od).map (·.isSome)=some false;rw[hl,hv];rfl) h
theorem zxy (X:K.In s.heap) (I:znp s.heap x dx C mA)
  (hs:PySem.W.findIn K (.ref C) "__setattr__" = some (some (.builtin "object.__setattr__"))) (hp:PySem.W.plainOver K C=true) (ht:PySem.W.takerIn K C name=some none) (hh:PySem.W.hasDictIn K C=true)
  (hw:PySem.Within mA ns) (hsz:ns.length<=sizeLine)
  (h:∀ h',znp h' x dx C (fun y=>if y=name then some v else mA y)->Heap.SameBut dx s.heap h'->Q () { s with heap:=h',toks:=s.toks+2 }) :
  wpAny (model prog w) A (setAttr (.ref x) name v) Q E s:=by
 obtain ⟨od,J,hl⟩:=I.look
 refine PySem.W.set_plain X J hs (PySem.W.osa_open (s:={ s with toks:=s.toks+1 }) (r:=none) X J hp ht fun b=>?_)
 obtain ⟨cd,hc,hd'⟩:=PySem.W.any_some hh
 have hx:s.heap.get? x=some ⟨.ref C,some dx,.plain,#[]⟩:=I.obj
 refine wpAny_bind (wpAny_pure (wpAny_bind (wpAny_bind (wpAny_loadPart hx (wpAny_bind (PySem.W.Looks.here (s:={ s with toks:=s.toks+1 }) (PySem.W.looks_clsIn X hc) ?_))))))
 rw[hd']
 refine wpAny_pure (a:=some dx) (wpAny_bind (wpAny_pure (wpAny_bind ?_)))
 refine wpAny_nsSet1 (s:={ s with toks:=s.toks+1 }) I.ns fun h' hn2 hs2=>?_
 obtain ⟨oD,esD,epD,hoD,hdD,hcD⟩:=hn2.count (PySem.Within.cons name v hw)
 refine wpAny_bind (wpAny_lookBehind hoD (by rw[hdD];exact pastItsLine_dict (ydc hcD (by rw[ybh];ac_rfl))) ?_)
 exact wpAny_pure (h _ ⟨(hs2.2 _ (Ne.symm I.ne)).trans I.obj,hn2,I.ne⟩ hs2)
theorem zwq (X:K.In s.heap) (hm:PySem.W.makesIn K C=true)
  (hi:PySem.W.findIn K (.ref C) "__init__" = some (some (.ref f))) (hf:PySem.W.typeIn K (.ref f)=some (.type "function"))
  (h:codeAny (model prog w) (A.under (.builtin "type.__call__" ⟨.ref C::vs,kw⟩)) (.call (.ref f) ⟨.ref (s.heap.objs.size+1)::vs,kw⟩) (PySem.W.InitBack (s.heap.objs.size+1) R)
   { s with heap:=(s.heap.push PySem.W.emptyDict).push (PySem.W.instObj C s.heap.objs.size) }) :
  codeAny (model prog w) A (.call (.ref C) ⟨vs,kw⟩) R s:=by
 obtain ⟨hh,g,d,t,os⟩:=s
 exact PySem.W.make_core (PySem.W.makes_of X hm) (PySem.W.looks_findIn X hi) (fun self=>PySem.W.bind_fn X self hf) (.inl rfl) h
theorem zvw (X:K.In s.heap) (hm:PySem.W.makesIn K C=true)
  (hi:PySem.W.findIn K (.ref C) "__init__" = some (some (.builtin "object.__init__")))
  (hb:∀ self,PySem.W.Looks (model prog w) s.heap (bindSpecial (.builtin "object.__init__") self) (.builtin "object.__init__", [self]))
  (h:codeAny (model prog w) (A.under (.builtin "type.__call__" ⟨[.ref C],[]⟩)) (.call (.builtin "object.__init__") ⟨[.ref (s.heap.objs.size+1)],[]⟩) (PySem.W.InitBack (s.heap.objs.size+1) R)
   { s with heap:=(s.heap.push PySem.W.emptyDict).push (PySem.W.instObj C s.heap.objs.size) }) :
  codeAny (model prog w) A (.call (.ref C) ⟨[],[]⟩) R s:=by
 obtain ⟨hh,g,d,t,os⟩:=s
 exact PySem.W.make_core (PySem.W.makes_of X hm) (PySem.W.looks_findIn X hi) hb (.inr ⟨rfl,rfl⟩) h
end
noncomputable def zaY (f:Str) (v:V):List (Str × V)->List (Str × V)
 | []=>[(f,v)]
 | (g,x)::r=>if g=f then (g,v)::r else (g,x)::zaY f v r
theorem zmN (f g:Str) (v:V):∀ fs:List (Str × V),(zaY f v fs).lookup g=if g=f then some v else fs.lookup g
 | []=>by
  show yby g [(f,v)]=_
  by_cases h:g=f
  ·have hb:(g == f)=true:=beq_iff_eq.mpr h
   simp only[yby,hb,if_pos h]
  ·have hb:(g == f)=false:=beq_eq_false_iff_ne.mpr h
   simp only[yby,hb,if_neg h]
 | (k,x)::r=>by
  have ih:=zmN f g v r
  rw[show zaY f v ((k,x)::r)=(if k=f then (k,v)::r else (k,x)::zaY f v r) from rfl]
  by_cases hk:k=f
  ·rw[if_pos hk]
   by_cases h:g=k
   ·have hb:(g == k)=true:=beq_iff_eq.mpr h
    simp only[yby,hb,if_pos (h.trans hk)]
   ·have hb:(g == k)=false:=beq_eq_false_iff_ne.mpr h
    simp only[yby,hb,if_neg (fun e:g=f=>h (e.trans hk.symm))]
  ·rw[if_neg hk]
   by_cases h:g=k
   ·have hb:(g == k)=true:=beq_iff_eq.mpr h
    simp only[yby,hb,if_neg (fun e:g=f=>hk (h.symm.trans e))]
   ·have hb:(g == k)=false:=beq_eq_false_iff_ne.mpr h
    simp only[yby,hb]
    exact ih
theorem zlT (f:Str) (v:V):∀ fs:List (Str × V),f∈(zaY f v fs).map (·.1)/\∀ g,g∈fs.map (·.1)->g∈(zaY f v fs).map (·.1)
 | []=>⟨by simp[zaY],fun g h=>by simp at h⟩
 | (k,x)::r=>by
  obtain ⟨i1,i2⟩:=zlT f v r
  rw[show zaY f v ((k,x)::r)=(if k=f then (k,v)::r else (k,x)::zaY f v r) from rfl]
  by_cases hk:k=f
  ·rw[if_pos hk]
   subst hk
   exact ⟨by simp,fun g h=>by simpa using h⟩
  ·rw[if_neg hk]
   refine ⟨?_,fun g h=>?_⟩
   ·rw[ybm]
    exact yam _ i1
   ·rw[ybm] at h ⊢
    rcases yal.mp h with e | e
    ·exact yal.mpr (.inl e)
    ·exact yam _ (i2 g e)
theorem zmz (f:Str) (v:V):∀ fs:List (Str × V),(zaY f v fs).length<=fs.length+1
 | []=>by simp[zaY]
 | (k,x)::r=>by
  have ih:=zmz f v r
  rw[show zaY f v ((k,x)::r)=(if k=f then (k,v)::r else (k,x)::zaY f v r) from rfl]
  by_cases hk:k=f
  ·rw[if_pos hk,ybh,ybh];ac_rfl
  ·rw[if_neg hk,ybh,ybh];ac_rfl
theorem ziR.some_of (r:ziR (some v) o):∃ u,o=some u/\RelV v u:=by
 cases o with
 | none=>exact (show False from r).elim
 | some u=>exact ⟨u,rfl,r⟩
theorem ziR.none_of (r:ziR none o):o=none:=by
 cases o with
 | none=>rfl
 | some u=>exact (show False from r).elim
theorem zvJ (r:RelV v u):PySem.W.handedIn u=true:=by
 cases v with
 | non=>cases (show u=Value.none from r);rfl
 | bl b=>cases (show u=Value.bool b from r);rfl
 | int i=>obtain ⟨t,e⟩:=(show ∃ t,u=Value.int i t from r);cases e;rfl
 | str x=>obtain ⟨t,e⟩:=(show ∃ t,u=Value.str x t from r);cases e;rfl
 | byt b=>obtain ⟨t,e⟩:=(show ∃ t,u=Value.bytes b t from r);cases e;rfl
 | flt b=>obtain ⟨t,e⟩:=(show ∃ t,u=Value.float b t from r);cases e;rfl
 | ref a=>cases (show u=Value.ref a from r);rfl
 | ty n=>cases (show u=Value.type n from r);rfl
section
variable {P:Program} {w:World} {H H':Hp} {h h':Heap} {a C dx:Addr} {fs fs':List (Str × V)}
theorem zlY (hok:HOk P w H h) (e:H a=some (.ins C dx fs)):∃ mA,znp h a dx C mA/\(∀ f,ziR (fs.lookup f) (mA f))/\PySem.Within mA (fs.map (·.1))/\fs.length<=1000/\H dx=some (.own a):=by
 obtain ⟨d,z,ne,ob,mA,n,r,q⟩:=(show zar P w H h a (.ins C dx fs) from hok a _ e)
 exact ⟨mA,⟨ob,n,ne⟩,r,q,z,d⟩
end
structure Cls (K:W.Frag) (C:Addr):Prop where
 pg:PySem.W.plainGet K C Str.empty=true
 hd:PySem.W.hasDictIn K C=true
 po:PySem.W.plainOver K C=true
 sa:PySem.W.findIn K (.ref C) "__setattr__" = some (some (.builtin "object.__setattr__"))
theorem Cls.get {K:W.Frag} {C:Addr} (c:Cls K C) (f:Str):PySem.W.plainGet K C f=true:=c.pg
def zac (K:W.Frag) (C:Addr) (f:Str):Prop:=PySem.W.findIn K (.ref C) f=some none
theorem zac.taker {K:W.Frag} {C:Addr} {f:Str} (n:zac K C f):PySem.W.takerIn K C f=some none:=by
 unfold PySem.W.takerIn
 rw[show PySem.W.findIn K (.ref C) f=some none from n]
 rfl
structure Meth (K:W.Frag) (C:Addr) (m:Str) (f:Addr):Prop where
 at_:PySem.W.findIn K (.ref C) m=some (some (.ref f))
 fn:PySem.W.isFn K (.ref f)=true
 kp:PySem.W.keepIn K (.ref f)=true
section
variable {X:Cx} {pins:List (Addr × Obj)} {σ:St} {H:Hp} {s:Shared} {a C dx:Addr} {fs:List (Str × V)} {f:Str} {v:V} {A:Around} {E:Value->Shared->Prop}
theorem znG (I:Inv X pins σ H s) (e:H a=some (.ins C dx fs)) (c:Cls X.K C) (n:zac X.K C f) (l:fs.lookup f=some v)
  (h:∀ u s',Inv X pins σ H s'->RelV v u->Q u s'):wpAny (model X.prog X.w) A (getAttr (.ref a) f b) Q E s:=by
 obtain ⟨mA,O,r,_,_,_⟩:=zlY I.hok e
 obtain ⟨u,hu,ru⟩:=ziR.some_of (v:=v) (o:=mA f) (by rw[<-l];exact r f)
 exact get_map I.kIn O (c.get f) c.hd n hu (zvJ ru) (h u _ (I.tok _) ru)
theorem zee (I:Inv X pins σ H s) (e:H a=some (.ins C dx fs)) (c:Cls X.K C) (k:Meth X.K C m g) (l:fs.lookup m=none)
  (h:Q (.ref g,[.ref a]) s):wpAny (model X.prog X.w) A (getMethod (.ref a) m pl) Q E s:=by
 obtain ⟨mA,O,r,_,_,_⟩:=zlY I.hok e
 have hn:mA m=none:=ziR.none_of (by rw[<-l];exact r m)
 exact zwg I.kIn O (c.get m) k.at_ k.fn hn h
theorem zn6 (I:Inv X pins σ H s) (e:H a=some (.ins C dx fs)) (c:Cls X.K C) (n:zac X.K C f) (hl:fs.length<1000) (ry:RelV y u)
  (h:∀ s',Inv X pins σ (upd H a (.ins C dx (zaY f y fs))) s'->Q () s'):wpAny (model X.prog X.w) A (setAttr (.ref a) f u) Q E s:=by
 obtain ⟨mA,O,r,wi,_,ho⟩:=zlY I.hok e
 have hz:(fs.map (·.1)).length<=sizeLine:=by rw[yab,sizeLine_eq];ac_rfl
 refine zxy I.kIn O c.sa c.po n.taker c.hd wi hz fun h' O' sb=>h _ ?_
 have hd:∃ o,h'.get? dx=some o:=let ⟨o,_,_,e',_⟩:=O'.ns;⟨o,e'⟩
 refine I.write (x:=a) (e:=dx) (by rw[e];exact True.intro) (.inr ho) (fun b q hb z=>(sb.2 b hb).trans z) hd ?_
 refine ⟨by rw[zr O.ne];exact ho,?_,O.ne,O'.obj,_,O'.ns,fun g=>?_,fun g hg=>?_⟩
 ·have:=zmz f y fs;ac_rfl
 ·show ziR ((zaY f y fs).lookup g) (if g=f then some u else mA g)
  rw[zmN]
  by_cases q:g=f
  ·rw[if_pos q,if_pos q];exact ry
  ·rw[if_neg q,if_neg q];exact r g
 ·by_cases q:g=f
  ·rw[q];exact (zlT f y fs).1
  ·refine (zlT f y fs).2 g (wi g fun z=>hg ?_)
   show (if g=f then some u else mA g)=none
   rw[if_neg q];exact z
theorem Inv.made (I:Inv X pins σ H s):Inv X pins σ (upd (upd H s.heap.objs.size (.own (s.heap.objs.size+1))) (s.heap.objs.size+1) (.ins C s.heap.objs.size []))
  { s with heap:=(s.heap.push PySem.W.emptyDict).push (PySem.W.instObj C s.heap.objs.size) }:=by
 have e1:(s.heap.push PySem.W.emptyDict).get? s.heap.objs.size=some PySem.W.emptyDict:=ydo s.heap rfl
 have e2:((s.heap.push PySem.W.emptyDict).push (PySem.W.instObj C s.heap.objs.size)).get? (s.heap.objs.size+1)=some (PySem.W.instObj C s.heap.objs.size):=by
  have:=ydo (s.heap.push PySem.W.emptyDict) (o:=PySem.W.instObj C s.heap.objs.size) rfl
  rwa [ydq] at this
 have e3:(s.heap.push PySem.W.emptyDict).Ns s.heap.objs.size (fun _=>none):=⟨PySem.W.emptyDict,#[],_,e1,rfl,(fun e he=>absurd he (by simp)),fun _=>rfl⟩
 have I1:=I.laid (a:=s.heap.objs.size) (o:=.own (s.heap.objs.size+1)) (h':=s.heap.push PySem.W.emptyDict) (t':=s.toks) (fun b u q=>ydm _ q) (ycx _) ⟨_,e1⟩
 refine I1.laid (a:=s.heap.objs.size+1) (o:=.ins C s.heap.objs.size []) (t':=s.toks) (fun b u q=>ydm _ q) (Nat.le_of_eq (ydq _ _)) ?_
 have ne:s.heap.objs.size≠s.heap.objs.size+1:=ycy (yde _)
 refine ⟨by rw[zr ne,zh],yda _,ne,e2,fun _=>none,(Heap.Ns1.of_empty e3).at fun o q=>ydm _ q,fun _=>True.intro,fun y hy=>absurd rfl hy⟩
theorem ztm (hb:attributeBase e f env (eval e env)=eval e env)
  (h:wpAny (model prog w) A (eval e env) (fun o s₁=>wpAny (model prog w) A (getAttr o f true) Q E s₁) E s):wpAny (model prog w) A (eval (.Attribute e f pos) env) Q E s :=
 Attribute_any_ h (by rw[arm_eval_Attribute,hb])
end
def zyj (K:W.Frag) (ta:TE) (f:Str):TE:=fun σ H Q=>ta σ H fun x H1=>∃ a C dx fs v,x=.ref a/\H1 a=some (.ins C dx fs)/\Cls K C/\zac K C f/\fs.lookup f=some v/\Q v H1
def zzR (K:W.Frag) (ta tv:TE) (f:Str):TS:=fun D σ H=>tv σ H fun y H1=>ta σ H1 fun x H2=>∃ a C dx fs,x=.ref a/\H2 a=some (.ins C dx fs)/\Cls K C/\zac K C f/\fs.length<1000 /\
 D.nx σ (upd H2 a (.ins C dx (zaY f y fs)))
section
variable {X:Cx} {o e value:Expr} {f:Str} {pos pos' tpos:Pos} {ta tv:TE}
theorem zfR (he:PE X e ta) (hb:attributeBase e f X.env (eval e X.env)=eval e X.env):PE X (.Attribute e f pos) (zyj X.K ta f):=by
 intro pins s σ H Q I h
 refine ztm hb (thn (he pins s σ H _ I h) fun u s1 ⟨x,H1,I1,rx,a,C,dx,fs,v,ex,ea,c,n,l,q⟩=>?_)
 subst ex
 obtain rfl:u=Value.ref a:=rx
 exact znG I1 ea c n l fun u' s2 I2 ru=>⟨v,H1,I2,ru,q⟩
theorem zlj (ha:PE X o ta) (hv:PE X value tv) (hs:swapsWith value (some (.Attribute o f pos')) pos.line X.env=pure false):PS X (.Assign [.Attribute o f pos'] value pos) (zzR X.K ta tv f):=by
 intro pins s σ H D I h
 refine plainObj_wpAny_Assign_Attribute (thn (hv pins s σ H _ I h) fun u s1 ⟨y,H1,I1,ry,q⟩=>thn (ha pins s1 σ H1 _ I1 q) fun ov s2 ⟨x,H2,I2,rx,a,C,dx,fs,ex,ea,c,n,l,q2⟩=>?_) hs
 subst ex
 obtain rfl:ov=Value.ref a:=rx
 exact zn6 I2 ea c n l ry fun s3 I3=>⟨σ,_,I3,q2⟩
end
section
variable {X:Cx} {pins:List (Addr × Obj)} {σ:St} {H:Hp} {s:Shared} {A:Around} {E:Value->Shared->Prop} {Q:Value->Shared->Prop} {c:Value} {b:Bool}
inductive zcG (K:W.Frag) (H:Hp):V->Value->Prop where
 | non:zcG K H .non (.type "NoneType")
 | bl (x:Bool):zcG K H (.bl x) (.type "bool")
 | int (i:Int):zcG K H (.int i) (.type "int")
 | str (x:Str):zcG K H (.str x) (.type "str")
 | flt (x:UInt64):zcG K H (.flt x) (.type "float")
 | lst {a:Addr} {xs:List V} (e:H a=some (.lst xs)):zcG K H (.ref a) (.type "list")
 | frz {a:Addr} {o:Obj} {xs:List V} (e:H a=some (.frz o (.lst xs))):zcG K H (.ref a) (.type "list")
 | tup {a:Addr} {xs:List V} (e:H a=some (.tup xs)):zcG K H (.ref a) (.type "tuple")
 | dK {a:Addr} {kvs:List (Key × V)} (e:H a=some (.dK kvs)):zcG K H (.ref a) (.type "dict")
 | ins {a C dx:Addr} {fs:List (Str × V)} (e:H a=some (.ins C dx fs)) (cl:Cls K C) (ha:PySem.W.findIn K (.ref C) "__class__" = some (some (.builtin "object.__class__")))
   (hn:PySem.W.specialIn K (.builtin "object.__class__") "__get__" = some (some (.builtin "getset_descriptor.__get__"))) (htk:PySem.W.takesIn K (.builtin "object.__class__")=some true)
   (hm:PySem.W.mroIn K C (.type "object")=some true):zcG K H (.ref a) (.ref C)
theorem zpp (I:Inv X pins σ H s) (rx:RelV x u) (ty:zcG X.K H x t) (e:PySem.W.kitOne X.K t c=some b) (h:∀ tk,Q (.bool b) { s with toks:=tk }) :
  wpAny (model X.prog X.w) A (call (.builtin "isinstance") [u,c]) Q E s:=by
 cases ty with
 | non=>cases (show u=Value.none from rx);exact PySem.W.kia_one PySem.W.kitx_none I.kIn True.intro e (fun z=>nomatch z) h
 | bl y=>cases (show u=Value.bool y from rx);exact PySem.W.kia_one PySem.W.kitx_bool I.kIn True.intro e (fun z=>nomatch z) h
 | int i=>obtain ⟨t,q⟩:=(show ∃ t,u=Value.int i t from rx);cases q;exact PySem.W.kia_one PySem.W.kitx_int I.kIn True.intro e (fun z=>nomatch z) h
 | str y=>obtain ⟨t,q⟩:=(show ∃ t,u=Value.str y t from rx);cases q;exact PySem.W.kia_one PySem.W.kitx_str I.kIn True.intro e (fun z=>nomatch z) h
 | flt y=>obtain ⟨t,q⟩:=(show ∃ t,u=Value.float y t from rx);cases q;exact PySem.W.kia_one PySem.W.kitx_float I.kIn True.intro e (fun z=>nomatch z) h
 | @lst a xs ea =>
  cases (show u=Value.ref a from rx)
  obtain ⟨_,_,n,_,h1⟩:=(show zar X.prog X.w H s.heap a (.lst xs) from I.hok a _ ea)
  exact PySem.W.kia_one PySem.W.kitx_list I.kIn ⟨_,h1,rfl⟩ e (fun z=>nomatch z) h
 | @frz a ob xs ea =>
  cases (show u=Value.ref a from rx)
  obtain ⟨_,_,_,n,_,h1⟩:=(show zar X.prog X.w H s.heap a (.frz ob (.lst xs)) from I.hok a _ ea)
  exact PySem.W.kia_one PySem.W.kitx_list I.kIn ⟨_,h1,rfl⟩ e (fun z=>nomatch z) h
 | @tup a xs ea =>
  cases (show u=Value.ref a from rx)
  obtain ⟨_,_,_,p⟩:=(show zar X.prog X.w H s.heap a (.tup xs) from I.hok a _ ea)
  obtain ⟨o,h1,h2,_⟩:=p
  exact PySem.W.kia_one PySem.W.kitx_tuple I.kIn ⟨o,h1,h2⟩ e (fun z=>nomatch z) h
 | @dK a kvs ea =>
  cases (show u=Value.ref a from rx)
  obtain ⟨_,_,vs,_,p⟩:=(show zar X.prog X.w H s.heap a (.dK kvs) from I.hok a _ ea)
  obtain ⟨o,es,ep,h1,h2,_⟩:=p
  exact PySem.W.kia_one PySem.W.kitx_dict I.kIn ⟨o,h1,h2.1⟩ e (fun z=>nomatch z) h
 | @ins a C dx fs ea cl ha hn htk hm =>
  cases (show u=Value.ref a from rx)
  obtain ⟨mA,O,_⟩:=zlY I.hok ea
  obtain ⟨od,J,_⟩:=O.look
  exact PySem.W.kia_one (PySem.W.kitx_own (cl.get _) cl.hd ha hn htk hm) I.kIn J e (fun z=>nomatch z) h
end
structure Room (k:Nat) (A:Around):Prop where
 hd:A.handled=none
 dp:A.depth+3*k+5<recursionLimit
 un:A.units+16*k+200<cLine
theorem Room.mono (r:Room k A) (h:j<=k):Room j A:=⟨r.hd,by have:=r.dp;ac_rfl,by have:=r.un;ac_rfl⟩
theorem Room.deeper (r:Room (k+1) A) (env:Env):Room k (A.deeper env) :=
 ⟨r.hd,by have:=r.dp;show A.depth+1+3*k+5<_;ac_rfl,by have:=r.un;show A.units+3+16*k+200<_;ac_rfl⟩
theorem ztY {A:Around} {C:Addr} {us:List Value} {kw:List (Str × Value)}:(A.under (.builtin "type.__call__" ⟨.ref C::us,kw⟩)).depth=A.depth+1:=by
 first | rfl | simp[Around.under,Code.weight,Code.isCreation,Code.isGuard,Code.isCaller,Code.frames,Code.isFrame,guardIds]
theorem zt0 {A:Around} {C:Addr} {us:List Value} {kw:List (Str × Value)}:(A.under (.builtin "type.__call__" ⟨.ref C::us,kw⟩)).units=A.units+1:=by
 first | rfl | simp[Around.under,Code.cUnits,Code.frames,Code.isFrame]
theorem Room.make (r:Room (k+1) A) (C:Addr) (us:List Value) (kw:List (Str × Value)):Room k (A.under (.builtin "type.__call__" ⟨.ref C::us,kw⟩)) :=
 ⟨r.hd,by have:=r.dp;rw[ztY];ac_rfl,by have:=r.un;rw[zt0];ac_rfl⟩
theorem Room.depth (r:Room k A):A.depth<recursionLimit:=by have:=r.dp;ac_rfl
theorem Room.units (r:Room k A):A.units+64<cLine:=by have:=r.un;ac_rfl
def zo1:TA:=fun _ H Q=>Q [] H
def zzp (ta:TE) (tr:TA):TA:=fun σ H Q=>ta σ H fun x H1=>tr σ H1 fun xs H2=>Q (x::xs) H2
section
variable {X:Cx} {e:Expr} {es:List Expr} {te:TE} {t:TA} {pos:Pos}
theorem zd:PA X [] zo1:=fun _ _ _ _ H Q I h=>Calls.spliced_nil ⟨[],H,I,.nil,h⟩
theorem za (ha:PE X e te) (hr:PA X es t) (hs:starEach (e::es) X.env=(false,eval e X.env)::starEach es X.env:=by rfl):PA X (e::es) (zzp te t):=by
 intro pos pins s σ H Q I h
 rw[hs]
 show wpAny _ _ (spliced ((false,eval e X.env)::backTo pos (starEach es X.env))) _ _ s
 refine Calls.spliced_cons (thn (ha pins s σ H _ I h) fun u s1 ⟨x,H1,I1,r1,q1⟩=>?_)
 exact thn (hr pos pins s1 σ H1 _ I1 q1) fun us s2 ⟨xs,H2,I2,r2,q2⟩=>⟨x::xs,H2,I2,.cons r1 r2,q2⟩
def zzu (t:TA):TE:=fun σ H Q=>t σ H fun xs H1=>xs.length<=sizeLine/\∀ p,H1 p=none->Q (.ref p) (upd H1 p (.tup xs))
def zzX (t:TA):TE:=fun σ H Q=>t σ H fun xs H1=>xs.length<=sizeLine/\∀ p,H1 p=none->Q (.ref p) (upd H1 p (.lst xs))
theorem zaf {x1} (h:PA X es t):PE X (.Tuple es x1 pos) (zzu t):=by
 intro pins s σ H Q I hq
 refine wpAny_Tuple_spliced (thn (h pos pins s σ H _ I hq) fun us s1 ⟨xs,H1,I1,r,z,q⟩=>⟨by rw[<-r.length];exact z,?_⟩)
 have hf:H1 s1.heap.objs.size=none:=I1.hok.fresh (ycx _)
 refine ⟨.ref s1.heap.objs.size,upd H1 s1.heap.objs.size (.tup xs),I1.laid (t':=s1.toks) (fun b u e=>ydm _ e) (ycx _) ?_,rfl,q _ hf⟩
 exact ⟨z,us,r,⟨_,ydo _ rfl,rfl,_,rfl⟩⟩
theorem zat (h:PA X es t):PE X (.List es pos) (zzX t):=by
 intro pins s σ H Q I hq
 refine wpAny_List_spliced (thn (h pos pins s σ H _ I hq) fun us s1 ⟨xs,H1,I1,r,z,q⟩=>⟨by rw[<-r.length];exact z,?_⟩)
 have hf:H1 s1.heap.objs.size=none:=I1.hok.fresh (ycx _)
 refine ⟨.ref s1.heap.objs.size,upd H1 s1.heap.objs.size (.lst xs),I1.laid (t':=s1.toks) (fun b u e=>ydm _ e) (ycx _) ?_,rfl,q _ hf⟩
 exact ⟨z,us,0,r,ydo _ rfl⟩
end
noncomputable abbrev Sp:=List V->Hp->VK->XK->Prop
noncomputable abbrev CXT:=List Env->Hp->Shared->XK->Value->Shared->Prop
structure zmW (P:Program) (w:World) (K:W.Frag) (mg:Str->Option Value) (base:Heap) (A:Around) (outer:List Env) (s:Shared) (H:Hp):Prop where
 frames:A.frames=some outer
 mod:Mod K mg base
 bs:∀ b o,base.get? b=some o->s.heap.get? b=some o/\H b=none
 bsz:base.objs.size<=s.heap.objs.size
 funs:s.heap.FunFrames base outer
 frf:∀ b∈frs outer,H b=none
 hok:HOk P w H s.heap
 bare:AllBare s.gens
def CE (outer:List Env) (P:Program) (w:World) (H:Hp) (s:Shared) (Q:VK) (u:Value) (s':Shared):Prop :=
 ∃ v H',s'.os=s.os/\AllBare s'.gens/\Un (frs outer) [] H H' s.heap s'.heap/\HOk P w H' s'.heap/\RelV v u/\Q v H'
def CR (CX:CXT) (outer:List Env) (P:Program) (w:World) (H:Hp) (s:Shared) (Q:VK) (E:XK) (r:Result) (s':Shared):Prop :=
 match r with
 | .ok (.ret u)=>CE outer P w H s Q u s'
 | .ok _=>False
 | .error e=>CX outer H s E e s'
structure zcC (P:Program) (w:World) (K:W.Frag) (mg:Str->Option Value) (base:Heap) (CX:CXT) (k:Nat) (f:Addr) (fd:FuncData) (ps:List Str) (sp:Sp):Prop where
 len:∀ vs H Q E,sp vs H Q E->vs.length=ps.length
 run:∀ (A:Around) (outer:List Env) (s:Shared) (H:Hp) (args:Args) (us:List Value) (vs:List V) (Q:VK) (E:XK),Room k A->zmW P w K mg base A outer s H->BindsTo s fd args (ps.zip us)->Vals vs us->sp vs H Q E ->
  codeAny (model P w) A (.call (.ref f) args) (CR CX outer P w H s Q E) s
theorem zmW.make {P:Program} {w:World} {K:W.Frag} {mg:Str->Option Value} {base:Heap} {A:Around} {outer:List Env} {s:Shared} {H:Hp} (e:zmW P w K mg base A outer s H) (C:Addr) (us:List Value) (kw:List (Str × Value)) :
  zmW P w K mg base (A.under (.builtin "type.__call__" ⟨.ref C::us,kw⟩)) outer s H:=⟨by first | exact e.frames | (simpa [Around.under,Code.envs,Code.isFrame,pushEnvs] using e.frames),e.mod,e.bs,e.bsz,e.funs,e.frf,e.hok,e.bare⟩
section
variable {X:Cx} {pins:List (Addr × Obj)} {σ:St} {H:Hp} {s s':Shared}
theorem Inv.zx0 (I:Inv X pins σ H s):zmW X.prog X.w X.K X.mg X.base X.A X.stack s H :=
 ⟨I.ok.frames,I.ok.mod,I.bs,ydc I.ok.bsz I.sz,I.stack,I.zoC,I.hok,I.bare⟩
theorem Inv.after (I:Inv X pins σ H s) (h:CE X.stack X.prog X.w H s Q u s'):EP X pins σ Q u s':=by
 obtain ⟨v,H',os,bare,un,hok,r,q⟩:=h
 obtain ⟨hh,g,d,t,os'⟩:=s'
 obtain rfl:os'=s.os:=os
 exact ⟨v,H',I.call (h':=hh) (g':=g) (d':=d) (t':=t) (ch:=[]) un hok bare (fun b z=>absurd z (by simp)),r,q⟩
end
def zt1 (sp:Sp) (dvs:List V) (E:XK) (t:TA):TE:=fun σ H Q=>t σ H fun vs H1=>sp (vs++dvs) H1 Q E
def zqh (C:Addr) (m:Str) (sp:Sp) (dvs:List V) (E:XK) (ta:TE) (t:TA):TE:=fun σ H Q=>ta σ H fun x H1=>∃ a dx fs,x=.ref a/\H1 a=some (.ins C dx fs)/\fs.lookup m=none /\
 t σ H1 fun vs H2=>sp (x::(vs++dvs)) H2 Q E
def zwM (C:Addr) (sp:Sp) (dvs:List V) (E:XK) (t:TA):TE:=fun σ H Q=>t σ H fun vs H1=>∀ x dx,H1 x=none->H1 dx=none->dx≠x ->
 sp (.ref x::(vs++dvs)) (upd (upd H1 dx (.own x)) x (.ins C dx [])) (fun v H2=>v=.non/\Q (.ref x) H2) E
def Binds (K:W.Frag) (fd:FuncData) (ps:List Str) (ds:List Value):Prop :=
 ∀ (s:Shared) (us:List Value),K.In s.heap->(us++ds).length=ps.length->BindsTo s fd ⟨us,[]⟩ (ps.zip (us++ds))
theorem Binds.all {K:W.Frag} {fd:FuncData} {ps:List Str} (h:∀ us:List Value,us.length=ps.length->bindArgs fd ⟨us,[]⟩=pure (ps.zip us)):Binds K fd ps []:=fun s us _ hl=>by
 rw[ycs] at hl ⊢
 exact .of_eq (h us hl)
def Passes (CX:CXT) (X:Cx) (E:XK):Prop:=∀ (pins:List (Addr × Obj)) (σ:St) (H:Hp) (s:Shared) (e:Value) (s':Shared),Inv X pins σ H s->CX X.stack H s E e s'->X.xe e s'
section
variable {X:Cx} {CX:CXT} {k:Nat} {f C:Addr} {fd:FuncData} {ps:List Str} {sp:Sp} {dvs:List V} {ds:List Value} {E:XK} {x m:Str} {p pos apos:Pos} {e o:Expr} {es:List Expr} {ta:TE} {t:TA}
theorem zhc (F:zcC X.prog X.w X.K X.mg X.base CX k f fd ps sp) (hr:Room k X.A) (hb:Binds X.K fd ps ds) (hd:Vals dvs ds) (hx:Passes CX X E)
  (I:Inv X pins σ H s) (r:Vals vs us) (h:sp (vs++dvs) H Q E):wpAny (model X.prog X.w) X.A (call (.ref f) us) (EP X pins σ Q) X.xe s:=by
 have r2:Vals (vs++dvs) (us++ds):=r.append hd
 have hl:(us++ds).length=ps.length:=by rw[<-r2.length];exact F.len _ _ _ _ h
 refine wpAny_call (codeAny_mono (F.run X.A X.stack s H ⟨us,[]⟩ (us++ds) (vs++dvs) Q E hr I.zx0 (hb s us I.kIn hl) r2 h) fun r s' hq=>?_)
 cases r with
 | error e=>exact hx pins σ H s e s' I hq
 | ok fl =>
  cases fl with
  | ret u=>exact I.after hq
  | next=>exact False.elim hq
  | brk=>exact False.elim hq
  | cont=>exact False.elim hq
theorem zxB (F:zcC X.prog X.w X.K X.mg X.base CX k f fd ps sp) (hr:Room k X.A) (hg:Gl X x) (hm:X.mg x=some (.ref f)) (hk:PySem.W.keepIn X.K (.ref f)=true) (hb:Binds X.K fd ps ds) (hd:Vals dvs ds) (hx:Passes CX X E)
  (ha:PA X (e::es) t) (hdb:(x == ("__debug__" : Str))=false:=by decide) (he:starEach (e::es) X.env=(false,eval e X.env)::starEach es X.env:=by rfl) (hpl:(backTo pos (starEach es X.env)).any (·.1)=false:=by rfl) :
  PE X (.Call (.Name x p) (e::es) [] pos) (zt1 sp dvs E t):=by
 intro pins s σ H Q I h
 refine wpAny_Call_Name_kw (zmk I hg hm ?_ hdb)
 refine PySem.W.callWith_K (h₀:=X.base) I.ok.mod.kin hk (thn (ha pos pins s σ H _ I h) fun us s1 ⟨vs,H1,I1,r,q⟩=>⟨I1.kIn,?_⟩) he hpl
 exact zhc F hr hb hd hx I1 r q
theorem zxC (he:PE X o ta) (c:Cls X.K C) (hm:Meth X.K C m f) (F:zcC X.prog X.w X.K X.mg X.base CX k f fd ps sp) (hr:Room k X.A) (hb:Binds X.K fd ps ds) (hd:Vals dvs ds) (hx:Passes CX X E) (ha:PA X (e::es) t)
  (hst:starEach (e::es) X.env=(false,eval e X.env)::starEach es X.env:=by rfl) (hpl:(backTo pos (starEach es X.env)).any (·.1)=false:=by rfl)
  (ht:eval (.Call (.Attribute o m apos) (e::es) [] pos) X.env=(do
   let ov <-eval o X.env
   standAt apos.atName
   let (f,first) <-holding [ov] (getMethod ov m pl)
   callWith pos f first (backTo pos (starEach (e::es) X.env)) (backToKw pos (keywordEach [] X.env))):=by rfl) :
  PE X (.Call (.Attribute o m apos) (e::es) [] pos) (zqh C m sp dvs E ta t):=by
 intro pins s σ H Q I h
 refine PySem.W.methodCall_KW (pl:=pl) (thn (he pins s σ H _ I h) fun u s1 ⟨x,H1,I1,rx,a,dx,fs,ex,ea,l,q⟩=>?_) ht
 subst ex
 obtain rfl:u=Value.ref a:=rx
 refine zee I1 ea c hm l ?_
 refine PySem.W.callWith_K (first:=[.ref a]) (h₀:=X.base) I.ok.mod.kin hm.kp (thn (ha pos pins s1 σ H1 _ I1 q) fun us s2 ⟨vs,H2,I2,r,q2⟩=>⟨I2.kIn,?_⟩) hst hpl
 exact zhc (us:=.ref a::us) (vs:=.ref a::vs) F hr hb hd hx I2 (.cons rfl r) q2
theorem zwt (he:PE X o ta) (c:Cls X.K C) (hm:Meth X.K C m f) (F:zcC X.prog X.w X.K X.mg X.base CX k f fd ps sp) (hr:Room k X.A) (hb:Binds X.K fd ps ds) (hd:Vals dvs ds) (hx:Passes CX X E)
  (ht:eval (.Call (.Attribute o m apos) [] [] pos) X.env=(do
   let ov <-eval o X.env
   standAt apos.atName
   let (f,first) <-holding [ov] (getMethod ov m pl)
   callWith pos f first (backTo pos (starEach [] X.env)) (backToKw pos (keywordEach [] X.env))):=by rfl) :
  PE X (.Call (.Attribute o m apos) [] [] pos) (zqh C m sp dvs E ta zo1):=by
 intro pins s σ H Q I h
 refine PySem.W.methodCall_KW (pl:=pl) (thn (he pins s σ H _ I h) fun u s1 ⟨x,H1,I1,rx,a,dx,fs,ex,ea,l,q⟩=>?_) ht
 subst ex
 obtain rfl:u=Value.ref a:=rx
 refine zee I1 ea c hm l ?_
 exact PySem.W.callWith_K0 (first:=[.ref a]) I1.kIn hm.kp (zhc (us:=[.ref a]) (vs:=[.ref a]) F hr hb hd hx I1 (.cons rfl .nil) q)
structure Mk (K:W.Frag) (C f:Addr):Prop where
 makes:PySem.W.makesIn K C=true
 init:PySem.W.findIn K (.ref C) "__init__" = some (some (.ref f))
 fn:PySem.W.isFn K (.ref f)=true
 kp:PySem.W.keepIn K (.ref C)=true
theorem zvL (M:Mk X.K C f) (F:zcC X.prog X.w X.K X.mg X.base CX k f fd ps sp) (hr:Room (k+1) X.A) (hb:Binds X.K fd ps ds) (hd:Vals dvs ds)
  (hx:Passes CX X E) (I:Inv X pins σ H s) (r:Vals vs us)
  (h:∀ x dx,H x=none->H dx=none->dx≠x->sp (.ref x::(vs++dvs)) (upd (upd H dx (.own x)) x (.ins C dx [])) (fun v H2=>v=.non/\Q (.ref x) H2) E) :
  wpAny (model X.prog X.w) X.A (call (.ref C) us) (EP X pins σ Q) X.xe s:=by
 have hq:=h (s.heap.objs.size+1) s.heap.objs.size (I.hok.fresh (ydj _)) (I.hok.fresh (ycx _)) (ycy (yde _))
 have I2:=Inv.made (C:=C) I
 have r2:Vals (V.ref (s.heap.objs.size+1)::(vs++dvs)) (Value.ref (s.heap.objs.size+1)::(us++ds)):=.cons rfl (r.append hd)
 have hl:(Value.ref (s.heap.objs.size+1)::us++ds).length=ps.length:=by
  have e:=r2.length
  rw[F.len _ _ _ _ hq] at e
  exact e.symm
 refine wpAny_call (zwq (f:=f) I.kIn M.makes M.init (beq_iff_eq.mp M.fn) (codeAny_mono (F.run _ X.stack _ _ ⟨Value.ref (s.heap.objs.size+1)::us,[]⟩ (Value.ref (s.heap.objs.size+1)::(us++ds)) _ _ E (hr.make C us [])
  (I2.zx0.make C us []) (hb _ (Value.ref (s.heap.objs.size+1)::us) I2.kIn hl) r2 hq) fun r s' hq'=>?_))
 cases r with
 | error e=>exact hx pins σ _ _ e s' I2 hq'
 | ok fl =>
  cases fl with
  | ret u =>
   obtain ⟨v,H',I3,rv,ev,q3⟩:=I2.after hq'
   subst ev
   exact ⟨rv,⟨V.ref (s.heap.objs.size+1),H',I3,rfl,q3⟩⟩
  | next=>exact False.elim hq'
  | brk=>exact False.elim hq'
  | cont=>exact False.elim hq'
theorem zxT (M:Mk X.K C f) (F:zcC X.prog X.w X.K X.mg X.base CX k f fd ps sp) (hr:Room (k+1) X.A) (hg:Gl X x) (hm:X.mg x=some (.ref C)) (hb:Binds X.K fd ps ds) (hd:Vals dvs ds) (hx:Passes CX X E)
  (ha:PA X (e::es) t) (hdb:(x == ("__debug__" : Str))=false:=by decide) (he:starEach (e::es) X.env=(false,eval e X.env)::starEach es X.env:=by rfl) (hpl:(backTo pos (starEach es X.env)).any (·.1)=false:=by rfl) :
  PE X (.Call (.Name x p) (e::es) [] pos) (zwM C sp dvs E t):=by
 intro pins s σ H Q I h
 refine wpAny_Call_Name_kw (zmk I hg hm ?_ hdb)
 refine PySem.W.callWith_K (h₀:=X.base) I.ok.mod.kin M.kp (thn (ha pos pins s σ H _ I h) fun us s1 ⟨vs,H1,I1,r,q⟩=>⟨I1.kIn,?_⟩) he hpl
 exact zvL M F hr hb hd hx I1 r q
end
section
variable {X:Cx} {CX:CXT} {k:Nat} {f C:Addr} {fd:FuncData} {ps ks:List Str} {sp:Sp} {E:XK} {x m:Str} {p pos apos kpos:Pos} {e o:Expr} {es:List Expr} {kws:List Keyword} {te ta:TE} {t tk:TA} {nm:Option Str}
variable {g:List Value->List Value->List Value} {gV:List V->List V->List V}
end
structure zk (N P:List Str) (sc:Scope):Prop where
 kind:sc.kind=.function
 co:sc.isCoroutine=false
 gen:sc.isGenerator=false
 nd:N.Nodup
 pre:N.take P.length=P
 par:∀ x∈P,sc.names.lookup x=some .local\/sc.names.lookup x=some .cell
 nofree:∀ y∈sc.names,y.2≠.free
theorem zo8 {kindOf:Str->Option NameKind} {x:Str}:∀ {binds:List (Str × Value)} {m:Str->Option Value},(∀ v,(x,v) ∉ binds)->bindL kindOf binds m x=m x
 | [],_,_=>rfl
 | (n,v)::r,m,h=>by
  unfold bindL
  rw[zo8 fun w hw=>h w (yam _ hw)]
  split
  ·have:x≠n:=by rintro rfl;exact h v yap
   simp[this]
  ·rfl
theorem zpq {kindOf:Str->Option NameKind} {x:Str}:∀ {binds:List (Str × Value)} {m:Str->Option Value},(∀ v,(x,v) ∉ binds)->bindC kindOf binds m x=m x
 | [],_,_=>rfl
 | (n,v)::r,m,h=>by
  unfold bindC
  rw[zpq fun w hw=>h w (yam _ hw)]
  split
  ·rfl
  ·have:x≠n:=by rintro rfl;exact h v yap
   simp[this]
theorem zpu {kindOf:Str->Option NameKind} {x:Str} {v:Value}:∀ {P:List Str} {vs:List Value} {i:Nat} {m:Str->Option Value},P.Nodup->P[i]?=some x->vs[i]?=some v->kindOf x=some .local ->
  bindL kindOf (P.zip vs) m x=some v
 | [],_,_,_,_,h,_,_=>by simp at h
 | _::_,[],_,_,_,_,h,_=>by simp at h
 | p::P,w::vs,0,m,nd,h1,h2,hk=>by
  simp at h1 h2;subst h1;subst h2
  show bindL kindOf ((p,w)::P.zip vs) m p=_
  unfold bindL
  rw[zo8 fun v hv=>(ybj.mp nd).1 (List.of_mem_zip hv).1,if_pos hk]
  simp
 | p::P,w::vs,i+1,m,nd,h1,h2,hk=>by
  show bindL kindOf ((p,w)::P.zip vs) m x=_
  unfold bindL
  exact zpu (i:=i) (ybj.mp nd).2 (by simpa using h1) (by simpa using h2) hk
theorem zph {kindOf:Str->Option NameKind} {x:Str} {v:Value}:∀ {P:List Str} {vs:List Value} {i:Nat} {m:Str->Option Value},P.Nodup->P[i]?=some x->vs[i]?=some v->kindOf x≠some .local ->
  bindC kindOf (P.zip vs) m x=some v
 | [],_,_,_,_,h,_,_=>by simp at h
 | _::_,[],_,_,_,_,h,_=>by simp at h
 | p::P,w::vs,0,m,nd,h1,h2,hk=>by
  simp at h1 h2;subst h1;subst h2
  show bindC kindOf ((p,w)::P.zip vs) m p=_
  unfold bindC
  rw[zpq fun v hv=>(ybj.mp nd).1 (List.of_mem_zip hv).1,if_neg hk]
  simp
 | p::P,w::vs,i+1,m,nd,h1,h2,hk=>by
  show bindC kindOf ((p,w)::P.zip vs) m x=_
  unfold bindC
  exact zph (i:=i) (ybj.mp nd).2 (by simpa using h1) (by simpa using h2) hk
noncomputable def start (N:List Str) (vs:List V):St:=vs.map some++yat (N.length-vs.length) none
noncomputable def zg8 (CX:CXT) (P:Program) (w:World) (K:W.Frag) (mg:Str->Option Value) (base:Heap) (N:List Str) (qual:Str) (scope:Scope) (f:Addr) (cd:Value) (A:Around) (outer:List Env) (s:Shared) (H:Hp) (E:XK):Cx where
 prog:=P
 w:=w
 K:=K
 mg:=mg
 base:=base
 A:=A.deeper (envOfC qual scope s.heap.objs.size f cd)
 N:=N
 s₀:=s
 H₀:=H
 env:=envOfC qual scope s.heap.objs.size f cd
 outer:=outer
 stack:=envOfC qual scope s.heap.objs.size f cd::outer
 ex:=[]
 calm:=true
 fn:=fun _=>true
 pn:=[]
 xe:=fun e s'=>wpAny (model P w) (A.deeper (envOfC qual scope s.heap.objs.size f cd)) (leaving (envOfC qual scope s.heap.objs.size f cd) e) (fun _ s''=>CX outer H s E e s'') (fun e' s''=>CX outer H s E e' s'') s'
theorem zqo {sc:Scope} {n:Nat} {x:Str} (h:sc.names.lookup x=some .cell):∃ c,(cellsFrom n sc.names []).lookup x=some c:=by
 have q:=PySem.W.cellsFrom_some sc.names n [] (.inl h)
 exact Option.isSome_iff_exists.mp q
theorem zvy {CX:CXT} {P:Program} {w:World} {K:W.Frag} {mg:Str->Option Value} {base:Heap} {N ps:List Str} {qual:Str} {scope:Scope} {f:Addr} {cd:Value} {A:Around} {outer:List Env} {s s1:Shared} {H:Hp} {E:XK} {us:List Value} {vs:List V}
  (S:zk N ps scope) (hd:A.handled=none) (e0:zmW P w K mg base A outer s H) (hl:vs.length=ps.length) (r:Vals vs us)
  (x:InCallC s s.heap.objs.size (bindL (envOfC qual scope s.heap.objs.size f cd).kindOf (ps.zip us) fun _=>none) (cellsFrom (s.heap.objs.size+1) scope.names []) (bindC (envOfC qual scope s.heap.objs.size f cd).kindOf (ps.zip us) fun _=>none) s1) :
  Inv (zg8 CX P w K mg base N qual scope f cd A outer s H E) [] (start N vs) H s1:=by
 have hpl:ps.length<=N.length:=by have:=congrArg List.length S.pre;rw[yaz] at this;ac_rfl
 obtain ⟨h1,tk,rfl,hk⟩:=x.done
 have noA:∀ b:Addr,b ∉ (zg8 CX P w K mg base N qual scope f cd A outer s H E).ex:=fun b z=>absurd (show b∈([]:List Addr) from z) (by simp)
 refine ⟨⟨e0.mod,S.kind,rfl,rfl,ycx _,fun y z c h1 h2=>?_,fun y hy=>?_,fun y c _ h=>?_,fun _=>hd,Around.frames_deeper e0.frames,.inr ⟨rfl,rfl⟩,fun b z=>absurd z (noA b),e0.bs,e0.bsz,fun b _ _=>noA b,fun b z=>absurd z (noA b),e0.funs,e0.frf⟩,
  rfl,e0.bare,Un.kept hk,⟨_,x.toInCall.ns,fun i y v h1 h2 h3=>?_⟩,fun y c h=>⟨_,x.cell y c h⟩,e0.hok.fresh (ycx _),fun y c h=>?_,fun p hp=>absurd (show p∈([]:List (Addr × Obj)) from hp) (by simp),e0.hok.kept hk,?_⟩
 ·exact name_of_addr x.apart (PySem.mem_of_lookup h1) (PySem.mem_of_lookup h2)
 ·have hy:scope.names.lookup y=some .cell\/scope.names.lookup y=some .free:=hy
  rcases hy with hy | hy
  ·exact zqo hy
  ·exact absurd rfl (S.nofree _ (PySem.mem_of_lookup hy))
 ·exact ydk (x.above y c (PySem.mem_of_lookup h))
 ·have hi:i<vs.length:=by
   unfold start at h2
   by_cases hi:i<vs.length
   ·exact hi
   ·rw[ybf (by simpa using hi)] at h2
    rw[ycc] at h2
    split at h2 <;> cases h2
  have ha:vs[i]?=some v:=by
   unfold start at h2
   rw[ybk (by simpa using hi),yai] at h2
   cases e:vs[i]? with
   | none=>rw[e] at h2;cases h2
   | some a=>rw[e] at h2;cases h2;rfl
  obtain ⟨u,hu,rv⟩:=r.get ha
  have hp:ps[i]?=some y:=by
   rw[<-S.pre,List.getElem?_take_of_lt (by ac_rfl)];exact h1
  have ndP:ps.Nodup:=by rw[<-S.pre];exact S.nd.sublist (List.take_sublist _ _)
  refine ⟨u,rv,?_⟩
  rcases S.par y (yah hp) with k | k
  ·exact .inl ⟨k,zpu ndP hp hu k⟩
  ·obtain ⟨c,e⟩:=zqo (n:=s.heap.objs.size+1) k
   refine .inr ⟨.inl k,c,e,?_⟩
   have q:=x.cell y c e
   rw[zph ndP hp hu (by show scope.names.lookup y≠_;rw[k];decide)] at q
   exact q
 ·exact e0.hok.fresh (ydk (x.above y c (PySem.mem_of_lookup h)))
 ·unfold start
  show _=N.length
  rw[yaf,yab,List.length_replicate]
  ac_rfl
theorem zyW {CX:CXT} {P:Program} {w:World} {K:W.Frag} {mg:Str->Option Value} {base:Heap} {k:Nat} {f:Addr} {name qual:Str} {params:Arguments} {body:List Stmt} {scope:Scope} {dV kV doc pm cdv ct oc:Value} {an od:Option Addr}
  {osl:Array (Option Value)} {N ps:List Str} {sp:Sp} (lk:K.lookup f=some ⟨oc,od,.func (PySem.W.fnOf name qual params body scope dV kV doc pm an cdv ct),osl⟩) (hcd:PySem.W.codeIn K cdv qual=true) (S:zk N ps scope)
  (len:∀ vs H Q E,sp vs H Q E->vs.length=ps.length)
  (hbody:∀ (A:Around) (outer:List Env) (s:Shared) (H:Hp) (vs:List V) (Q:VK) (E:XK),Room k (A.deeper (envOfC qual scope s.heap.objs.size f cdv))->sp vs H Q E ->
   ∃ t,PSs (zg8 CX P w K mg base N qual scope f cdv A outer s H E) body t/\t { nx:=fun _ H'=>Q .non H',rt:=Q } (start N vs) H) :
  zcC P w K mg base CX (k+1) f (PySem.W.fnOf name qual params body scope dV kV doc pm an cdv ct) ps sp:=by
 refine ⟨len,fun A outer s H args us vs Q E hr e0 hb r hsp=>?_⟩
 have hl:=len _ _ _ _ hsp
 have KX:K.In s.heap:=e0.mod.kin.keeps fun b o e=>(e0.bs b o e).1
 have lim:s.heap.NoLimit:=e0.mod.nolimit.keeps fun b o e=>(e0.bs b o e).1
 have hkind:∀ y∈ps.zip us,scope.names.lookup y.1=some .local\/(scope.names.lookup y.1=some .cell/\((cellsFrom (s.heap.objs.size+1) scope.names []).lookup y.1).isSome=true):=fun ⟨n,v⟩ hy=>by
  rcases S.par n (List.of_mem_zip hy).1 with q | q
  ·exact .inl q
  ·exact .inr ⟨q,PySem.W.cellsFrom_some _ _ _ (.inl q)⟩
 refine codeAny_call_function hr.depth (KX _ _ lk) rfl S.co S.gen rfl (PySem.W.codeRec_of KX hcd) (hb _ _ _ _ ?_)
 refine wpAny_newFunctionEnv_cells S.kind hkind fun env he s1 x=>?_
 subst he
 refine ⟨lim.keeps x.toInCall.keep,codeAny_func ?_⟩
 obtain ⟨t,ht,hq⟩:=hbody A outer s H vs Q E (hr.deeper _) hsp
 have I:Inv (zg8 CX P w K mg base N qual scope f cdv A outer s H E) [] (start N vs) H s1:=zvy S hr.hd e0 hl r x
 refine wpAny_mono (ht [] s1 (start N vs) H _ I hq) (fun fl s' hs=>?_) fun e s' hs=>hs
 have fin:∀ {σ':St} {H':Hp} {v:V} {u:Value},Inv (zg8 CX P w K mg base N qual scope f cdv A outer s H E) [] σ' H' s'->RelV v u->Q v H'->CE outer P w H s Q u s' :=
  fun {σ' H' v u} J rv q=>⟨v,H',J.os,J.bare,J.base,J.hok,rv,q⟩
 cases fl with
 | ret u =>
  obtain ⟨v,σ',H',J,rv,q⟩:=hs
  exact fin J rv q
 | next =>
  obtain ⟨σ',H',J,q⟩:=hs
  exact fin (v:=V.non) (u:=Value.none) J rfl q
 | brk =>
  obtain ⟨_,_,_,q⟩:=hs
  exact False.elim q
 | cont =>
  obtain ⟨_,_,_,q⟩:=hs
  exact False.elim q
section
variable {X:Cx} {x:Str} {p pos:Pos} {e:Expr} {es:List Expr} {t:TA} {id T:String} {r:List V->Hp->VK->Prop}
def tCB (r:List V->Hp->VK->Prop) (t:TA):TE:=fun σ H Q=>t σ H fun vs H1=>r vs H1 Q
theorem zA (hc:zbG X (.builtin id) r) (hg:Gl X x) (hm:X.mg x=none) (hv:bootBuiltins x=some (.builtin id)) (ha:PA X (e::es) t) (hn:x ≠ "__name__" := by decide) (hdb:(x == ("__debug__" : Str))=false:=by decide)
  (he:starEach (e::es) X.env=(false,eval e X.env)::starEach es X.env:=by rfl) (hpl:(backTo pos (starEach es X.env)).any (·.1)=false:=by rfl):PE X (.Call (.Name x p) (e::es) [] pos) (tCB r t):=by
 intro pins s σ H Q I h
 refine wpAny_Call_Name_kw (zly I hg hm hv ?_ hn hdb)
 exact PyProof.Rows.callWith_builtin1 (thn (ha pos pins s σ H _ I h) fun us s1 ⟨vs,H1,I1,r1,q1⟩=>hc pins s1 σ H1 vs us Q I1 r1 q1) he hpl
theorem zM (hc:zbG X (.type T) r) (hg:Gl X x) (hm:X.mg x=none) (hv:bootBuiltins x=some (.type T)) (ha:PA X (e::es) t) (hn:x ≠ "__name__" := by decide) (hdb:(x == ("__debug__" : Str))=false:=by decide)
  (he:starEach (e::es) X.env=(false,eval e X.env)::starEach es X.env:=by rfl) (hpl:(backTo pos (starEach es X.env)).any (·.1)=false:=by rfl):PE X (.Call (.Name x p) (e::es) [] pos) (tCB r t):=by
 intro pins s σ H Q I h
 refine wpAny_Call_Name_kw (zly I hg hm hv ?_ hn hdb)
 exact PyProof.Rows.callWith_type1 (thn (ha pos pins s σ H _ I h) fun us s1 ⟨vs,H1,I1,r1,q1⟩=>hc pins s1 σ H1 vs us Q I1 r1 q1) he hpl
end
end L2
namespace HT
open PySem PyProof.Rows
section
open PySem.SeqAt
open PySem.AutoSeq1 (wpAny_loadPart')
open PySem.MeetsSeq PySem.MeetsSeq2 PySem.MeetsSeq3
end
section
variable {prog:Program} {w:World} {A:Around} {E:Value->Shared->Prop} {s:Shared}
noncomputable def sIx (n d:Nat):Option Int->Nat
 | none=>d
 | some v=>if v<0 then (v+(n:Int)).toNat else min v.toNat n
theorem zyA (n d:Nat) (hd:d<=n) (o:Option Int):sIx n d o<=n:=by
 cases o with
 | none=>exact hd
 | some v =>
  show (if v<0 then (v+(n:Int)).toNat else min v.toNat n)<=n
  by_cases hv:v<0
  ·rw[if_pos hv];ac_rfl
  ·rw[if_neg hv];exact Nat.min_le_right _ _
theorem ztp (v:Int) (n d:Nat):(if v<0 then max (v+(n:Int)) 0 else min v (n:Int))=((sIx n d (some v):Nat):Int):=by
 show (if v<0 then max (v+(n:Int)) 0 else min v (n:Int))=(((if v<0 then (v+(n:Int)).toNat else min v.toNat n):Nat):Int)
 by_cases hv:v<0
 ·simp only[if_pos hv];ac_rfl
 ·simp only[if_neg hv];ac_rfl
theorem zt7 (lo hi:Option Int) (n:Nat):Builtin.Slice.sliceAdjust lo hi 1 (n:Int)=(((sIx n 0 lo:Nat):Int),((sIx n n hi:Nat):Int)):=by
 have h1:¬ ((1:Int)<0):=by ac_rfl
 unfold Builtin.Slice.sliceAdjust
 simp only[h1,if_false]
 refine Prod.ext ?_ ?_
 ·cases lo with
  | none=>rfl
  | some v=>exact ztp v n 0
 ·cases hi with
  | none=>rfl
  | some v=>exact ztp v n n
theorem zuk (i j:Nat):Builtin.Slice.slicePlaces (i:Int) (j:Int) 1=j-i:=by
 unfold Builtin.Slice.slicePlaces
 have h1:(1:Int) > 0:=by ac_rfl
 simp only[h1,if_true,Int.ediv_one]
 split <;> ac_rfl
theorem znz (p:IsPart v o) (h:Q o s):wpAny (model prog w) A (Builtin.Slice.slicePartIndex v) Q E s:=by
 cases p with
 | none=>exact slicePart_none h
 | int i t=>exact slicePart_int h
theorem zne {sl:Addr} {vl vu:Value} {lo hi:Option Int} {n:Nat} {Q:Int × Int × Nat->Shared->Prop} (hs:s.heap.IsSliceOf sl vl vu .none) (pl:IsPart vl lo) (pu:IsPart vu hi)
  (h:Q (((sIx n 0 lo:Nat):Int),1,sIx n n hi-sIx n 0 lo) s):wpAny (model prog w) A (Builtin.Slice.sliceApplied (.ref sl) (pure (n:Int))) Q E s:=by
 obtain ⟨os,hos,hcs,hds⟩:=id hs
 unfold Builtin.Slice.sliceApplied Builtin.Slice.sliceFields
 refine wpAny_bind (wpAny_bind (wpAny_field hos hds (x:=vl) rfl (wpAny_bind (wpAny_field hos hds (x:=vu) rfl (wpAny_bind (wpAny_field hos hds (x:=.none) rfl (wpAny_pure ?_)))))))
 refine wpAny_bind (slicePart_none ?_)
 show wpAny _ _ (if ((1:Int) == 0)=true then _ else _) _ _ s
 rw[if_neg (by decide)]
 refine wpAny_bind (znz pl (wpAny_bind (znz pu (wpAny_bind (wpAny_pure ?_)))))
 show wpAny _ _ (match Builtin.Slice.sliceAdjust lo hi 1 (n:Int) with | (lo,hi)=>pure (lo,(1:Int),Builtin.Slice.slicePlaces lo hi 1)) _ _ s
 rw[zt7 lo hi n]
 show wpAny _ _ (pure (((sIx n 0 lo:Nat):Int),(1:Int),Builtin.Slice.slicePlaces ((sIx n 0 lo:Nat):Int) ((sIx n n hi:Nat):Int) 1)) _ _ s
 rw[zuk]
 exact wpAny_pure h
theorem zws (xs:Array Value) (i k:Nat):((yba k).filterMap fun (m:Nat)=>xs[((i:Int)+(m:Int)*1).toNat]?).toArray=((xs.toList.drop i).take k).toArray:=by
 have e:(fun (m:Nat)=>xs[((i:Int)+(m:Int)*1).toNat]?)=fun m=>xs[i+m]?:=by
  funext m
  have:((i:Int)+(m:Int)*1).toNat=i+m:=by ac_rfl
  rw[this]
 rw[e]
 have:=pick_run xs i k
 rw[List.filterMap_map] at this
 have e2:((fun x=>xs[x]?) ∘ fun x=>i+x)=fun m=>xs[i+m]?:=rfl
 rw[e2] at this
 rw[this]
theorem zms {t sl:Addr} {items:Array Value} {vl vu:Value} {lo hi:Option Int} {Q:Value->Shared->Prop} (ht:IsTup s.heap t items) (hs:s.heap.IsSliceOf sl vl vu .none) (pl:IsPart vl lo) (pu:IsPart vu hi)
  (hw:¬ (sIx items.size 0 lo=0/\sIx items.size items.size hi=items.size))
  (h:Q (.ref s.heap.objs.size) { s with heap:=s.heap.push { cls:=.type "tuple", data:=.seq ((items.toList.drop (sIx items.size 0 lo)).take (sIx items.size items.size hi-sIx items.size 0 lo)).toArray } })
  (hsz:items.size<=sizeLine):wpAny (model prog w) A (getItem (.ref t) (.ref sl)) Q E s:=by
 have htake:sizeOk (.seq ((items.toList.drop (sIx items.size 0 lo)).take (sIx items.size items.size hi-sIx items.size 0 lo)).toArray):=by
  show ((items.toList.drop (sIx items.size 0 lo)).take (sIx items.size items.size hi-sIx items.size 0 lo)).toArray.size<=sizeLine
  rw[yak,yaz,ycp,ydy]
  ac_rfl
 have hj:sIx items.size items.size hi<=items.size:=zyA _ _ (ycx _) hi
 obtain ⟨os,hos,hcs,hds⟩:=id hs
 have hTs:s.TypeIs (.ref sl) "slice" := ⟨os,hos,hcs⟩
 unfold getItem
 try with_reducible refine wpAny_holding ?_
 first | refine wpAny_bind (wpAny_pure ?_) | skip
 refine wpAny_bind (wpAny_sequenceKey ht.typeIs (by decide) ?_)
 refine wpAny_bind (wpAny_callSpecial?_slot (name:=Str.ofString "__getitem__") ht.typeIs PyProof.Rows.slot_tuple_getitem
  (wpAny_call_entry PyProof.Rows.slot_tuple_getitem ht.typeIs entry_tuple_getitem ?_ (args_tuple_getitem _ _)))
 show wpAny _ _ (Builtin.Tuple.tupleItemsOf (.ref t) >>= _) _ _ s
 refine wpAny_bind (tupleItemsOf_ ht ?_)
 refine wpAny_bind (wpAny_typeOf hTs ?_)
 rw[if_pos (by decide)]
 refine wpAny_bind (zne hs pl pu ?_)
 have hno:¬ ((((sIx items.size 0 lo:Nat):Int) == 0 && (1:Int) == 1 && (sIx items.size items.size hi-sIx items.size 0 lo) == items.size)=true):=by
  intro q
  rw[Bool.and_eq_true,Bool.and_eq_true] at q
  have q1:((sIx items.size 0 lo:Nat):Int)=0:=eq_of_beq q.1.1
  have q2:sIx items.size items.size hi-sIx items.size 0 lo=items.size:=eq_of_beq q.2
  exact hw ⟨by ac_rfl,by ac_rfl⟩
 show wpAny _ _ (if (((sIx items.size 0 lo:Nat):Int) == 0 && (1:Int) == 1 && (sIx items.size items.size hi-sIx items.size 0 lo) == items.size)=true then _ else _) _ _ s
 rw[if_neg hno,zws]
 first
  | exact wpAny_bind (m:=Builtin.Tuple.tupleExact _) (wpAny_newObj_type (wpAny_pure ⟨_,rfl,wpAny_pure h⟩) htake)
  | exact wpAny_bind (m:=Builtin.Tuple.tupleExact _) (wpAny_newObj_type (wpAny_bind (wpAny_pure (wpAny_pure ⟨_,rfl,wpAny_pure h⟩))) htake)
  | exact wpAny_bind (wpAny_bind (m:=Builtin.Tuple.tupleExact _) (wpAny_newObj_type (wpAny_pure (wpAny_pure ⟨_,rfl,wpAny_pure h⟩)) htake))
  | exact wpAny_bind (wpAny_bind (m:=Builtin.Tuple.tupleExact _) (wpAny_newObj_type (wpAny_pure ⟨_,rfl,wpAny_pure h⟩) htake))
end
end HT
namespace L2
open PySem PySem.Spec PyProof.Rows
noncomputable abbrev TO:=St->Hp->(Option Int->Hp->Prop)->Prop
def PO (X:Cx) (e:Option Expr) (t:TO):Prop :=
 ∀ (pins:List (Addr × Obj)) (s:Shared) (σ:St) (H:Hp) (Q:Option Int->Hp->Prop),Inv X pins σ H s->t σ H Q ->
  wpAny (model X.prog X.w) X.A (evalPart e X.env) (fun u s'=>∃ o H',Inv X pins σ H' s'/\IsPart u o/\Q o H') X.xe s
def zxo:TO:=fun _ H Q=>Q none H
def zyZ (t:TE):TO:=fun σ H Q=>t σ H fun x H1=>∃ i,x=.int i/\Q (some i) H1
section
variable {X:Cx} {e:Expr} {te:TE} {lo hi:Option Expr} {tl th:TO} {pos p2:Pos}
theorem zo3:PO X none zxo:=by
 intro pins s σ H Q I h
 rw[evalPart_none]
 exact wpAny_pure ⟨none,H,I,.none,h⟩
theorem zjL (h:PE X e te):PO X (some e) (zyZ te):=by
 intro pins s σ H Q I hw
 rw[evalPart_some]
 refine thn (h pins s σ H _ I hw) fun u s1 ⟨x,H1,I1,r1,q1⟩=>?_
 obtain ⟨i,rfl,q⟩:=q1
 obtain ⟨t,rfl⟩:=r1
 exact ⟨some i,H1,I1,.int i t,q⟩
def SlR (X:Cx) (r:V->Option Int->Option Int->Hp->VK->Prop):Prop :=
 ∀ (pins:List (Addr × Obj)) (s:Shared) (σ:St) (H:Hp) (x:V) (v vl vu:Value) (lo hi:Option Int) (sl:Addr) (Q:VK),Inv X pins σ H s->RelV x v->s.heap.IsSliceOf sl vl vu .none->IsPart vl lo->IsPart vu hi->r x lo hi H Q ->
  ∃ T id,typeLookup (.type T) "__getitem__" = pure (some (.builtin id))/\s.TypeIs v T/\wpAny (model X.prog X.w) X.A (getItem v (.ref sl)) (EP X pins σ Q) X.xe s
def tSl (r:V->Option Int->Option Int->Hp->VK->Prop) (te:TE) (tl th:TO):TE:=fun σ H Q=>te σ H fun x H1=>tl σ H1 fun l H2=>th σ H2 fun u H3=>r x l u H3 Q
theorem zj8 (hr:SlR X r) (he:PE X e te) (hl:PO X lo tl) (hu:PO X hi th):PE X (.Subscript e (.Slice lo hi none p2) pos) (tSl r te tl th):=by
 intro pins s σ H Q I h
 refine Subscript_ (thn (he pins s σ H _ I h) fun v s1 ⟨x,H1,I1,r1,q1⟩=>?_)
 refine wpAny_Slice (thn (hl pins s1 σ H1 _ I1 q1) fun vl s2 ⟨l,H2,I2,pl,q2⟩=>thn (hu pins s2 σ H2 _ I2 q2) fun vu s3 ⟨u,H3,I3,pu,q3⟩=>?_)
 rw[evalPart_none]
 refine wpAny_pure ?_
 have I4:Inv X pins σ H3 { s3 with heap:=s3.heap.push { cls:=.type "slice", data:=.fields #[vl,vu,.none] } }:=I3.kept (t':=s3.toks) fun b ob q=>ydm _ q
 obtain ⟨T,id,hT,ht,hg⟩:=hr pins { s3 with heap:=s3.heap.push { cls:=.type "slice", data:=.fields #[vl,vu,.none] } } σ H3 x v vl vu l u s3.heap.objs.size Q I4 r1 (Heap.IsSliceOf.new ..) pl pu q3
 show wpAny (model X.prog X.w) X.A (subscriptTail e (.Slice lo hi none p2) v (.ref s3.heap.objs.size)) (EP X pins σ Q) X.xe { s3 with heap:=s3.heap.push { cls:=.type "slice", data:=.fields #[vl,vu,.none] } }
 exact tail_any (ops:=[.ref s3.heap.objs.size,v]) ht hT hg (by with_unfolding_all rfl)
noncomputable def zeN (xs:List V) (lo hi:Option Int):List V:=(xs.drop (HT.sIx xs.length 0 lo)).take (HT.sIx xs.length xs.length hi-HT.sIx xs.length 0 lo)
theorem zmF (xs:List V) (lo hi:Option Int):(zeN xs lo hi).length<=xs.length:=by
 unfold zeN
 rw[yaz,ycp]
 ac_rfl
noncomputable def zzK (K:W.Frag):V->Option Int->Option Int->Hp->VK->Prop:=fun x lo hi H Q=>∃ a xs,x=.ref a/\SqT K H a xs /\
 ¬ (HT.sIx xs.length 0 lo=0/\HT.sIx xs.length xs.length hi=xs.length)/\∀ p,H p=none->Q (.ref p) (upd H p (.tup (zeN xs lo hi)))
theorem zyv:SlR X (zzK X.K):=by
 intro pins s σ H x v vl vu lo hi sl Q I rx hs pl pu h
 obtain ⟨a,xs,rfl,hx,hw,q⟩:=h
 cases rx
 obtain ⟨its,r,ht,hz⟩:=I.tuple hx
 have hlen:its.toArray.size=xs.length:=by rw[yak];exact r.length.symm
 refine ⟨"tuple", _,PyProof.Rows.slot_tuple_getitem.lookup,ht.typeIs,?_⟩
 refine HT.zms ht hs pl pu (by rw[hlen];exact hw) ?_ (by rw[hlen];exact hz)
 rw[hlen]
 refine ⟨.ref s.heap.objs.size,_,I.laid (t':=s.toks) (o:=.tup (zeN xs lo hi)) (fun b ob q=>ydm _ q) (ycx _) ?_,rfl,q _ (I.hok.fresh (ycx _))⟩
 exact ⟨ydc (zmF xs lo hi) hz,_,(r.drop (HT.sIx xs.length 0 lo)).take (HT.sIx xs.length xs.length hi-HT.sIx xs.length 0 lo),IsTup.new _ _⟩
end
noncomputable def ixN (n:Nat) (i:Int):Option Nat:=if 0<=i then (if i<n then some i.toNat else none) else if -(n:Int)<=i then some (i+n).toNat else none
noncomputable def atI {α:Type} (xs:List α) (i:Int):Option α:=(ixN xs.length i).bind fun j=>xs[j]?
theorem ztx (h:ixN n i=some j):seqIndex? i n=some j/\j<n /\ -(n:Int)<=i/\i<n:=by
 unfold ixN at h
 by_cases h0:0<=i
 ·rw[if_pos h0] at h
  by_cases h1:i<n
  ·rw[if_pos h1] at h
   have e:i.toNat=j:=Option.some.inj h
   exact ⟨by rw[seqIndex_of h0 h1,e],by ac_rfl,by ac_rfl,h1⟩
  ·rw[if_neg h1] at h;cases h
 ·rw[if_neg h0] at h
  by_cases h1:-(n:Int)<=i
  ·rw[if_pos h1] at h
   have e:(i+n).toNat=j:=Option.some.inj h
   exact ⟨by rw[seqIndex_neg (by ac_rfl) h1,e],by ac_rfl,h1,by ac_rfl⟩
  ·rw[if_neg h1] at h;cases h
theorem ztF (h:atI xs i=some v):∃ j,seqIndex? i xs.length=some j/\xs[j]?=some v/\j<xs.length /\ -(xs.length:Int)<=i/\i<xs.length:=by
 unfold atI at h
 cases e:ixN xs.length i with
 | none=>rw[e] at h;cases h
 | some j =>
  rw[e] at h
  obtain ⟨h1,h2,h3,h4⟩:=ztx e
  exact ⟨j,h1,h,h2,h3,h4⟩
theorem zaw {α:Type} {xs:List α} {j:Nat} {v:α} (h:xs[j]?=some v):atI xs (j:Int)=some v:=by
 have hj:j<xs.length:=(yac.mp h).1
 have e:ixN xs.length (j:Int)=some j:=by
  unfold ixN
  rw[if_pos (by ac_rfl),if_pos (by ac_rfl)];simp
 unfold atI;rw[e];exact h
theorem zwI (xs:List α) (v:α):atI (xs++[v]) (-1)=some v:=by
 have hl:(xs++[v]).length=xs.length+1:=by simp
 have e:ixN (xs++[v]).length (-1)=some xs.length:=by
  unfold ixN
  rw[hl,if_neg (by decide),if_pos (by ac_rfl)]
  congr 1
  ac_rfl
 unfold atI
 rw[e]
 show (xs++[v])[xs.length]?=some v
 simp
def zw6 (b:Expr):Prop:=∀ o i,subscripted b false o i=operate [o,i] (getItem o i)
def IxR (X:Cx) (r:R2):Prop :=
 ∀ (value slice:Expr) (pins:List (Addr × Obj)) (s:Shared) (σ:St) (H:Hp) (x y:V) (v u:Value) (Q:VK),Inv X pins σ H s->RelV x v->RelV y u->r x y H Q ->
  subscripted slice false v u=operate [v,u] (getItem v u)->wpAny (model X.prog X.w) X.A (subscriptTail value slice v u) (EP X pins σ Q) X.xe s
def MtR (X:Cx) (id:String) (r:V->List V->Hp->VK->Prop):Prop :=
 ∀ (pins:List (Addr × Obj)) (s:Shared) (σ:St) (H:Hp) (x:V) (xs:List V) (v:Value) (us:List Value) (Q:VK),Inv X pins σ H s->RelV x v->Vals xs us->r x xs H Q ->
  wpAny (model X.prog X.w) X.A (call (.builtin id) (v::us)) (EP X pins σ Q) X.xe s
section
variable {X:Cx} {a b:Expr} {ta tb:TE} {pos:Pos}
theorem zv (hr:IxR X r) (ha:PE X a ta) (hb:PE X b tb) (hs:zw6 b):PE X (.Subscript a b pos) (tOp r ta tb):=by
 intro pins s σ H Q I h
 exact Subscript_ (zv3 ha hb I h fun v u s2 x y H2 I2 rx ry q=>hr a b pins s2 σ H2 x y v u Q I2 rx ry q (hs _ _))
def zyG (K:W.Frag):R2:=fun x y H Q=>∃ p xs i v,x=.ref p/\y=.int i/\SqL K H p xs/\atI xs i=some v/\Q v H
def zyJ (K:W.Frag):R2:=fun x y H Q=>∃ p xs i v,x=.ref p/\y=.int i/\SqT K H p xs/\atI xs i=some v/\Q v H
theorem zD:IxR X (zyG X.K):=by
 intro value slice pins s σ H x y v u Q I rx ry h hs
 obtain ⟨p,xs,i,z,rfl,rfl,hq,he,q⟩:=h
 cases rx
 obtain ⟨t,rfl⟩:=ry
 obtain ⟨its,r,pl,hz⟩:=I.list hq
 obtain ⟨j,h1,h2,h3,h4,h5⟩:=ztF he
 obtain ⟨w,ew,rw'⟩:=r.get h2
 have hl:=r.length
 have hn:=znK
 have fin:EP X pins σ Q w s:=⟨z,H,I,rw',q⟩
 by_cases h0:0<=i
 ·have hj:i.toNat=j:=by
   rw[seqIndex_of h0 h5] at h1
   exact Option.some.inj h1
  exact item_listR pl.isList h0 (by ac_rfl) (by rw[hj];simpa using ew) fin hs
 ·have hj:(i+(its.toArray.size:Int)).toNat=j:=by
   rw[seqIndex_neg (by ac_rfl) h4] at h1
   rw[yak,<-hl]
   exact Option.some.inj h1
  exact subscriptTail_builtinR (x:=w) pl.isList.typeIs slot_list_getitem.lookup
   (wpAny_getItem_list_neg (Q:=fun r s'=>r=w/\EP X pins σ Q r s') pl.isList (by ac_rfl) (by rw[yak] <;> ac_rfl) (by ac_rfl) (by rw[hj];simpa using ew) ⟨rfl,fin⟩) hs
theorem zam:IxR X (zyJ X.K):=by
 intro value slice pins s σ H x y v u Q I rx ry h hs
 obtain ⟨p,xs,i,z,rfl,rfl,hq,he,q⟩:=h
 cases rx
 obtain ⟨t,rfl⟩:=ry
 obtain ⟨its,r,pl,hz⟩:=I.tuple hq
 obtain ⟨j,h1,h2,h3,h4,h5⟩:=ztF he
 obtain ⟨w,ew,rw'⟩:=r.get h2
 have hl:=r.length
 have hn:=znK
 have fin:EP X pins σ Q w s:=⟨z,H,I,rw',q⟩
 exact subscriptTail_builtinR (x:=w) pl.typeIs slot_tuple_getitem.lookup
  (getItem_tuple (j:=j) (Q:=fun r s'=>r=w/\EP X pins σ Q r s') pl (by ac_rfl) (by ac_rfl) (by rw[yak,<-hl];exact h1) (by simpa using ew) ⟨rfl,fin⟩) hs
theorem ztO (its:List Value) (n j:Nat) (u:Value):Obj.mapSeq (·.setIfInBounds j u) { cls:=.type "list", data:=.seq its.toArray n }={ cls:=.type "list", data:=.seq (its.set j u).toArray n }:=by
 simp[Obj.mapSeq]
theorem Inv.lst (I:Inv X pins σ H s) (h:H p=some (.lst xs)) :
  ∃ (its:List Value) (n:Nat),Vals xs its/\s.heap.get? p=some { cls:=.type "list", data:=.seq its.toArray n }/\xs.length<=sizeLine:=by
 obtain ⟨z,its,n,r,e⟩:=I.hok p _ h
 exact ⟨its,n,r,e,z⟩
theorem Inv.zyF {pins:List (Addr × Obj)} {σ:St} {H:Hp} {s:Shared} {p:Addr} {xs ys:List V} {its its':List Value} {n n':Nat} {f:Obj->Obj} (I:Inv X pins σ H s) (h:H p=some (.lst xs))
  (ho:s.heap.get? p=some { cls:=.type "list", data:=.seq its.toArray n }) (hf:f { cls:=.type "list", data:=.seq its.toArray n }={ cls:=.type "list", data:=.seq its'.toArray n' }) (r:Vals ys its') (hz:ys.length<=sizeLine) (t:Nat) :
  Inv X pins σ (upd H p (.lst ys)) { s with heap:=s.heap.update p f,toks:=t }:=by
 have e:(s.heap.update p f).get? p=some { cls:=.type "list", data:=.seq its'.toArray n' }:=by
  rw[ydr f ho (by rw[hf] <;> rfl),hf]
 refine I.write (x:=p) (e:=p) (by rw[h];trivial) (.inl rfl) (fun b u hb q=>(Heap.get?_update_other _ _ (Ne.symm hb)).trans q) ⟨_,e⟩ ?_
 exact ⟨hz,its',n',r,e⟩
noncomputable def zzj:V->V->V->Hp->(Hp->Prop)->Prop:=fun o i v H Q=>∃ p xs k j,o=.ref p/\i=.int k/\H p=some (.lst xs)/\ixN xs.length k=some j/\Q (upd H p (.lst (xs.set j v)))
theorem set_list:PSet X zzj:=by
 intro pins s σ H o i v ov iv u Q I ro ri rv h
 obtain ⟨p,xs,k,j,rfl,rfl,hp,hj,q⟩:=h
 cases ro
 obtain ⟨t,rfl⟩:=ri
 obtain ⟨its,n,r,ho,hz⟩:=I.lst hp
 obtain ⟨h1,h2,h3,h4⟩:=ztx hj
 have hl:=r.length
 have hn:=znK
 have I':Inv X pins σ (upd H p (.lst (xs.set j v))) { s with heap:=s.heap.update p (Obj.mapSeq (·.setIfInBounds j u)) } :=
  I.zyF hp ho (ztO its n j u) (r.set rv j) (by rw[List.length_set];exact hz) s.toks
 by_cases h0:0<=k
 ·have hk:k.toNat=j:=by
   rw[seqIndex_of h0 h4] at h1
   exact Option.some.inj h1
  exact PySem.W.ki_setAt ho h0 (by ac_rfl) (by rw[yak,<-hl];exact h4) (by rw[hk];exact ⟨_,I',q⟩)
 ·have hk:(k+(its.toArray.size:Int)).toNat=j:=by
   rw[seqIndex_neg (by ac_rfl) h3] at h1
   rw[yak,<-hl]
   exact Option.some.inj h1
  exact PySem.W.ki_setBack ho (by ac_rfl) (by rw[yak,<-hl];exact h3) (by ac_rfl) (by rw[hk];exact ⟨_,I',q⟩)
theorem zqR (lo hi:Option Int) (n:Nat):(sliceBounds lo hi none n).1=((HT.sIx n 0 lo:Nat):Int)/\(sliceBounds lo hi none n).2.1=((HT.sIx n n hi:Nat):Int)/\(sliceBounds lo hi none n).2.2=1:=by
 refine ⟨?_,?_,rfl⟩
 ·cases lo with
  | none=>simp[sliceBounds,HT.sIx]
  | some i =>
   simp only[sliceBounds,HT.sIx,Option.getD_none,show (1:Int) > 0 by decide,if_true]
   by_cases h:i<0
   ·simp only[h,if_true] <;> ac_rfl
   ·simp only[h,if_false] <;> ac_rfl
 ·cases hi with
  | none=>simp[sliceBounds,HT.sIx]
  | some i =>
   simp only[sliceBounds,HT.sIx,Option.getD_none,show (1:Int) > 0 by decide,if_true]
   by_cases h:i<0
   ·simp only[h,if_true] <;> ac_rfl
   ·simp only[h,if_false] <;> ac_rfl
theorem zpN (its:List Value) (lo hi:Option Int):slicePick its.toArray lo hi none=((its.drop (HT.sIx its.length 0 lo)).take (HT.sIx its.length its.length hi-HT.sIx its.length 0 lo)).toArray:=by
 obtain ⟨h1,h2,h3⟩:=zqR lo hi its.toArray.size
 unfold slicePick
 rw[h1,h2,h3]
 simp only[sliceRange_one,pick_run,yak] <;> rfl
noncomputable def zzC (K:W.Frag):V->Option Int->Option Int->Hp->VK->Prop:=fun x lo hi H Q=>∃ a xs,x=.ref a/\SqL K H a xs/\∀ p,H p=none->Q (.ref p) (upd H p (.lst (zeN xs lo hi)))
theorem zoQ:SlR X (zzC X.K):=by
 intro pins s σ H x v vl vu lo hi sl Q I rx hs pl pu h
 obtain ⟨a,xs,rfl,hx,q⟩:=h
 cases rx
 obtain ⟨its,r,ht,hz⟩:=I.list hx
 have hlen:=r.length
 refine ⟨"list", _,slot_list_getitem.lookup,ht.isList.typeIs,?_⟩
 refine wpAny_getItem_list_slice ht.isList hs pl pu .none (by simp) ?_ (by rw[yak] <;> ac_rfl)
 rw[zpN,<-hlen]
 refine ⟨.ref s.heap.objs.size,_,I.laid (t':=s.toks) (o:=.lst (zeN xs lo hi)) (fun b ob q=>ydm _ q) (ycx _) ?_,rfl,q _ (I.hok.fresh (ycx _))⟩
 exact ⟨ydc (zmF xs lo hi) hz,_,0,(r.drop (HT.sIx xs.length 0 lo)).take (HT.sIx xs.length xs.length hi-HT.sIx xs.length 0 lo),ydo _ rfl⟩
noncomputable def zgG:V->Bool
 | .non=>true
 | .bl _=>true
 | .int _=>true
 | .str _=>true
 | _=>false
noncomputable def eqV:V->V->Bool
 | .non,.non=>true
 | .bl a,.bl b=>a == b
 | .bl a,.int b=>(if a then 1 else 0) == b
 | .int a,.bl b=>a == (if b then 1 else 0)
 | .int a,.int b=>a == b
 | .str a,.str b=>a == b
 | _,_=>false
theorem zye (ry:RelV y u) (rx:RelV x v) (fy:zgG y=true) (fx:zgG x=true):SeqAt.EqAt A s u v (eqV y x):=by
 cases y with
 | non =>
  cases ry
  cases x with
  | non=>cases rx;exact SeqAt.EqAt.same _
  | bl b=>cases rx;exact SeqAt.EqAt.none_bool b
  | int b=>obtain ⟨t,rfl⟩:=rx;exact SeqAt.EqAt.none_int b t
  | str b=>obtain ⟨t,rfl⟩:=rx;exact SeqAt.EqAt.none_str b t
  | _=>exact absurd (show false=true from fx) Bool.false_ne_true
 | bl a =>
  cases ry
  cases x with
  | non=>cases rx;exact SeqAt.EqAt.bool_none a
  | bl b=>cases rx;exact SeqAt.EqAt.bool_bool a b
  | int b=>obtain ⟨t,rfl⟩:=rx;exact SeqAt.EqAt.bool_int a b t
  | str b=>obtain ⟨t,rfl⟩:=rx;exact SeqAt.EqAt.bool_str a b t
  | _=>exact absurd (show false=true from fx) Bool.false_ne_true
 | int a =>
  obtain ⟨t',rfl⟩:=ry
  cases x with
  | non=>cases rx;exact SeqAt.EqAt.int_none a t'
  | bl b=>cases rx;exact SeqAt.EqAt.int_bool a t' b
  | int b=>obtain ⟨t,rfl⟩:=rx;exact SeqAt.EqAt.int_int a t' b t
  | str b=>obtain ⟨t,rfl⟩:=rx;exact SeqAt.EqAt.int_str a t' b t
  | _=>exact absurd (show false=true from fx) Bool.false_ne_true
 | str a =>
  obtain ⟨t',rfl⟩:=ry
  cases x with
  | non=>cases rx;exact SeqAt.EqAt.str_none a t'
  | bl b=>cases rx;exact SeqAt.EqAt.str_bool a t' b
  | int b=>obtain ⟨t,rfl⟩:=rx;exact SeqAt.EqAt.str_int a t' b t
  | str b=>obtain ⟨t,rfl⟩:=rx;exact SeqAt.EqAt.str_str a t' b t
  | _=>exact absurd (show false=true from fx) Bool.false_ne_true
 | _=>exact absurd (show false=true from fy) Bool.false_ne_true
def eqU (x:V) (u:Value):Bool:=match u with
 | .none=>eqV .non x
 | .bool b=>eqV (.bl b) x
 | .int i _=>eqV (.int i) x
 | .str z _=>eqV (.str z) x
 | _=>false
theorem zvf (r:RelV y u) (f:zgG y=true):eqU x u=eqV y x:=by
 cases y with
 | non=>cases r;rfl
 | bl b=>cases r;rfl
 | int i=>obtain ⟨t,rfl⟩:=r;rfl
 | str z=>obtain ⟨t,rfl⟩:=r;rfl
 | _=>exact absurd (show false=true from f) Bool.false_ne_true
theorem zoJ:∀ {xs:List V} {us:List Value},Vals xs us->xs.all zgG=true->us.any (eqU x)=xs.any fun y=>eqV y x
 | _,_,.nil,_=>rfl
 | y::xs,u::us,.cons r t,f=>by
  rw[List.all_cons,Bool.and_eq_true] at f
  rw[ycj,ycj,zvf r f.1,zoJ t f.2]
theorem zmY (rx:RelV x v) (fx:zgG x=true):∀ {xs:List V} {us:List Value},Vals xs us->xs.all zgG=true->∀ u∈us,SeqAt.EqAt A s u v (eqU x u)
 | _,_,.nil,_=>fun u hu=>by cases hu
 | y::xs,u::us,.cons r t,f=>fun u' hu=>by
  rw[List.all_cons,Bool.and_eq_true] at f
  rcases yal.mp hu with rfl | hu
  ·rw[zvf r f.1];exact zye r rx f.1 fx
  ·exact zmY rx fx t f.2 u' hu
def inV (x:V) (xs:List V):Bool:=xs.any fun y=>eqV y x
def rIn (K:W.Frag) (neg:Bool):R2:=fun x y H Q=>∃ p xs,y=.ref p/\(SqL K H p xs\/SqT K H p xs)/\zgG x=true/\xs.all zgG=true/\Q (.bl (if neg then !inV x xs else inV x xs)) H
theorem zic:OpR X (compareOp .In) (rIn X.K false):=by
 intro pins s σ H x y v u Q I rx ry h
 obtain ⟨p,xs,rfl,hq,fx,fs,q⟩:=h
 cases ry
 rcases hq with hq | hq
 ·obtain ⟨its,r,pl,hz⟩:=I.list hq
  refine SeqAt.in_listAt (eqU x) pl.isList (fun w hw=>zmY rx fx r fs w (by simpa using hw)) ⟨.bl _,H,I,rfl,?_⟩
  rw[show its.toArray.any (eqU x)=its.any (eqU x) by simp,zoJ r fs]
  exact q
 ·obtain ⟨its,r,pl,hz⟩:=I.tuple hq
  refine SeqAt.in_tupleAt (eqU x) pl (fun w hw=>zmY rx fx r fs w (by simpa using hw)) ⟨.bl _,H,I,rfl,?_⟩
  rw[show its.toArray.any (eqU x)=its.any (eqU x) by simp,zoJ r fs]
  exact q
theorem zan:zbG X (.builtin "len") (fun xs H Q=>∃ p ys,xs=[.ref p]/\(SqL X.K H p ys\/SqT X.K H p ys)/\Q (.int ys.length) H):=by
 intro pins s σ H xs us Q I r h
 obtain ⟨p,ys,rfl,hq,q⟩:=h
 obtain ⟨u,rfl,rx⟩:=vals1 r
 cases rx
 have hn:=znK
 rcases hq with hq | hq
 ·obtain ⟨its,r',pl,hz⟩:=I.list hq
  have hlen:=r'.length
  exact Calls.call_len_list pl.isList (by simp only[yak] <;> ac_rfl) ⟨.int ys.length,H,I.tok _,⟨s.toks+1,by rw[yak,hlen]⟩,q⟩
 ·obtain ⟨its,r',pl,hz⟩:=I.tuple hq
  have hlen:=r'.length
  exact len_tuple pl (by simp only[yak] <;> ac_rfl) ⟨.int ys.length,H,I.tok _,⟨s.toks+1,by rw[yak,hlen]⟩,q⟩
theorem zaM:zbG X (.type "list") (fun xs H Q=>∃ p ys,xs=[.ref p]/\(SqL X.K H p ys\/SqT X.K H p ys)/\∀ l,H l=none->Q (.ref l) (upd H l (.lst ys))):=by
 intro pins s σ H xs us Q I r h
 obtain ⟨p,ys,rfl,hq,q⟩:=h
 obtain ⟨u,rfl,rx⟩:=vals1 r
 cases rx
 have fin:∀ (its:List Value),Vals ys its->ys.length<=sizeLine->∀ (h':Heap) (c':Nat),(∀ b o',s.heap.get? b=some o'->h'.get? b=some o') ->
   h'.get? s.heap.objs.size=some { cls:=.type "list", dict:=none,data:=.seq its.toArray c',slots:=#[] }->EP X pins σ Q (.ref s.heap.objs.size) { s with heap:=h' }:=fun its r' hz h' c' kp e =>
  ⟨.ref s.heap.objs.size,_,I.laid (t':=s.toks) kp (ycx _) (show zar X.prog X.w _ h' _ (.lst ys) from ⟨hz,its,c',r',e⟩),rfl,q _ (I.hok.fresh (ycx _))⟩
 rcases hq with hq | hq
 ·obtain ⟨its,r',pl,hz⟩:=I.list hq
  have hlen:=r'.length
  obtain ⟨o,ho,hc,n,hd⟩:=pl.isList
  exact call_list_seq p (.inl rfl) ho hc hd (fun h' c' kp e=>fin its r' hz h' c' kp e) (by simp only[yak] <;> ac_rfl)
 ·obtain ⟨its,r',pl,hz⟩:=I.tuple hq
  have hlen:=r'.length
  obtain ⟨o,ho,hc,n,hd⟩:=pl
  exact call_list_seq p (.inr rfl) ho hc hd (fun h' c' kp e=>fin its r' hz h' c' kp e) (by simp only[yak] <;> ac_rfl)
def tyV (K:W.Frag) (T:String) (x:V) (H:Hp):Prop:=match x with
 | .str _=>T = "str"
 | .int _=>T = "int"
 | .ref p=>(T = "list" /\ ∃ xs,SqL K H p xs)\/(T = "tuple" /\ ∃ o,K.lookup p=some o/\o.cls=.type "tuple" /\ o.dict=none) \/
   (T = "dict" /\ ∃ kvs,H p=some (.dK kvs))\/(T = "set" /\ ∃ S n,H p=some (.set S n))
 | _=>False
theorem zvq (I:Inv X pins σ H s) (r:RelV x v) (ty:tyV X.K T x H) :
  s.TypeIs v T/\∀ a,v=.ref a->∃ ob,s.heap.get? a=some ob/\ob.dict=none:=by
 cases x with
 | str z =>
  obtain ⟨t,rfl⟩:=r
  cases (show T = "str" from ty)
  exact ⟨typeIs_str s z t,fun _ e=>nomatch e⟩
 | int i =>
  obtain ⟨t,rfl⟩:=r
  cases (show T = "int" from ty)
  exact ⟨typeIs_int s i t,fun _ e=>nomatch e⟩
 | ref p =>
  cases r
  rcases ty with ⟨rfl,xs,hq⟩ | ⟨rfl,o,hk,hc,hd⟩ | ⟨rfl,hk⟩ | ⟨rfl,S,n,hk⟩
  ·obtain ⟨its,_,pl,_⟩:=I.list hq
   refine ⟨pl.isList.typeIs,fun a e=>?_⟩
   cases e
   obtain ⟨o,n,e,c,hd,_⟩:=pl
   exact ⟨o,e,hd⟩
  ·refine ⟨⟨o,I.kIn p o hk,hc⟩,fun a e=>?_⟩
   cases e
   exact ⟨o,I.kIn _ o hk,hd⟩
  ·have z:∃ o,s.heap.get? p=some o/\o.ExactDict:=by
    obtain ⟨kvs,hk⟩:=hk
    obtain ⟨_,_,_,_,o,_,_,e,ex,_⟩:=I.hok p _ hk
    exact ⟨o,e,ex⟩
   obtain ⟨o,e,ex⟩:=z
   refine ⟨⟨o,e,ex.1⟩,fun a e2=>?_⟩
   cases e2
   exact ⟨o,e,ex.2.1⟩
  ·obtain ⟨o,_,_,_,e,ex,_⟩:=I.hok p _ hk
   refine ⟨⟨o,e,ex.1⟩,fun a e2=>?_⟩
   cases e2
   exact ⟨o,e,ex.2.1⟩
 | _=>exact False.elim ty
def zzE (K:W.Frag) (T:String) (r:V->List V->Hp->VK->Prop) (to:TE):TE:=fun σ H Q=>to σ H fun x H1=>tyV K T x H1/\r x [] H1 Q
def tBM (K:W.Frag) (T:String) (r:V->List V->Hp->VK->Prop) (to:TE) (t:TA):TE:=fun σ H Q=>to σ H fun x H1=>tyV K T x H1/\t σ H1 fun xs H2=>r x xs H2 Q
variable {o e:Expr} {es:List Expr} {to:TE} {t:TA} {name:Str} {apos cpos:Pos} {T id:String} {r:V->List V->Hp->VK->Prop}
theorem zyf (pa:PlainAttrs T) (slot:Slot T name id) (hty:typeOf (.builtin id)=pure (.type "method_descriptor")) (hm:MtR X id r) (ho:PE X o to)
  (hbase:attributeBase o name X.env (eval o X.env)=eval o X.env:=by rfl) (hline:(apos.endLine == cpos.line)=true:=by rfl):PE X (.Call (.Attribute o name apos) [] [] cpos) (zzE X.K T r to):=by
 intro pins s σ H Q I h
 refine wpAny_Call_method0_late hbase hline (thn (ho pins s σ H _ I h) fun v s1 ⟨x,H1,I1,r1,ty,q1⟩=>?_)
 obtain ⟨h1,h2⟩:=zvq I1 r1 ty
 exact ⟨T,id,pa,slot,hty,h1,h2,Calls.callWith_builtin rfl (PySem.evalArgs_none (hm pins s1 σ H1 x [] v [] Q I1 r1 .nil q1))⟩
theorem zcn (pa:PlainAttrs T) (slot:Slot T name id) (hty:typeOf (.builtin id)=pure (.type "method_descriptor")) (hm:MtR X id r) (ho:PE X o to) (ha:PA X (e::es) t)
  (hbase:attributeBase o name X.env (eval o X.env)=eval o X.env:=by rfl)
  (hfew:((backTo cpos (starEach (e::es) X.env)).all (fun x=>!x.1) && (backToKw cpos (keywordEach [] X.env)).all (fun x=>x.1.isSome)
   && decide ((e::es).length+([]:List Keyword).length+(if ([]:List Keyword).isEmpty then 0 else 1)<30))=true:=by rfl)
  (hline:(apos.endLine == cpos.line)=true:=by rfl) (hs:starEach (e::es) X.env=(false,eval e X.env)::starEach es X.env:=by rfl) (hplain:(backTo cpos (starEach es X.env)).any (·.1)=false:=by rfl) :
  PE X (.Call (.Attribute o name apos) (e::es) [] cpos) (tBM X.K T r to t):=by
 intro pins s σ H Q I h
 refine wpAny_Call_method_late hbase hfew hline rfl (thn (ho pins s σ H _ I h) fun v s1 ⟨x,H1,I1,r1,ty,q1⟩=>?_)
 obtain ⟨h1,h2⟩:=zvq I1 r1 ty
 refine ⟨T,id,pa,slot,hty,h1,h2,?_⟩
 have hA:=ha cpos pins s1 σ H1 _ I1 q1
 rw[hs] at hA ⊢
 refine Calls.callWith_builtin (by show (false || (backTo cpos (starEach es X.env)).any (·.1))=false;rw[hplain] <;> rfl) (Calls.evalArgs_plain ?_)
 exact thn hA fun us s2 ⟨vs,H2,I2,r2,q2⟩=>hm pins s2 σ H2 x vs v us Q I2 r1 r2 q2
/- xs.append(e),list.index on a module's tuple .. are MtR facts of 06m -/
end
def MtM (X:Cx) (id:String) (r:V->List V->Hp->VK->Prop):Prop :=
 ∀ (pins:List (Addr × Obj)) (s:Shared) (σ:St) (H:Hp) (x:V) (xs:List V) (v:Value) (us:List Value) (Q:VK),Inv X pins σ H s->RelV x v->Vals xs us->r x xs H Q ->
  wpAny (model X.prog X.w) X.A (call (.builtin id) (v::us)) (EP X pins σ Q) X.xe s
theorem Vals.one:∀ {x:V} {us:List Value},Vals [x] us->∃ u,us=[u]/\RelV x u
 | _,_,.cons r .nil=>⟨_,rfl,r⟩
theorem Vals.zero:∀ {us:List Value},Vals [] us->us=[]
 | _,.nil=>rfl
theorem Vals.rep (h:Vals xs us):∀ k:Nat,Vals (yat k xs).flatten (yat k us).flatten
 | 0=>.nil
 | k+1=>by
  rw[ybt,ybt,yck,yck]
  exact Vals.append h (Vals.rep h k)
theorem foldl_rep (its:List Value):∀ (k:Nat) (acc:List Value),
  List.foldl (fun x1 x2=>x1++x2) acc.toArray (yat k its.toArray)=(acc++(yat k its).flatten).toArray
 | 0,acc=>by simp
 | k+1,acc=>by
  have e:acc.toArray++its.toArray=(acc++its).toArray:=by simp
  have e2:(acc++its)++(yat k its).flatten=acc++(yat (k+1) its).flatten:=by
   rw[ybt,yck,yct]
  rw[<-e2,<-foldl_rep its k (acc++its),<-e,ybt,ybx]
section
variable {X:Cx} {pins:List (Addr × Obj)} {σ:St} {H:Hp} {s:Shared} {l b:Addr} {xs ys zs:List V}
theorem Inv.lset {its its':List Value} {n:Nat} {f:Array Value->Array Value} {t':Nat} (I:Inv X pins σ H s) (hH:H l=some (.lst xs))
  (e:s.heap.get? l=some { cls:=.type "list", data:=.seq its.toArray n }) (hf:f its.toArray=its'.toArray) (hv:Vals ys its') (hz:ys.length<=sizeLine) :
  Inv X pins σ (upd H l (.lst ys)) { s with heap:=s.heap.update l (Obj.mapSeq f),toks:=t' }:=by
 have q:=PySem.IsL.update e f
 rw[hf] at q
 refine I.write (x:=l) (e:=l) (by rw[hH];exact trivial) (.inl rfl) (fun b' u hb hu=>(Heap.get?_update_other s.heap (Obj.mapSeq f) (Ne.symm hb)).trans hu) ⟨_,q⟩ ?_
 exact ⟨hz,its',_,hv,q⟩
theorem Inv.lnew (I:Inv X pins σ H s) (hv:Vals ys its) (hz:ys.length<=sizeLine) :
  Inv X pins σ (upd H s.heap.objs.size (.lst ys)) { s with heap:=s.heap.push { cls:=.type "list", data:=.seq its.toArray },toks:=t' } :=
 I.laid (fun _ _ q=>ydm _ q) (ycx _) ⟨hz,its,0,hv,ydo _ rfl⟩
theorem Inv.fresh (I:Inv X pins σ H s):H s.heap.objs.size=none:=I.hok.fresh (ycx _)
theorem Inv.zlF (I:Inv X pins σ H s) (hH:H l=some (.lst xs)):xs.length<=sizeLine/\∃ (its:List Value) (n:Nat),Vals xs its/\xs.length=its.length/\s.heap.get? l=some { cls:=.type "list", data:=.seq its.toArray n }:=by
 obtain ⟨z,its,n,r,e⟩:=I.hok l _ hH
 exact ⟨z,its,n,r,r.length,e⟩
theorem zm9 (h:n<=sizeLine):Builtin.List.listTooLong n=false:=by
 unfold Builtin.List.listTooLong
 exact decide_eq_false (by ac_rfl)
end
section
variable {X:Cx}
noncomputable def zxS:V->List V->Hp->VK->Prop:=fun x vs H Q=>∃ l xs y,x=.ref l/\vs=[y]/\H l=some (.lst xs)/\xs.length<sizeLine/\Q .non (upd H l (.lst (xs++[y])))
theorem zaJ:MtM X "list.append" zxS:=by
 intro pins s σ H x vs v us Q I rx rv h
 obtain ⟨l,xs,y,rfl,rfl,hH,hz,q⟩:=h
 cases rx
 obtain ⟨u,rfl,ru⟩:=rv.one
 obtain ⟨z,its,n,r,hl,e⟩:=I.zlF hH
 refine call_meets F.slot_list_append ⟨_,e,rfl⟩ F.entry_list_append (F.args_list_append_2 _ _) (PySem.list_append l its.toArray n u (by rw[yak];ac_rfl)) ⟨e,?_⟩
 refine ⟨.non,_,I.lset (its':=its++[u]) hH e (by simp) (r.append (.cons ru .nil)) ?_,rfl,q⟩
 rw[yaf,ybu]
 ac_rfl
noncomputable def zxl:V->List V->Hp->VK->Prop:=fun x vs H Q=>∃ l b xs zs,x=.ref l/\vs=[.ref b]/\H l=some (.lst xs)/\H b=some (.lst zs)/\xs.length+zs.length<=sizeLine/\Q .non (upd H l (.lst (xs++zs)))
theorem zpm:MtM X "list.extend" zxl:=by
 intro pins s σ H x vs v us Q I rx rv h
 obtain ⟨l,b,xs,zs,rfl,rfl,hH,hB,hz,q⟩:=h
 cases rx
 obtain ⟨u,rfl,ru⟩:=rv.one
 cases ru
 obtain ⟨z,its,n,r,hl,e⟩:=I.zlF hH
 obtain ⟨z2,its2,n2,r2,hl2,e2⟩:=I.zlF hB
 have hsz:its.toArray.size+its2.toArray.size<=sizeLine:=by rw[yak,yak];ac_rfl
 have hlong:¬ (!its.toArray.isEmpty && Builtin.List.listTooLong (its.toArray.size+its2.toArray.size))=true:=by
  rw[zm9 hsz,Bool.and_false]
  exact Bool.false_ne_true
 refine call_meets F.slot_list_extend ⟨_,e,rfl⟩ F.entry_list_extend (F.args_list_extend_2 _ _)
  (AutoSeq1.list_extend_list_list_0 l its.toArray n b its2.toArray n2 hlong (by rw[yak];ac_rfl) (by ac_rfl)) ⟨e,e2,?_⟩
 refine ⟨.non,_,I.lset (its':=its++its2) hH e (by simp) (r.append r2) ?_,rfl,q⟩
 rw[yaf]
 ac_rfl
noncomputable def zx4:V->List V->Hp->VK->Prop:=fun x vs H Q=>∃ l xs,x=.ref l/\vs=[]/\H l=some (.lst xs)/\Q .non (upd H l (.lst []))
theorem zwh:MtM X "list.clear" zx4:=by
 intro pins s σ H x vs v us Q I rx rv h
 obtain ⟨l,xs,rfl,rfl,hH,q⟩:=h
 cases rx
 have hus:=rv.zero
 subst hus
 obtain ⟨z,its,n,r,hl,e⟩:=I.zlF hH
 refine call_meets F.slot_list_clear ⟨_,e,rfl⟩ F.entry_list_clear (F.args_list_clear_1 _) (AutoSeq1.list_clear_list_0 l its.toArray n (by rw[yak];ac_rfl)) ⟨e,?_⟩
 exact ⟨.non,_,I.lset (its':=[]) (ys:=[]) hH e rfl .nil (yda _),rfl,q⟩
def zzN:R2:=fun x y H Q=>∃ l b xs zs,x=.ref l/\y=.ref b/\H l=some (.lst xs)/\H b=some (.lst zs)/\xs.length+zs.length<=sizeLine/\∀ p,H p=none->Q (.ref p) (upd H p (.lst (xs++zs)))
theorem zeb:OpR X (binaryOp .Add) zzN:=by
 intro pins s σ H x y v u Q I rx ry h
 obtain ⟨l,b,xs,zs,rfl,rfl,hH,hB,hz,q⟩:=h
 cases rx
 cases ry
 obtain ⟨z,its,n,r,hl,e⟩:=I.zlF hH
 obtain ⟨z2,its2,n2,r2,hl2,e2⟩:=I.zlF hB
 refine PySem.P.add_list e e2 ?_ (by rw[yak,yak];ac_rfl)
 have ea:its.toArray++its2.toArray=(its++its2).toArray:=by simp
 rw[ea]
 exact ⟨.ref _,_,I.lnew (t':=s.toks) (r.append r2) (by rw[yaf];ac_rfl),rfl,q _ I.fresh⟩
def zz4:R2:=fun x y H Q=>∃ l k xs,x=.ref l/\y=.int k/\H l=some (.lst xs) /\ -(2 ^ 63)<=k/\k<2 ^ 63/\xs.length*k.toNat<=sizeLine /\
 ∀ p,H p=none->Q (.ref p) (upd H p (.lst (yat k.toNat xs).flatten))
theorem len_rep (xs:List α) (k:Nat):(yat k xs).flatten.length=k*xs.length:=by
 induction k with
 | zero=>simp
 | succ k ih=>rw[ybt,yck,yaf,ih,Nat.succ_mul,Nat.add_comm]
theorem zyD:OpR X (binaryOp .Mult) zz4:=by
 intro pins s σ H x y v u Q I rx ry h
 obtain ⟨l,k,xs,rfl,rfl,hH,h1,h2,hz,q⟩:=h
 cases rx
 obtain ⟨t,rfl⟩:=ry
 obtain ⟨z,its,n,r,hl,e⟩:=I.zlF hH
 have hlen:its.toArray.size*k.toNat<=sizeLine:=by rw[yak,<-hl];exact hz
 have hcap:¬ its.toArray.size*k.toNat > (2 ^ 63-1) / 8:=by
  have:(sizeLine:Nat)<=(2 ^ 63-1) / 8:=by decide
  ac_rfl
 have hfit:¬ (!Builtin.List.listFitsIndex k)=true:=by
  rw[fitsIndex_both h1 h2]
  exact Bool.false_ne_true
 have hlong:¬ Builtin.List.listTooLong (its.toArray.size*k.toNat)=true:=by
  rw[zm9 hlen]
  exact Bool.false_ne_true
 have hnew:List.foldl (fun x1 x2=>x1++x2) #[] (yat (if its.toArray.isEmpty=true then 0 else k.toNat) its.toArray)=(yat k.toNat its).flatten.toArray:=by
  have f0:∀ m:Nat,List.foldl (fun x1 x2=>x1++x2) #[] (yat m its.toArray)=(yat m its).flatten.toArray:=fun m=>by
   have:=foldl_rep its m []
   rw[List.nil_append] at this
   exact this
  rw[f0]
  cases its with
  | nil=>simp
  | cons a r'=>rw[if_neg (by simp)]
 refine wpAny_binaryOp_repeat_ref (T:="list") (U:="int") (by decide) ⟨_,e,rfl⟩ (fun s'=>typeIs_int s' k t) noFill_list_mul F.fills_int_mul F.slot_int_rmul repeat_list F.slot_int_index.lookup
  (call_meets F.slot_int_rmul (typeIs_int s k t) F.entry_int_rmul (F.args_int_rmul_2 _ _) (int___rmul___int_list k t l its.toArray n)
   ⟨e,rfl,⟨_,e,rfl⟩,call_meets F.slot_list_mul ⟨_,e,rfl⟩ F.entry_list_mul (F.args_list_mul_2 _ _) (AutoListH.list___mul___list_int_3 l its.toArray n k t hfit hcap hlong) ⟨e,?_⟩⟩)
 rw[hnew]
 exact ⟨.ref _,_,I.lnew (t':=s.toks) (r.rep k.toNat) (by rw[len_rep,Nat.mul_comm];exact hz),rfl,q _ I.fresh⟩
end
section
variable {prog:Program} {w:World} {A:Around} {E:Value->Shared->Prop} {s:Shared}
set_option maxRecDepth 100000 in
end
section
variable {X:Cx}
end
end L2
namespace Att
open PySem PySem.W PySem.Calls PyProof.Rows
theorem znL:∀ (ns:List Int) (vs:List Value),WellAll P h vs (ns.map WData.int)->IntsAre vs ns:=by
 intro ns
 induction ns with
 | nil =>
  intro vs w
  rw[List.map_nil] at w
  cases w
  exact .nil
 | cons n ns ih =>
  intro vs w
  rw[ybm] at w
  cases w with
  | cons a b =>
   cases a
   exact .cons _ _ (ih _ b)
theorem zvk {l:OpenLaw} {n:Nat} (hn:l.most=some n) {P:Params} {h:Heap} {args:List WData} {vals:List Value}
  (hpre:l.row.toRowW.claim.pre args=true) (hwl:WellAll P h vals args) :
  ∃ a vs ns,vals=[Value.ref a]/\args=[WData.list (ns.map WData.int)]/\h.get? a=some { cls:=.type "list", data:=.seq vs.toArray }/\IntsAre vs ns/\ns.length<=n:=by
 have hsh:WShape.hasAll [] args [.list .int]=true:=(pre_splitW hpre).1
 have hc:l.pre.holds [] { args:=args }=true:=(pre_splitW hpre).2
 obtain ⟨d,r,rfl,h1,h2⟩:=hasAllW_cons hsh
 obtain rfl:=hasAllW_nil h2
 obtain ⟨xs,rfl,h3⟩:=hasW_list h1
 obtain ⟨ns,rfl⟩:=items_int h3
 have hlen:ns.length<=n:=by
  unfold OpenLaw.pre at hc
  have h4:(WTm.not (.lt (.lit (.int (n:Int))) (.len (.arg 0)))).holds [] { args:=[.list (ns.map .int)] }=true:=by
   have h4:=(holds_andW hc).1
   rw[hn] at h4
   exact h4
  have h5:=condW_of h4 (w_not (w_lt w_lit (w_len_list (w_arg rfl))))
  rw[yab] at h5
  refine Nat.le_of_not_lt fun q=>?_
  have q':(n:Int)<((ns.length:Nat):Int):=by ac_rfl
  first
   | (rw[decide_eq_true q'] at h5;exact absurd h5 (by decide))
   | (simp at h5;ac_rfl)
 cases hwl with
 | cons w1 w2 =>
  cases w2
  cases w1 with
  | list ho hall=>exact ⟨_,_,ns,rfl,rfl,ho,znL ns _ hall,hlen⟩
theorem zuA (l:OpenLaw) (args:List WData):l.row.toRowW.claim.post args (.bool true) args=true :=
 postW_of (r:=l.row.toRowW) (X:=(true == true))
  (show WShape.has [] (.bool true) .bool=true by first | rfl | decide | simp[WShape.has,WShape.arms,WShape.armsAll])
  (show (WTm.eq .res (.lit (.bool true))).value [] { args:=args,res:=some (.bool true),after:=args }=some (.bool (true == true)) from w_eq_bool (w_res rfl) w_lit) rfl
theorem zsV {l:OpenLaw} {n:Nat} {q:Program} {loose:List Str} {XP:(Str->Option Value)->Heap->Prop} {YP:World->Heap->Prop} {d:DefRec}
  (hn:l.most=some n) (hdf:d.params.defaults=[])
  (call:∀ (w:World) (s₀ s₁:Shared) (mg mb:Str->Option Value) (fa:Addr) (o:Obj) (pm cd doc:Value) (a:Addr) (vs:List Value) (ns:List Int),
   Ground q loose [] XP w s₀ mg mb s₁.heap->YP w s₁.heap ->
   s₁.heap.get? fa=some o->o.data=.func (docDef d.name d.params d.body d.scope pm cd doc)->s₁.heap.CodeRec cd d.name->mg d.name=some (.ref fa) ->
   s₁.heap.get? a=some { cls:=.type "list", data:=.seq vs.toArray }->IntsAre vs ns->ns.length<=n->s₁.gens=#[] ->
   codeAny (model l.prog w) callerA (.call (.ref fa) ⟨[.ref a],[]⟩) (fun r s'=>r=.ok (.ret (.bool true))/\OldK s₁.heap s'.heap/\s'.os=s₁.os/\AllBare s'.gens) s₁) :
  WalkO q loose XP YP l.row.toRowW d [] (fun f vs=>PySem.call f vs):=by
 intro w s₀ s₁ mg mb G Y fa o pm cd doc dV kV ho hd hcd hD hmg hg args vals as hpre hlay hrd hwl hlo
 obtain rfl:dV=.none:=Dflts.none hD hdf
 obtain rfl:kV=.none:=Dflts.noKw hD
 obtain ⟨a,vs,ns,rfl,rfl,hobj,hints,hlen⟩:=zvk hn hpre hwl
 refine enter_call (codeAny_mono (call w s₀ s₁ mg mb fa o pm cd doc a vs ns G Y ho (fd_plain hd) hcd hmg hobj hints hlen hg) fun r s' hq=>?_)
 obtain ⟨rfl,h2,h3,h4⟩:=hq
 exact ⟨.inl ⟨.bool true,.bool true,[],rfl,fun _=>rfl,.bool true,zuA l _,fun _=>⟨List.Pairwise.nil,fun _ hm=>(nomatch hm)⟩⟩,h2,h3,h4⟩
section
variable {prog:Program} {w:World} {A:Around} {E:Value->Shared->Prop} {s:Shared} {K:Frag}
noncomputable def ledger (h:Heap) (L d:Addr):List (Addr × Obj):=(yba h.objs.size).filterMap fun a=>if a=L\/a=d then none else (h.get? a).map fun o=>(a,o)
end
end Att
namespace L2
open PySem PySem.Spec PyProof.Rows
theorem ziq:∀ {vs:List Value} {ns:List Int},IntsAre vs ns->Vals (ns.map V.int) vs
 | _,_,.nil=>.nil
 | _,_,.cons n t h=>.cons ⟨t,rfl⟩ (ziq h)
def Only (H:Hp):Prop:=∀ b,H b=none\/∃ o xs,H b=some (.frz o (.lst xs))
theorem zwp {P:Program} {w:World} {K:W.Frag} {mg mb:Str->Option Value} {CX:CXT} {k:Nat} {fa a:Addr} {fd:FuncData} {x:Str} {sp:Sp} {s₁:Shared} {vs:List Value} {ns:List Int}
  (KX:K.In s₁.heap) (hns:s₁.heap.Ns mainGlobals mg) (hb:s₁.heap.Ns builtinsNs mb) (hbb:∀ x:Str,x ≠ "__name__" -> mb x=bootBuiltins x) (hlim:s₁.heap.NoLimit) (hg:s₁.gens=#[])
  (ha:s₁.heap.get? a=some { cls:=.type "list", data:=.seq vs.toArray }) (hi:IntsAre vs ns) (hl:ns.length<=sizeLine) (hr:Room k callerA)
  (F:∀ base:Heap,K.In base->base.Ns mainGlobals mg->zcC P w K mg base CX k fa fd [x] sp) (hbind:∀ (s:Shared) (u:Value),BindsTo s fd ⟨[u],[]⟩ [(x,u)])
  (hsp:∀ H:Hp,Only H->SqL K H a (ns.map V.int)->sp [.ref a] H (fun v _=>v=.bl true) fun _ _ _=>False)
  (hCX:∀ H e s',CX [] H s₁ (fun _ _ _=>False) e s'->False) :
  codeAny (model P w) callerA (.call (.ref fa) ⟨[.ref a],[]⟩) (fun r s'=>r=.ok (.ret (.bool true))/\OldK s₁.heap s'.heap/\s'.os=s₁.os/\AllBare s'.gens) s₁:=by
 have rv:=ziq hi
 have lenV:=hi.length
 have core:∀ H:Hp,Only H->SqL K H a (ns.map V.int)->HOk P w H s₁.heap->(∀ b,H b≠none->b=a)->(H a≠none->K.lookup a=none) ->
   codeAny (model P w) callerA (.call (.ref fa) ⟨[.ref a],[]⟩) (fun r s'=>r=.ok (.ret (.bool true))/\OldK s₁.heap s'.heap/\s'.os=s₁.os/\AllBare s'.gens) s₁:=by
  intro H hO hS hok hA hK
  have base_of:∀ {b:Addr} {o:Obj},s₁.heap.get? b=some o->H b=none->(zkd s₁.heap H).get? b=some o:=fun e n=>zww e n
  have noA:∀ {b:Addr} {o:Obj} {es:Array DictEntry} {ep:Nat},s₁.heap.get? b=some o->o.data=.dict es ep->H b=none:=fun {b o es ep} e d=>by
   cases q:H b with
   | none=>rfl
   | some u =>
    have e':b=a:=hA b (by rw[q];simp)
    subst e'
    rw[ha] at e;cases e
    have d':Data.seq vs.toArray _=Data.dict es ep:=d
    cases d'
  have nsK:∀ {b:Addr} {m:Str->Option Value},s₁.heap.Ns b m->(zkd s₁.heap H).Ns b m:=fun {b m} ⟨o,es,ep,e,d,r⟩=>⟨o,es,ep,base_of e (noA e d),d,r⟩
  have hKb:K.In (zkd s₁.heap H):=fun b o e=>base_of (KX b o e) (by
   cases q:H b with
   | none=>rfl
   | some u =>
    have e':b=a:=hA b (by rw[q];simp)
    subst e'
    rw[hK (by rw[q];simp)] at e;cases e)
  have hM:Mod K mg (zkd s₁.heap H):=⟨hKb,nsK hns,⟨mb,nsK hb,hbb⟩,let ⟨mc,h1,h2⟩:=hlim;⟨mc,nsK h1,h2⟩⟩
  have e0:zmW P w K mg (zkd s₁.heap H) callerA [] s₁ H:=⟨rfl,hM,fun b o e=>zxK e,Nat.le_of_eq (zvb _ _),trivial,fun b hb=>absurd (show b∈([]:List Addr) from hb) (by simp),hok,.of_eq hg⟩
  refine codeAny_mono ((F _ hKb (nsK hns)).run callerA [] s₁ H ⟨[.ref a],[]⟩ [.ref a] [.ref a] _ _ hr e0 (hbind s₁ (.ref a)) (.cons rfl .nil) (hsp H hO hS)) fun r s' h=>?_
  cases r with
  | error e=>exact (hCX H e s' h).elim
  | ok fl =>
   cases fl with
   | next=>exact False.elim h
   | brk=>exact False.elim h
   | cont=>exact False.elim h
   | ret u =>
    obtain ⟨v,H',os,bare,un,hok',r',q⟩:=h
    have q':v=.bl true:=q
    subst q'
    obtain rfl:u=Value.bool true:=r'
    refine ⟨rfl,OldK.of_keep fun b o e=>?_,os,bare⟩
    cases q:H b with
    | none=>exact un.keep b o e q (by intro z;exact absurd (show b∈([]:List Addr) from z) (by simp)) (by simp)
    | some u =>
     rcases hO b with z | ⟨ob,xs,z⟩
     ·rw[q] at z;cases z
     ·have z2:=un.frzs b ob _ z
      obtain ⟨e1,_⟩:=hok b _ z
      obtain ⟨e2,_⟩:=hok' b _ z2
      rw[e] at e1;cases e1
      exact e2
 cases hk:K.lookup a with
 | some o =>
  have e:=KX a o hk
  rw[ha] at e
  cases e
  refine core (fun _=>none) (fun _=>.inl rfl) (.inr ⟨_,vs.toArray,_,hk,rfl,rfl,rfl,by rw[yak,lenV];exact hl,by simpa using rv⟩) (fun b u z=>by have z':(none:Option HO)=some u:=z;cases z') (fun b z=>absurd rfl z) fun z=>absurd rfl z
 | none =>
  refine core (fun b=>if b=a then some (.frz { cls:=.type "list", data:=.seq vs.toArray } (.lst (ns.map V.int))) else none) (fun b=>?_) (.inl (.inr ⟨{ cls:=.type "list", data:=.seq vs.toArray },if_pos rfl⟩)) (fun b u z=>?_) (fun b z=>?_) fun _=>hk
  ·by_cases hb:b=a
   ·exact .inr ⟨_,_,if_pos hb⟩
   ·exact .inl (if_neg hb)
  ·by_cases hb:b=a
   ·have z':=(if_pos hb).symm.trans z
    cases z'
    subst hb
    exact ⟨ha,by rw[yab];exact hl,vs,_,rv,ha⟩
   ·have z':=(if_neg hb).symm.trans z
    cases z'
  ·by_cases hb:b=a
   ·exact hb
   ·exact absurd (if_neg hb) z
theorem zxL {l:PySem.W.OpenLaw} {n k:Nat} {q:Program} {loose:List Str} {XP:(Str->Option Value)->Heap->Prop} {YP:World->Heap->Prop} {d:DefRec} {K:Params->W.Frag} {CX:World->CXT} {sp:World->Sp} {x:Str}
  (hn:l.most=some n) (hn2:n<=sizeLine) (hdf:d.params.defaults=[]) (hr:Room k callerA)
  (hY:∀ (w:World) (h:Heap),YP w h->(K w.params).In h)
  (F:∀ (w:World) (mg:Str->Option Value) (fa:Addr) (h:Heap),(K w.params).In h->h.Ns mainGlobals mg->mg d.name=some (.ref fa) ->
   ∃ fd:FuncData,(∀ (s:Shared) (u:Value),BindsTo s fd ⟨[u],[]⟩ [(x,u)]) /\
    ∀ base:Heap,(K w.params).In base->base.Ns mainGlobals mg->zcC l.prog w (K w.params) mg base (CX w) k fa fd [x] (sp w))
  (hsp:∀ (w:World) (H:Hp) (a:Addr) (ns:List Int),ns.length<=n->Only H->SqL (K w.params) H a (ns.map V.int)->sp w [.ref a] H (fun v _=>v=.bl true) fun _ _ _=>False)
  (hCX:∀ (w:World) (H:Hp) (s:Shared) (e:Value) (s':Shared),CX w [] H s (fun _ _ _=>False) e s'->False) :
  PySem.W.WalkO q loose XP YP l.row.toRowW d [] (fun f vs=>PySem.call f vs):=by
 refine Att.zsV hn hdf fun w s₀ s₁ mg mb fa o pm cd doc a vs ns G Y ho hd hcd hmg hobj hints hlen hg=>?_
 have KX:=hY w _ Y
 obtain ⟨fd,hb,hF⟩:=F w mg fa _ KX G.T.g hmg
 exact zwp KX G.T.g G.T.b G.T.builtins G.T.nolimit hg hobj hints (ydc hlen hn2) hr hF hb (fun H hO hS=>hsp w H a ns hlen hO hS) fun H e s'=>hCX w H s₁ e s'
noncomputable def inClass (s:Stmt) (j:Nat):Stmt:=match s with
 | .ClassDef _ _ _ body _ _ _ _ _ _ _=>body.getD j (.Pass ⟨0,0,0,0⟩)
 | _=>.Pass ⟨0,0,0,0⟩
noncomputable def zdf (s:Stmt):Arguments:=match s with
 | .FunctionDef _ a _ _ _ _ _ _ _ _=>a
 | _=>{ posonlyargs:=[],args:=[],vararg:=none,kwonlyargs:=[],kw_defaults:=[],kwarg:=none,defaults:=[] }
noncomputable def za8 (s:Stmt):List Stmt:=match s with
 | .FunctionDef _ _ b _ _ _ _ _ _ _=>b
 | _=>[]
noncomputable def zg (s:Stmt):Scope:=match s with
 | .FunctionDef _ _ _ _ _ _ sc _ _ _=>sc
 | _=>{ kind:=.function,names:=[],isGenerator:=false,isCoroutine:=false }
noncomputable abbrev CX0:CXT:=fun _ _ _ _ _ _=>False
noncomputable abbrev E0:XK:=fun _ _ _=>False
theorem zir:Passes CX0 X E0:=fun _ _ _ _ _ _ _ h=>h.elim
structure Fun (K:W.Frag) (x qual:Str) (st:Stmt) (f:Addr) (fd:FuncData):Prop where
 ex:∃ (oc:Value) (od:Option Addr) (kV doc pm:Value) (an:Option Addr) (cdv ct:Value) (osl:Array (Option Value)),
  fd=PySem.W.fnOf x qual (zdf st) (za8 st) (zg st) .none kV doc pm an cdv ct/\K.lookup f=some ⟨oc,od,.func fd,osl⟩/\PySem.W.codeIn K cdv qual=true
 kp:PySem.W.keepIn K (.ref f)=true
section
variable {P:Program} {w:World} {K:W.Frag} {mg:Str->Option Value} {base:Heap}
theorem Fun.ok {x qual:Str} {st:Stmt} {f:Addr} {fd:FuncData} {N ps:List Str} {k:Nat} {sp:Sp} (F:Fun K x qual st f fd) (S:zk N ps (zg st)) (len:∀ vs H Q E,sp vs H Q E->vs.length=ps.length)
  (hbody:∀ (cdv:Value) (A:Around) (outer:List Env) (s:Shared) (H:Hp) (vs:List V) (Q:VK) (E:XK),Room k (A.deeper (envOfC qual (zg st) s.heap.objs.size f cdv))->sp vs H Q E ->
   ∃ t,PSs (zg8 CX0 P w K mg base N qual (zg st) f cdv A outer s H E).nox (za8 st) t/\t { nx:=fun _ H'=>Q .non H',rt:=Q } (start N vs) H):zcC P w K mg base CX0 (k+1) f fd ps sp:=by
 obtain ⟨oc,od,kV,doc,pm,an,cdv,ct,osl,rfl,lk,hcd⟩:=F.ex
 refine zyW lk hcd S len fun A outer s H vs Q E hr hsp=>?_
 obtain ⟨t,h,q⟩:=hbody cdv A outer s H vs Q E hr hsp
 exact ⟨t,h.nox,q⟩
theorem zr2 {x qual:Str} {st:Stmt} {f:Addr} {oc:Value} {od an:Option Addr} {osl:Array (Option Value)} {kV doc pm cdv ct:Value} (l:K.lookup f=some ⟨oc,od,.func (PySem.W.fnOf x qual (zdf st) (za8 st) (zg st) .none kV doc pm an cdv ct),osl⟩)
  (c:PySem.W.codeIn K cdv qual=true) (k:PySem.W.keepIn K (.ref f)=true):Fun K x qual st f (PySem.W.fnOf x qual (zdf st) (za8 st) (zg st) .none kV doc pm an cdv ct):=⟨⟨oc,od,kV,doc,pm,an,cdv,ct,osl,rfl,l,c⟩,k⟩
end
section
variable {X:Cx}
theorem pv (i:Nat) (hN:X.N[i]?=some x:=by rfl) (hv:Vis X.env.scope x:=by first | exact Or.inl rfl | exact Or.inr (Or.inl rfl) | exact Or.inr (Or.inr rfl)) (hd:(x == ("__debug__" : Str))=false:=by decide)
  (hcd:(x == ("__classdict__" : Str))=false:=by decide):PE X (.Name x pos) (zyz i):=zx3 hN hv hd hcd
end
theorem zyP {A B:Prop} (h:B):if false=true then A else B:=by
 rw[if_neg Bool.false_ne_true]
 exact h
theorem zzO {A B:Prop} (h:A):if true=true then A else B:=by
 rw[if_pos rfl]
 exact h
def Same (H H':Hp):Prop:=∀ b o,H b=some o->H' b=some o
theorem Same.refl (H:Hp):Same H H:=fun _ _ h=>h
theorem Same.trans (a:Same H H1) (b:Same H1 H2):Same H H2:=fun c o h=>b c o (a c o h)
theorem Same.seq {K:W.Frag} {H H':Hp} {a:Addr} {xs:List V} (e:Same H H') (h:SqL K H a xs):SqL K H' a xs:=by
 rcases h with (h | ⟨o,h⟩) | h
 ·exact .inl (.inl (e _ _ h))
 ·exact .inl (.inr ⟨o,e _ _ h⟩)
 ·exact .inr h
theorem zar.swap (x:zar P w H h a o) (y:zar P w H' h' a o):zar P w H h' a o:=by
 induction o with
 | ins C dx fs=>exact ⟨x.1,y.2⟩
 | frz ob u ih=>exact ⟨y.1,ih x.2 y.2⟩
 | _=>exact y
theorem HOk.forget (a:HOk P w H h) (b:HOk P w H' h') (s:Same H H'):HOk P w H h':=fun x o e=>(a x o e).swap (b x o (s x o e))
theorem Un.forget (u:Un fs ex H H' h h'):Un fs ex H H h h' :=
 ⟨u.keep,u.slot,fun _ _ _ n _=>n,u.there,fun _ _ q=>q,fun _ _ _ q=>q,fun b ps q=>⟨#[],by rw[q];simp⟩⟩
theorem zcC.forget {P:Program} {w:World} {K:W.Frag} {mg:Str->Option Value} {base:Heap} {CX:CXT} {k:Nat} {f:Addr} {fd:FuncData} {ps:List Str} {sp sp':Sp} (F:zcC P w K mg base CX k f fd ps sp)
  (h:∀ vs H Q E,sp' vs H Q E->sp vs H (fun v H'=>Same H H'/\Q v H) E):zcC P w K mg base CX k f fd ps sp' where
 len:=fun vs H Q E q=>F.len _ _ _ _ (h _ _ _ _ q)
 run:=fun A outer s H args us vs Q E hr e0 hb hv hs=>by
  refine codeAny_mono (F.run A outer s H args us vs _ E hr e0 hb hv (h _ _ _ _ hs)) fun r s' q=>?_
  cases r with
  | error e=>exact q
  | ok fl =>
   cases fl with
   | ret u =>
    obtain ⟨v,H',os,bare,un,hok,rv,sm,qv⟩:=q
    exact ⟨v,H,os,bare,un.forget,e0.hok.forget hok sm,rv,qv⟩
   | next=>exact q
   | brk=>exact q
   | cont=>exact q
structure Src (K:W.Frag) (mg:Str->Option Value) (x:Str) (st:Stmt) (ps:List Str):Prop where
 ex:∃ (f:Addr) (fd:FuncData),Fun K x x st f fd/\mg x=some (.ref f)/\∀ us:List Value,us.length=ps.length->bindArgs fd ⟨us,[]⟩=pure (ps.zip us)
structure Def (P:Program) (w:World) (K:W.Frag) (mg:Str->Option Value) (base:Heap) (k:Nat) (x:Str) (ps:List Str) (sp:Sp):Prop where
 ex:∃ (f:Addr) (fd:FuncData),zcC P w K mg base CX0 k f fd ps sp/\mg x=some (.ref f)/\PySem.W.keepIn K (.ref f)=true/\(∀ us:List Value,us.length=ps.length->bindArgs fd ⟨us,[]⟩=pure (ps.zip us)) /\
  ∃ o,K.lookup f=some o/\o.data=.func fd
section
variable {P:Program} {w:World} {K:W.Frag} {mg:Str->Option Value} {base:Heap} {x:Str} {st:Stmt} {N ps:List Str} {k:Nat} {sp:Sp}
theorem Src.ok (S:Src K mg x st ps) (sc:zk N ps (zg st)) (len:∀ vs H Q E,sp vs H Q E->vs.length=ps.length)
  (hbody:∀ (f:Addr) (cdv:Value) (A:Around) (outer:List Env) (s:Shared) (H:Hp) (vs:List V) (Q:VK) (E:XK),Room k (A.deeper (envOfC x (zg st) s.heap.objs.size f cdv))->sp vs H Q E ->
   ∃ t,PSs (zg8 CX0 P w K mg base N x (zg st) f cdv A outer s H E).nox (za8 st) t/\t { nx:=fun _ H'=>Q .non H',rt:=Q } (start N vs) H):Def P w K mg base (k+1) x ps sp:=by
 obtain ⟨f,fd,F,hm,hb⟩:=S.ex
 refine ⟨f,fd,F.ok sc len (fun cdv=>hbody f cdv),hm,F.kp,hb,?_⟩
 obtain ⟨oc,od,kV,doc,pm,an,cdv,ct,osl,e,lk,hcd⟩:=F.ex
 exact ⟨_,lk,rfl⟩
theorem Src.okF (S:Src K mg x st ps) (sc:zk N ps (zg st)) (len:∀ vs H Q E,sp vs H Q E->vs.length=ps.length)
  (hbody:∀ (f:Addr) (cdv:Value) (A:Around) (outer:List Env) (s:Shared) (H:Hp) (vs:List V) (Q:VK) (E:XK),Room k (A.deeper (envOfC x (zg st) s.heap.objs.size f cdv))->sp vs H Q E ->
   ∃ t,PSs (zg8 CX0 P w K mg base N x (zg st) f cdv A outer s H E).nox (za8 st) t/\t { nx:=fun _ H'=>Same H H'/\Q .non H,rt:=fun v H'=>Same H H'/\Q v H } (start N vs) H):Def P w K mg base (k+1) x ps sp:=by
 obtain ⟨f,fd,F,hm,hb⟩:=S.ex
 have G:zcC P w K mg base CX0 (k+1) f fd ps (fun vs H R E=>∃ Q,sp vs H Q E/\R=fun v H'=>Same H H'/\Q v H) :=
  F.ok sc (fun vs H R E ⟨Q,h,_⟩=>len vs H Q E h) fun cdv A outer s H vs R E hr ⟨Q,h,e⟩=>by
   subst e
   exact hbody f cdv A outer s H vs Q E hr h
 refine ⟨f,fd,G.forget fun vs H Q E h=>⟨Q,h,rfl⟩,hm,F.kp,hb,?_⟩
 obtain ⟨oc,od,kV,doc,pm,an,cdv,ct,osl,e,lk,hcd⟩:=F.ex
 exact ⟨_,lk,rfl⟩
theorem zC (X:K.In h) (G:h.Ns mainGlobals mg) (a:PySem.W.nsIn K mainGlobals x=some (some (.ref f)))
  (l:K.lookup f=some ⟨oc,od,.func (PySem.W.fnOf x x (zdf st) (za8 st) (zg st) .none kV doc pm an cdv ct),osl⟩) (c:PySem.W.codeIn K cdv x=true) (k:PySem.W.keepIn K (.ref f)=true)
  (hb:∀ us:List Value,us.length=ps.length->bindArgs (PySem.W.fnOf x x (zdf st) (za8 st) (zg st) .none kV doc pm an cdv ct) ⟨us,[]⟩=pure (ps.zip us)):Src K mg x st ps :=
 ⟨f,_,zr2 l c k,PySem.W.mg_of X G a,hb⟩
theorem zd1 (X:K.In h) (G:h.Ns mainGlobals mg) (a:PySem.W.nsIn K mainGlobals x=some (some (.int i t))):∃ t,mg x=some (.int i t):=⟨t,PySem.W.mg_of X G a⟩
theorem zxr (X:K.In h) (G:h.Ns mainGlobals mg) (a:PySem.W.nsIn K mainGlobals x=some (some (.ref p)))
  (l:K.lookup p=some ⟨.type "tuple", od,.seq its n,sl⟩) (r:Vals xs its.toList) (z:its.size<=sizeLine):∃ a,mg x=some (.ref a)/\∀ H,SqT K H a xs :=
 ⟨p,PySem.W.mg_of X G a,fun H=>.inr ⟨_,its,n,l,rfl,rfl,z,r⟩⟩
end
theorem zwf {l:PySem.W.OpenLaw} {lv:Nat} {q:Program} {loose:List Str} {XP:(Str->Option Value)->Heap->Prop} {YP:World->Heap->Prop} {d:DefRec} {K:Params->W.Frag} {sp:W.Frag->Sp} {x:Str} {st:Stmt}
  (hn:l.most=some 63) (hdf:d.params.defaults=[]) (hnm:d.name = "law") (hr:Room lv callerA)
  (hY:∀ (w:World) (h:Heap),YP w h->(K w.params).In h)
  (F:∀ (w:World) (mg:Str->Option Value) (h:Heap),(K w.params).In h->h.Ns mainGlobals mg ->
   Src (K w.params) mg "law" st [x]/\∀ base:Heap,Def l.prog w (K w.params) mg base lv "law" [x] (sp (K w.params)))
  (hsp:∀ (K:W.Frag) (H:Hp) (a:Addr) (ns:List Int),ns.length<=63->SqL K H a (ns.map V.int)->sp K [.ref a] H (fun v _=>v=.bl true) fun _ _ _=>False) :
  PySem.W.WalkO q loose XP YP l.row.toRowW d [] (fun f vs=>PySem.call f vs):=by
 refine L2.zxL (n:=63) (k:=lv) (x:=x) (CX:=fun _=>CX0) (sp:=fun w=>sp (K w.params)) hn (by decide) hdf hr hY ?_ (fun w H a ns h1 h2 h3=>hsp (K w.params) H a ns h1 h3) fun _ _ _ _ _ z=>z
 intro w mg fa h KX G hmg
 obtain ⟨S,D⟩:=F w mg h KX G
 obtain ⟨f,fd,Fn,hm,hb⟩:=S.ex
 obtain ⟨oc,od,kV,doc,pm,an,cdv,ct,osl,e,lk,hcd⟩:=Fn.ex
 refine ⟨fd,fun s u=>.of_eq (hb [u] rfl),fun base _ _=>?_⟩
 obtain ⟨f',fd',ok,hm',_,_,o,lk',ho⟩:=(D base).ex
 rw[hnm,hm] at hmg
 rw[hm] at hm'
 cases hmg
 cases hm'
 rw[lk] at lk'
 cases lk'
 cases ho
 exact ok
section
variable {X:Cx} {x:Str} {p pos:Pos} {e:Expr} {es:List Expr} {t:TA} {j k:Nat} {ps:List Str} {sp:Sp}
theorem zt (D:Def X.prog X.w X.K X.mg X.base j x ps sp) (hr:Room k X.A) (ha:PA X (e::es) t) (hg:Gl X x:=by rfl) (hj:j<=k:=by decide) (hdb:(x == ("__debug__" : Str))=false:=by decide)
  (he:starEach (e::es) X.env=(false,eval e X.env)::starEach es X.env:=by rfl) (hpl:(backTo pos (starEach es X.env)).any (·.1)=false:=by rfl) :
  PE X (.Call (.Name x p) (e::es) [] pos) (zt1 sp [] E0 t):=by
 obtain ⟨f,fd,F,hm,hk,hb,_⟩:=D.ex
 exact zxB F (hr.mono hj) hg hm hk (.all hb) .nil zir ha hdb he hpl
theorem zbJ (h:∃ t,X.mg x=some (.int i t)) (hg:Gl X x:=by rfl) (hd:(x == ("__debug__" : Str))=false:=by decide):PE X (.Name x pos) (tC (.int i)):=by
 obtain ⟨t,h⟩:=h
 exact zgT hg h ⟨t,rfl⟩ hd
def tGT (K:W.Frag) (xs:List V):TE:=fun _ H Q=>∀ a,(∀ H,SqT K H a xs)->Q (.ref a) H
theorem zxk (h:∃ a,X.mg x=some (.ref a)/\∀ H,SqT X.K H a xs) (hg:Gl X x:=by rfl) (hd:(x == ("__debug__" : Str))=false:=by decide):PE X (.Name x pos) (tGT X.K xs):=by
 obtain ⟨a,h,hs⟩:=h
 intro pins s σ H Q I hq
 exact zgT (v:=.ref a) hg h rfl hd pins s σ H Q I (hq a hs)
theorem zi5:zbG X (.builtin "isinstance") (fun xs H Q=>∃ x t n b,xs=[x,.ty n]/\zcG X.K H x t/\PySem.W.kitOne X.K t (.type n)=some b/\Q (.bl b) H):=by
 intro pins s σ H xs us Q I r h
 obtain ⟨x,t,n,b,rfl,ty,e,q⟩:=h
 obtain ⟨u,w',rfl,rx,rn⟩:=vals2 r
 cases rn
 exact zpp I rx ty e fun tk=>⟨.bl b,H,I.tok tk,rfl,q⟩
end
theorem ifI {a b:Int} {A B:Prop} (h1:a=b->A) (h2:¬ a=b->B):if decide (V.int a=V.int b)=true then A else B:=by
 by_cases h:a=b
 ·rw[if_pos (by rw[h];simp)];exact h1 h
 ·rw[if_neg (by simpa using h)];exact h2 h
theorem zzZ {a b:Int} {A B:Prop} (h1:¬ a=b->A) (h2:a=b->B):if (!decide (V.int a=V.int b))=true then A else B:=by
 by_cases h:a=b
 ·rw[if_neg (by rw[h];simp)];exact h2 h
 ·rw[if_pos (by simpa using h)];exact h1 h
theorem ifD {p A B:Prop} [Decidable p] (h1:p->A) (h2:¬ p->B):if decide p=true then A else B:=by
 by_cases h:p
 ·rw[if_pos (by simpa using h)];exact h1 h
 ·rw[if_neg (by simpa using h)];exact h2 h
theorem ifB {c:Bool} {A B:Prop} (h1:c=true->A) (h2:c=false->B):if c=true then A else B:=by
 cases c with
 | true=>rw[if_pos rfl];exact h1 rfl
 | false=>rw[if_neg Bool.false_ne_true];exact h2 rfl
theorem dI:decide (V.int a=V.int b)=decide (a=b):=by
 by_cases h:a=b <;> simp[h]
def zzA (t:TS):TS:=fun D σ H=>∃ Mid:St->Hp->Prop,t { D with nx:=Mid } σ H/\∀ σ' H',Mid σ' H'->D.nx σ' H'
theorem zrG {X:Cx} {st:Stmt} {t:TS} (h:PS X st t):PS X st (zzA t):=by
 intro pins s σ H D I ⟨Mid,hq,hm⟩
 refine thn (h pins s σ H _ I hq) fun f s' q=>?_
 cases f with
 | next =>
  obtain ⟨σ',H',I',q⟩:=q
  exact ⟨σ',H',I',hm σ' H' q⟩
 | ret v=>exact q
 | brk=>exact q
 | cont=>exact q
theorem ty_int {K:W.Frag} {H:Hp} {x:V} (h:zcG K H x (.type "int")):∃ i,x=.int i:=by
 generalize e:Value.type "int" = t at h
 cases h with
 | int i=>exact ⟨i,rfl⟩
 | ins=>cases e
 | _=>injection e with e;exact absurd e (by decide)
theorem zyM {K:W.Frag} {H:Hp} {i:Int} {T:String} (h:zcG K H (.int i) (.type T)):T = "int" := by
 cases h
 rfl
theorem noE (h:wpAny M A t Q (fun _ _=>False) s):wpAny M A t Q E s:=wpAny_mono h (fun _ _ q=>q) fun _ _ z=>z.elim
section
variable {prog:Program} {w:World} {A:Around} {R:Result->Shared->Prop} {s:Shared}
theorem zuF (I:Nat->Shared->Prop)
  (turn:∀ n s,I n s->wpAny (model prog w) A (pyNext it) (fun r s₁=>match r with
   | none=>R (.ok .next) s₁
   | some v=>wpAny (model prog w) A (letOwnedTupleGo target it v) (fun _ s₂=>wpAny (model prog w) A (assign target env v) (fun _ s₃=>wpAny (model prog w) A (eval elt env) (fun y s₄ =>
     wpAny (model prog w) A (call (.builtin "list.append") [acc,y]) (fun _ s₅=>∃ m,m<n/\I m s₅) (fun _ _=>False) s₄) (fun _ _=>False) s₃) (fun _ _=>False) s₂) (fun _ _=>False) s₁) (fun _ _=>False) s)
  (n:Nat) (h:I n s):codeAny (model prog w) A (.compLoop (.ListComp elt [⟨target,iter,[],0⟩] scope pos) 0 it acc env) R s:=by
 refine codeAny_loop rfl I (fun n s hI=>?_) n h
 show wpAny _ _ (Sem.onRaise (compTurn (.ListComp elt [⟨target,iter,[],0⟩] scope pos) 0 it acc env) _) _ _ s
 refine wpAny_noted (noE ?_)
 rw[compTurn_list1]
 refine wpAny_bind (wpAny_standAt (wpAny_bind (wpAny_mono (turn n s hI) (fun r s₁ h₁=>?_) fun _ _ z=>z)))
 cases r with
 | none=>exact wpAny_pure h₁
 | some v =>
  refine wpAny_bind (wpAny_mono h₁ (fun _ s₂ h₂=>?_) fun _ _ z=>z)
  refine wpAny_bind (wpAny_mono h₂ (fun _ s₃ h₃=>?_) fun _ _ z=>z)
  refine wpAny_bind (wpAny_bind (wpAny_mono h₃ (fun y s₄ h₄=>?_) fun _ _ z=>z))
  refine wpAny_bind (wpAny_mono h₄ (fun _ s₅ h₅=>?_) fun _ _ z=>z)
  exact wpAny_pure (wpAny_pure ⟨rfl,h₅⟩)
theorem zlg (I:Nat->Shared->Prop)
  (turn:∀ n s,I n s->wpAny (model prog w) A (pyNext it) (fun r s₁=>match r with
   | none=>R (.ok .next) s₁
   | some v=>wpAny (model prog w) A (letOwnedTupleGo target it v) (fun _ s₂=>wpAny (model prog w) A (assign target env v) (fun _ s₃=>wpAny (model prog w) A (isTrue c env (eval c env)) (fun b s₄ =>
     if b=true then wpAny (model prog w) A (eval elt env) (fun y s₅ =>
      wpAny (model prog w) A (call (.builtin "list.append") [acc,y]) (fun _ s₆=>∃ m,m<n/\I m s₆) (fun _ _=>False) s₅) (fun _ _=>False) s₄
     else ∃ m,m<n/\I m s₄) (fun _ _=>False) s₃) (fun _ _=>False) s₂) (fun _ _=>False) s₁) (fun _ _=>False) s)
  (n:Nat) (h:I n s):codeAny (model prog w) A (.compLoop (.ListComp elt [⟨target,iter,[c],0⟩] scope pos) 0 it acc env) R s:=by
 refine codeAny_loop rfl I (fun n s hI=>?_) n h
 show wpAny _ _ (Sem.onRaise (compTurn (.ListComp elt [⟨target,iter,[c],0⟩] scope pos) 0 it acc env) _) _ _ s
 refine wpAny_noted (noE ?_)
 rw[compTurn_list]
 refine wpAny_bind (wpAny_standAt (wpAny_bind (wpAny_mono (turn n s hI) (fun r s₁ h₁=>?_) fun _ _ z=>z)))
 cases r with
 | none=>exact wpAny_pure h₁
 | some v =>
  refine wpAny_bind (wpAny_mono h₁ (fun _ s₂ h₂=>?_) fun _ _ z=>z)
  refine wpAny_bind (wpAny_mono h₂ (fun _ s₃ h₃=>?_) fun _ _ z=>z)
  simp only[List.forIn_cons,List.forIn_nil,if_true,bind_assoc,pure_bind]
  refine wpAny_bind (wpAny_mono h₃ (fun b s₄ h₄=>?_) fun _ _ z=>z)
  cases b with
  | true =>
   simp only[if_true] at h₄ ⊢
   refine wpAny_bind (wpAny_mono h₄ (fun y s₅ h₅=>?_) fun _ _ z=>z)
   refine wpAny_bind (wpAny_mono h₅ (fun _ s₆ h₆=>?_) fun _ _ z=>z)
   exact wpAny_pure ⟨rfl,h₆⟩
  | false =>
   simp only[Bool.false_eq_true,if_false] at h₄ ⊢
   exact wpAny_pure ⟨rfl,h₄⟩
end
noncomputable def zbF (sc:Scope) (env:Env):List (Str × Addr):=(sc.names.filterMap fun p=>if p.2 == .free then (env.cells.lookup p.1).map fun c=>(p.1,c) else none).reverse
structure Blk where
 C:Addr
 s:Shared
 H:Hp
 pn:List (Addr × Obj)
 ex:List Addr
noncomputable def Cx.block (X:Cx) (sc:Scope) (x:Str) (ix:List Nat) (b:Blk):Cx where
 prog:=X.prog
 w:=X.w
 K:=X.K
 mg:=X.mg
 base:=X.base
 A:=X.A
 N:=x::ix.map fun i=>X.N.getD i x
 s₀:=b.s
 H₀:=b.H
 env:=compEnvC sc (zbF sc X.env) b.C X.env
 outer:=X.stack
 stack:=X.stack
 ex:=b.ex
 fn:=fun _=>false
 calm:=X.calm
 pn:=b.pn
 xe:=fun _ _=>False
noncomputable def capts (σ:St) (ix:List Nat):St:=ix.map fun i=>σ.getD i none
def zwT (X:Cx) (sc:Scope) (x:Str) (i:Nat):Prop :=
 (X.env.kindOf (X.N.getD i x)=some .cell\/X.env.kindOf (X.N.getD i x)=some .free)/\((relabel sc X.env).names.lookup (X.N.getD i x)=some .cell\/(relabel sc X.env).names.lookup (X.N.getD i x)=some .free) /\
  (zbF sc X.env).lookup (X.N.getD i x)=X.env.cells.lookup (X.N.getD i x)
noncomputable def zjD (X:Cx) (sc:Scope) (x:Str):List Nat->Prop
 | []=>True
 | i::r=>zwT X sc x i/\zjD X sc x r
theorem zjD.get:∀ {ix:List Nat},zjD X sc x ix->∀ i∈ix,zwT X sc x i
 | [],_,_,h=>nomatch h
 | _::_,h,_,hi=>(yal.mp hi).elim (fun e=>e ▸ h.1) fun z=>zjD.get h.2 _ z
noncomputable def zl3 (cells:List (Str × Addr)):List (Str × Addr)->Prop
 | []=>True
 | p::r=>cells.lookup p.1=some p.2/\zl3 cells r
theorem zl3.get:∀ {cl:List (Str × Addr)},zl3 cells cl->∀ y c,cl.lookup y=some c->cells.lookup y=some c
 | [],_,_,_,h=>by simp at h
 | p::r,h,y,c,e=>by
  rw[List.lookup_cons] at e
  cases q:y == p.1 with
  | true =>
   rw[q] at e
   have e1:p.2=c:=Option.some.inj e
   rw[eq_of_beq q,<-e1]
   exact h.1
  | false =>
   rw[q] at e
   exact zl3.get h.2 y c e
noncomputable def zmb (cl:List (Str × Addr)):List (Str × NameKind)->Prop
 | []=>True
 | p::r=>(p.2=.cell\/p.2=.free->∃ c,cl.lookup p.1=some c)/\zmb cl r
theorem zmb.get:∀ {ns:List (Str × NameKind)},zmb cl ns->∀ p∈ns,p.2=.cell\/p.2=.free->∃ c,cl.lookup p.1=some c
 | [],_,_,h=>nomatch h
 | _::_,h,_,hp=>(yal.mp hp).elim (fun e=>e ▸ h.1) fun z=>zmb.get h.2 _ z
structure zfU (X:Cx) (sc:Scope) (x:Str) (ix:List Nat):Prop where
 clos:closureFor sc X.env=pure (zbF sc X.env)
 cell:∀ y∈sc.names,y.2≠.cell
 kind:sc.kind=.function
 names:∀ y∈sc.names,y.2=.local->sc.names.lookup y.1=some .local
 var:sc.names.lookup x=some .local
 nd:(x::ix.map fun i=>X.N.getD i x).Nodup
 cap:zjD X sc x ix
 sub:zl3 X.env.cells (zbF sc X.env)
 has:zmb (zbF sc X.env) (relabel sc X.env).names
section
variable {X:Cx} {pins:List (Addr × Obj)} {σ:St} {H:Hp} {s:Shared} {sc:Scope} {x:Str} {ix:List Nat} {fp:List Addr}
theorem zv0 (I:Inv X pins σ H s) (O:zfU X sc x ix) (hf:∀ b∈fp,zbr X pins H b) (hx:∀ b∈fp,∃ o,s.heap.get? b=some o):(X.block sc x ix ⟨s.heap.objs.size,s,H,X.pn++pins,fp⟩).Ok where
 mod:=I.ok.mod
 kind:=O.kind
 glob:=I.ok.glob
 blt:=I.ok.blt
 above:=ycx _
 inj:=fun y z c h1 h2=>I.ok.inj y z c (O.sub.get y c h1) (O.sub.get z c h2)
 has:=fun y h=>by
  have h':(relabel sc X.env).names.lookup y=some .cell\/(relabel sc X.env).names.lookup y=some .free:=h
  rcases h' with h' | h'
  ·exact O.has.get _ (PySem.mem_of_lookup h') (.inl rfl)
  ·exact O.has.get _ (PySem.mem_of_lookup h') (.inr rfl)
 cab:=fun _ _ h=>absurd (show false=true from h) Bool.false_ne_true
 hd:=I.ok.hd
 frames:=I.ok.frames
 stk:=.inl rfl
 exf:=fun b hb=>by
  obtain ⟨o,e⟩:=hx b hb
  exact ⟨ycy (ydn e),fun y c h=>(hf b hb).2.2.2.2.1 y c (O.sub.get y c h)⟩
 bs:=I.bs
 bsz:=ydc I.ok.bsz I.sz
 noex:=fun b o e hb=>by
  rcases (hf b hb).2.2.2.1 with z | z
  ·exact I.ok.noex b o e z
  ·exact absurd (ydb (ydn e) (ydc I.ok.bsz z)) (ydd _)
 exfs:=fun b hb z=>(yal.mp (I.zeL b z)).elim (hf b hb).2.1 (hf b hb).2.2.1
 funs:=I.stack
 frf:=I.zoC
theorem zpi (I:Inv X pins σ H s) (O:zfU X sc x ix) (hf:∀ b∈fp,zbr X pins H b) (hx:∀ b∈fp,∃ o,s.heap.get? b=some o)
  (hn:h₁.Ns s.heap.objs.size m) (keep:∀ b o,s.heap.get? b=some o->h₁.get? b=some o) :
  Inv (X.block sc x ix ⟨s.heap.objs.size,s,H,X.pn++pins,fp⟩) [] (none::capts σ ix) H { s with heap:=h₁,toks:=tk }:=by
 refine ⟨zv0 I O hf hx,rfl,I.bare,Un.kept keep,⟨m,hn,fun i y v e1 e2 _=>?_⟩,fun y c h=>?_,I.hok.fresh (ycx _),fun y c h=>I.freeC y c (O.sub.get y c h),fun p hp=>?_,I.hok.kept keep,?_⟩
 ·cases i with
  | zero=>cases e2
  | succ j =>
   have e1':(ix.map fun i=>X.N.getD i x)[j]?=some y:=e1
   have e2':(capts σ ix)[j]?=some (some v):=e2
   unfold capts at e2'
   rw[yai] at e1' e2'
   cases q:ix[j]? with
   | none=>rw[q] at e1';cases e1'
   | some i =>
    rw[q] at e1' e2'
    have e3:X.N.getD i x=y:=Option.some.inj e1'
    have e4:σ.getD i none=some v:=Option.some.inj e2'
    obtain ⟨c1,c2,c3⟩:=O.cap.get i (yah q)
    rw[e3] at c1 c2 c3
    have e5:σ[i]?=some (some v):=by
     rw[yad] at e4
     cases z:σ[i]? with
     | none=>rw[z] at e4;cases e4
     | some a=>rw[z] at e4;exact congrArg some e4
    have hl:i<X.N.length:=by
     rw[<-I.len]
     exact (yac.mp e5).1
    have e6:X.N[i]?=some y:=by
     rw[yad,yaa hl] at e3
     rw[yaa hl]
     exact congrArg some e3
    obtain ⟨m0,_,l0⟩:=I.loc
    have vis:Vis X.env.scope y:=by
     rcases c1 with z | z
     ·exact .inr (.inl z)
     ·exact .inr (.inr z)
    obtain ⟨u,ru,lu⟩:=l0 i y v e6 e5 vis
    refine ⟨u,ru,?_⟩
    rcases lu with ⟨k,_⟩ | ⟨_,c,hc,o,ho,hd⟩
    ·rcases c1 with z | z
     ·rw[z] at k;cases k
     ·rw[z] at k;cases k
    ·exact .inr ⟨c2,c,c3.trans hc,o,keep c o ho,hd⟩
 ·obtain ⟨v,o,ho,hd⟩:=I.cell y c (O.sub.get y c h)
  exact ⟨v,o,keep c o ho,hd⟩
 ·have hp':p∈X.pn++pins:=by
   rcases yae.mp hp with z | z
   ·exact z
   ·cases z
  obtain ⟨e,n,ne,nf,d⟩:=I.pin p hp'
  exact ⟨keep _ _ e,n,ycy (ydn e),fun z=>(yal.mp (I.zeL _ z)).elim ne nf,d⟩
 ·show (none::capts σ ix).length=(x::ix.map fun i=>X.N.getD i x).length
  simp[capts]
theorem zn1 (I:Inv X pins σ H s) (hf:∀ b∈fp,zbr X pins H b) (J:Inv (X.block sc x ix ⟨s.heap.objs.size,s,H,X.pn++pins,fp⟩) pins' σ' H' s'):Inv X pins σ H' s' :=
 I.call' J.os J.base J.hok J.bare fun b hb=>⟨(hf b hb).2.2.2.1,(hf b hb).2.1,(hf b hb).2.2.2.2.1,(hf b hb).2.2.2.2.2⟩
theorem Inv.addpin (I:Inv X pins σ H s) (e:s.heap.get? b=some o) (hn:H b=none) (hL:b≠X.env.locals) (hf:b ∉ X.fs) (hd:∀ v,o.data≠.cell v):Inv X (pins++[(b,o)]) σ H s :=
 I.zon fun p hp=>(yae.mp hp).elim (fun z=>I.pin p (yaj _ z)) fun z=>by
  have e':p=(b,o):=by simpa using z
  subst e'
  exact ⟨e,hn,hL,hf,hd⟩
end
def Turns (ix:List Nat) (te:TE) (σ:St) (J:It) (l:Addr) (R:Hp->Prop) (W:Nat->Nat->List V->Hp->Prop):Prop :=
 ∀ i m xs H',W i m xs H'->H' l=some (.lst xs)/\((J.stop i H'/\R H')\/(J.go i H'/\xs.length<sizeLine/\∀ x H2,J.yld i H' x H2 ->
  te (some x::capts σ ix) H2 fun v H3=>H3 l=some (.lst xs)/\∃ m',m'<m/\W (i+1) m' (xs++[v]) (upd H3 l (.lst (xs++[v])))))
def zwX (ix:List Nat) (wi:TI) (te:TE):TE:=fun σ H Q=>wi σ H fun J H1=>∀ l,H1 l=none->∃ W:Nat->Nat->List V->Hp->Prop,(∃ m,W 0 m [] (upd H1 l (.lst [])))/\Turns ix te σ J l (Q (.ref l)) W
section
variable {X:Cx} {pins:List (Addr × Obj)} {σ:St} {H:Hp} {s:Shared} {sc:Scope} {x:Str} {ix:List Nat} {fp:List Addr} {elt iter:Expr} {te:TE} {wi:TI} {px pos:Pos}
theorem zpf (O:zfU X sc x ix) (hel:∀ b,PE (X.block sc x ix b) elt te) (hc:X.calm=true)
  (I:Inv X pins σ H s) (T:Turn X.prog X.w X.K (.Name x px) J fp it tn) (st:tn 0 s.heap) (hf:∀ b∈fp,zbr X pins H b) (R:Addr->Hp->Prop)
  (h:∀ l,H l=none->∃ W:Nat->Nat->List V->Hp->Prop,(∃ m,W 0 m [] (upd H l (.lst [])))/\Turns ix te σ J l (R l) W)
  (fin:∀ l C m s' H',Inv X pins σ H' s'->s'.heap.Ns C m->zbr X pins H' C->R l H'->compPost (model X.prog X.w) X.A E use Q (.ref l) C (.ok .next) s') :
  wpAny (model X.prog X.w) X.A (newList []) (fun acc s₃=>wpAny (model X.prog X.w) X.A (newFunctionEnv sc X.env.globals (zbF sc X.env) [] X.env.qual none .none (some X.env)) (fun cenv s₄ =>
   codeAny (model X.prog X.w) X.A (.compStart (.ListComp elt [⟨.Name x px,iter,[],0⟩] sc pos) 0 (.ref it) acc { cenv with scope:=relabel sc X.env }) (compPost (model X.prog X.w) X.A E use Q acc cenv.locals) s₄) E s₃) E s:=by
 refine wpAny_newObj_type (wpAny_newFunctionEnv O.cell (by intro y hy;simp at hy) (fun h₁ hns hsb=>?_) O.kind)
 dsimp only at hns hsb ⊢
 have hl0:H s.heap.objs.size=none:=I.hok.fresh (ycx _)
 obtain ⟨W,⟨m0,w0⟩,tr⟩:=h s.heap.objs.size hl0
 have I3:Inv X pins σ (upd H s.heap.objs.size (.lst [])) { s with heap:=s.heap.push { cls:=.type "list", dict:=none,data:=.seq ([]:List Value).toArray } } :=
  I.laid (t':=s.toks) (fun b o e=>ydm _ e) (ycx _) ⟨yda _,[],0,.nil,ydo _ rfl⟩
 have ofp:∀ b∈fp,∃ o,s.heap.get? b=some o:=fun b hb=>by
  obtain ⟨o,e,_⟩:=T.obj 0 _ st b hb
  exact ⟨o,e⟩
 generalize e3:s.heap.push { cls:=.type "list", dict:=none,data:=.seq ([]:List Value).toArray }=G at I3 hns hsb ⊢
 have ofp3:∀ b∈fp,∃ o,G.get? b=some o:=fun b hb=>by
  obtain ⟨o,e⟩:=ofp b hb
  exact ⟨o,by rw[<-e3];exact ydm _ e⟩
 have nl:∀ b∈fp,b≠s.heap.objs.size:=fun b hb=>by
  obtain ⟨o,e⟩:=ofp b hb
  exact ycy (ydn e)
 have hf3:∀ b∈fp,zbr X pins (upd H s.heap.objs.size (.lst [])) b:=fun b hb=>⟨by rw[zr (nl b hb)];exact (hf b hb).1,(hf b hb).2⟩
 have keep3:∀ b o,G.get? b=some o->h₁.get? b=some o:=fun b o e=>hsb.extBut b o (ycy (ydn e)) (ydm _ e)
 have stk:tn 0 h₁:=T.keep _ _ _ st fun b hb o e=>keep3 b o (by rw[<-e3];exact ydm _ e)
 have J0:=zpi (tk:=s.toks+([]:List (Str × Value)).length) I3 O hf3 ofp3 hns keep3
 have stat:∀ {H':Hp},(∀ b∈fp,H' b=none)->∀ b∈fp,zbr (X.block sc x ix ⟨G.objs.size,{ s with heap:=G },upd H s.heap.objs.size (.lst []),X.pn++pins,fp⟩) [] H' b:=fun hn b hb=>by
  obtain ⟨o,e⟩:=ofp3 b hb
  refine ⟨hn b hb,ycy (ydn e),fun z=>(yal.mp (I3.zeL _ z)).elim (hf b hb).2.1 (hf b hb).2.2.1,.inl hb,fun y c q=>(hf b hb).2.2.2.2.1 y c (O.sub.get y c q),fun p hp=>?_⟩
  have hp':p∈X.pn++pins:=by
   rcases yae.mp hp with z | z
   ·exact z
   ·cases z
  exact (hf b hb).2.2.2.2.2 p hp'
 have loop:∀ s4:Shared,s4={ s with heap:=h₁,toks:=s.toks+([]:List (Str × Value)).length } ->
   codeAny (model X.prog X.w) X.A (.compLoop (.ListComp elt [⟨.Name x px,iter,[],0⟩] sc pos) 0 (.ref it) (.ref s.heap.objs.size) (compEnvC sc (zbF sc X.env) G.objs.size X.env))
    (compPost (model X.prog X.w) X.A E use Q (.ref s.heap.objs.size) G.objs.size) s4:=by
  rintro s4 rfl
  refine zuF (fun n s'=>∃ i xs H' z,Inv (X.block sc x ix ⟨G.objs.size,{ s with heap:=G },upd H s.heap.objs.size (.lst []),X.pn++pins,fp⟩) [] (z::capts σ ix) H' s'/\tn i s'.heap/\(∀ b∈fp,H' b=none)/\W i n xs H') ?_ m0
   ⟨0,[],_,none,J0,stk,fun b hb=>(hf3 b hb).1,w0⟩
  rintro n s5 ⟨i,xs,H5,z,I5,st5,fr5,w5⟩
  obtain ⟨hl5,h5⟩:=tr i n xs H5 w5
  rcases h5 with ⟨stop,r5⟩ | ⟨go,hz,step⟩
  ·refine thn (T.done (X.block sc x ix ⟨G.objs.size,{ s with heap:=G },upd H s.heap.objs.size (.lst []),X.pn++pins,fp⟩) rfl rfl rfl hc i [] s5 _ H5 _ I5 (stat fr5) st5 stop) fun r s6 ⟨hr,I6⟩=>?_
   subst hr
   obtain ⟨m6,hn6,_⟩:=I6.loc
   refine fin _ _ m6 s6 H5 (zn1 I3 hf3 I6) hn6 ?_ r5
   exact I3.zrL (ycx _) I6.free
  ·refine thn (T.item (X.block sc x ix ⟨G.objs.size,{ s with heap:=G },upd H s.heap.objs.size (.lst []),X.pn++pins,fp⟩) rfl rfl rfl hc i [] s5 _ H5 _ I5 (stat fr5) st5 go) fun r s6 ⟨u,hr,h6⟩=>?_
   subst hr
   refine thn h6 fun _ s7 ⟨y,H7,I7,r7,y7,st7,fr7⟩=>?_
   have I7':=I7.pinned (stat fr7) (T.obj _ _ st7)
   have lx:(relabel sc X.env).names.lookup x=some .local:=lookup_relabel_local O.var
   refine thn ((zI (i:=0) O.nd rfl (Or.inl lx) (Or.inr lx):PG (X.block sc x ix ⟨G.objs.size,{ s with heap:=G },upd H s.heap.objs.size (.lst []),X.pn++pins,fp⟩) (.Name x px) (zdh 0)) _ s7 _ H7 y u (fun σ' H'=>σ'=some y::capts σ ix/\H'=H7) I7' r7 ⟨rfl,rfl⟩) fun _ s8 ⟨σ8,H8,I8,e8,e8'⟩=>?_
   subst e8 e8'
   refine thn (hel _ _ s8 _ H8 _ I8 (step y H8 y7)) fun v9 s9 ⟨v,H9,I9,r9,hl9,m',hm,w9⟩=>?_
   refine thn (zaJ _ s9 _ H9 (.ref s.heap.objs.size) [v] (.ref s.heap.objs.size) [v9] (fun _ H'=>H'=upd H9 s.heap.objs.size (.lst (xs++[v]))) I9 rfl (.cons r9 .nil) ⟨_,xs,v,rfl,rfl,hl9,hz,rfl⟩) fun _ s10 ⟨_,H10,I10,_,e10⟩=>?_
   subst e10
   refine ⟨m',hm,i+1,xs++[v],_,some y,I10.unpinned,T.keep _ _ _ st7 fun b hb o e=>(I10.pin (b,o) (yaj _ (yaj _ (zbQ hb e)))).1,fun b hb=>?_,w9⟩
   obtain ⟨o,e,d⟩:=T.obj _ _ st7 b hb
   exact (I10.pin (b,o) (yaj _ (yaj _ (zbQ hb e)))).2.1
 exact codeAny_compStart_list (loop _ rfl) (T.self _ 0 _ _ _ stk (loop _ rfl))
theorem zbk (O:zfU X sc x ix) (hi:PI X (.Name x px) iter wi) (hel:∀ b,PE (X.block sc x ix b) elt te) (hc:X.calm=true:=by rfl) (hs:∀ v,foldedSetIterable iter X.env v=pure v:=by intro _;rfl) :
  PE X (.ListComp elt [⟨.Name x px,iter,[],0⟩] sc pos) (zwX ix wi te):=by
 intro pins s σ H Q I h
 rw[eval_ListComp]
 refine wpAny_comprehension_free (use:=none) rfl hs O.clos O.kind O.names (thn (hi pins s σ H _ I h) fun xv s1 h1=>thn h1 fun itv s2 h2=>?_)
 obtain ⟨it,fp,tn,J,H2,e,I2,T,st2,f2,hq⟩:=h2
 subst e
 refine zpf O hel hc I2 T st2 f2 (fun l H'=>Q (.ref l) H') hq ?_
 intro l C m s' H' I' hn hf r
 refine ⟨m,hn,fun h' hb=>⟨.ref l,H',?_,rfl,r⟩⟩
 exact I'.turned (t':=s'.toks) (fun b o hne e=>hb.extBut b o hne e) hf.1 hf.2.1 hf.2.2.2.1 hf.2.2.2.2.1 hf.2.2.2.2.2
theorem zox (hN:X.N.Nodup) (hiy:X.N[i]?=some y) (hy:X.env.scope.names.lookup y=some .local) (O:zfU X sc x ix) (hi:PI X (.Name x px) iter wi) (hel:∀ b,PE (X.block sc x ix b) elt te)
  (hc:X.calm=true:=by rfl) (hs:∀ v,foldedSetIterable iter X.env v=pure v:=by intro _;rfl) (hsw:swapsWith (.ListComp elt [⟨.Name x px,iter,[],0⟩] sc pos) (some (.Name y py)) spos.line X.env=pure true:=by rfl) :
  PS X (.Assign [.Name y py] (.ListComp elt [⟨.Name x px,iter,[],0⟩] sc pos) spos) (zqU (zwX ix wi te) (zdh i)):=by
 intro pins s σ H D I h
 rw[exec_Assign_Name_used _ _ _ _ hsw]
 refine wpAny_bind (wpAny_standAt (wpAny_bind ?_))
 show wpAny _ X.A (do let _ <-comprehension (.ListComp elt [⟨.Name x px,iter,[],0⟩] sc pos) sc X.env _ (newList []) false (eval iter X.env) (some (assign (.Name y py) X.env))) _ _ s
 refine wpAny_bind (wpAny_mono (wpAny_comprehension_free (use:=some (assign (.Name y py) X.env)) (Q:=fun _ s'=>SP X pins D .next s') rfl hs O.clos O.kind O.names
  (thn (hi pins s σ H _ I h) fun xv s1 h1=>thn h1 fun itv s2 h2=>?_)) (fun _ s' hq=>wpAny_pure (wpAny_pure hq)) fun _ _ e=>e)
 obtain ⟨it,fp,tn,J,H2,e,I2,T,st2,f2,hq⟩:=h2
 subst e
 refine zpf O hel hc I2 T st2 f2 (fun l H'=>D.nx (σ.set i (some (.ref l))) H') hq ?_
 intro l C m s' H' I' hn hf r
 obtain ⟨o,es,ep,ho,hd,hr⟩:=id hn
 have Ip:=I'.addpin ho hf.1 hf.2.1 hf.2.2.1 (by intro v z;rw[hd] at z;cases z)
 refine thn ((zI (i:=i) hN hiy (Or.inl hy) (Or.inr hy):PG X (.Name y py) (zdh i)) _ s' σ H' (.ref l) (.ref l) (fun σ' H''=>σ'=σ.set i (some (.ref l))/\H''=H') Ip rfl ⟨rfl,rfl⟩) fun _ s'' ⟨σ'',H'',I'',e1,e2⟩=>?_
 subst e1 e2
 have pc:=(I''.pin (C,o) (yaj _ (yaj _ yap))).1
 refine ⟨m,⟨o,es,ep,pc,hd,hr⟩,fun h' hb=>⟨_,_,?_,r⟩⟩
 exact I''.unpinned.turned (t':=s''.toks) (fun b o hne e=>hb.extBut b o hne e) hf.1 hf.2.1 hf.2.2.2.1 hf.2.2.2.2.1 hf.2.2.2.2.2
end
def zmg (ix:List Nat) (tt:TT) (te:TE) (σ:St) (J:It) (l:Addr) (R:Hp->Prop) (W:Nat->Nat->List V->Hp->Prop):Prop :=
 ∀ i m xs H',W i m xs H'->H' l=some (.lst xs)/\((J.stop i H'/\R H')\/(J.go i H'/\xs.length<sizeLine/\∀ x H2,J.yld i H' x H2 ->
  tt (some x::capts σ ix) H2 fun b H3=>if b=true then te (some x::capts σ ix) H3 fun v H4=>H4 l=some (.lst xs)/\∃ m',m'<m/\W (i+1) m' (xs++[v]) (upd H4 l (.lst (xs++[v]))) else ∃ m',m'<m/\W (i+1) m' xs H3))
def ztq (ix:List Nat) (wi:TI) (tt:TT) (te:TE):TE:=fun σ H Q=>wi σ H fun J H1=>∀ l,H1 l=none->∃ W:Nat->Nat->List V->Hp->Prop,(∃ m,W 0 m [] (upd H1 l (.lst [])))/\zmg ix tt te σ J l (Q (.ref l)) W
section
variable {X:Cx} {pins:List (Addr × Obj)} {σ:St} {H:Hp} {s:Shared} {sc:Scope} {x:Str} {ix:List Nat} {fp:List Addr} {elt iter c:Expr} {te:TE} {tt:TT} {wi:TI} {px pos:Pos}
theorem zmK (O:zfU X sc x ix) (htt:∀ b,PT (X.block sc x ix b) c tt) (hel:∀ b,PE (X.block sc x ix b) elt te) (hc:X.calm=true)
  (I:Inv X pins σ H s) (T:Turn X.prog X.w X.K (.Name x px) J fp it tn) (st:tn 0 s.heap) (hf:∀ b∈fp,zbr X pins H b) (R:Addr->Hp->Prop)
  (h:∀ l,H l=none->∃ W:Nat->Nat->List V->Hp->Prop,(∃ m,W 0 m [] (upd H l (.lst [])))/\zmg ix tt te σ J l (R l) W)
  (fin:∀ l C m s' H',Inv X pins σ H' s'->s'.heap.Ns C m->zbr X pins H' C->R l H'->compPost (model X.prog X.w) X.A E use Q (.ref l) C (.ok .next) s') :
  wpAny (model X.prog X.w) X.A (newList []) (fun acc s₃=>wpAny (model X.prog X.w) X.A (newFunctionEnv sc X.env.globals (zbF sc X.env) [] X.env.qual none .none (some X.env)) (fun cenv s₄ =>
   codeAny (model X.prog X.w) X.A (.compStart (.ListComp elt [⟨.Name x px,iter,[c],0⟩] sc pos) 0 (.ref it) acc { cenv with scope:=relabel sc X.env }) (compPost (model X.prog X.w) X.A E use Q acc cenv.locals) s₄) E s₃) E s:=by
 refine wpAny_newObj_type (wpAny_newFunctionEnv O.cell (by intro y hy;simp at hy) (fun h₁ hns hsb=>?_) O.kind)
 dsimp only at hns hsb ⊢
 have hl0:H s.heap.objs.size=none:=I.hok.fresh (ycx _)
 obtain ⟨W,⟨m0,w0⟩,tr⟩:=h s.heap.objs.size hl0
 have I3:Inv X pins σ (upd H s.heap.objs.size (.lst [])) { s with heap:=s.heap.push { cls:=.type "list", dict:=none,data:=.seq ([]:List Value).toArray } } :=
  I.laid (t':=s.toks) (fun b o e=>ydm _ e) (ycx _) ⟨yda _,[],0,.nil,ydo _ rfl⟩
 have ofp:∀ b∈fp,∃ o,s.heap.get? b=some o:=fun b hb=>by
  obtain ⟨o,e,_⟩:=T.obj 0 _ st b hb
  exact ⟨o,e⟩
 generalize e3:s.heap.push { cls:=.type "list", dict:=none,data:=.seq ([]:List Value).toArray }=G at I3 hns hsb ⊢
 have ofp3:∀ b∈fp,∃ o,G.get? b=some o:=fun b hb=>by
  obtain ⟨o,e⟩:=ofp b hb
  exact ⟨o,by rw[<-e3];exact ydm _ e⟩
 have nl:∀ b∈fp,b≠s.heap.objs.size:=fun b hb=>by
  obtain ⟨o,e⟩:=ofp b hb
  exact ycy (ydn e)
 have hf3:∀ b∈fp,zbr X pins (upd H s.heap.objs.size (.lst [])) b:=fun b hb=>⟨by rw[zr (nl b hb)];exact (hf b hb).1,(hf b hb).2⟩
 have keep3:∀ b o,G.get? b=some o->h₁.get? b=some o:=fun b o e=>hsb.extBut b o (ycy (ydn e)) (ydm _ e)
 have stk:tn 0 h₁:=T.keep _ _ _ st fun b hb o e=>keep3 b o (by rw[<-e3];exact ydm _ e)
 have J0:=zpi (tk:=s.toks+([]:List (Str × Value)).length) I3 O hf3 ofp3 hns keep3
 have stat:∀ {H':Hp},(∀ b∈fp,H' b=none)->∀ b∈fp,zbr (X.block sc x ix ⟨G.objs.size,{ s with heap:=G },upd H s.heap.objs.size (.lst []),X.pn++pins,fp⟩) [] H' b:=fun hn b hb=>by
  obtain ⟨o,e⟩:=ofp3 b hb
  refine ⟨hn b hb,ycy (ydn e),fun z=>(yal.mp (I3.zeL _ z)).elim (hf b hb).2.1 (hf b hb).2.2.1,.inl hb,fun y c q=>(hf b hb).2.2.2.2.1 y c (O.sub.get y c q),fun p hp=>?_⟩
  have hp':p∈X.pn++pins:=by
   rcases yae.mp hp with z | z
   ·exact z
   ·cases z
  exact (hf b hb).2.2.2.2.2 p hp'
 have loop:∀ s4:Shared,s4={ s with heap:=h₁,toks:=s.toks+([]:List (Str × Value)).length } ->
   codeAny (model X.prog X.w) X.A (.compLoop (.ListComp elt [⟨.Name x px,iter,[c],0⟩] sc pos) 0 (.ref it) (.ref s.heap.objs.size) (compEnvC sc (zbF sc X.env) G.objs.size X.env))
    (compPost (model X.prog X.w) X.A E use Q (.ref s.heap.objs.size) G.objs.size) s4:=by
  rintro s4 rfl
  refine zlg (fun n s'=>∃ i xs H' z,Inv (X.block sc x ix ⟨G.objs.size,{ s with heap:=G },upd H s.heap.objs.size (.lst []),X.pn++pins,fp⟩) [] (z::capts σ ix) H' s'/\tn i s'.heap/\(∀ b∈fp,H' b=none)/\W i n xs H') ?_ m0
   ⟨0,[],_,none,J0,stk,fun b hb=>(hf3 b hb).1,w0⟩
  rintro n s5 ⟨i,xs,H5,z,I5,st5,fr5,w5⟩
  obtain ⟨hl5,h5⟩:=tr i n xs H5 w5
  rcases h5 with ⟨stop,r5⟩ | ⟨go,hz,step⟩
  ·refine thn (T.done (X.block sc x ix ⟨G.objs.size,{ s with heap:=G },upd H s.heap.objs.size (.lst []),X.pn++pins,fp⟩) rfl rfl rfl hc i [] s5 _ H5 _ I5 (stat fr5) st5 stop) fun r s6 ⟨hr,I6⟩=>?_
   subst hr
   obtain ⟨m6,hn6,_⟩:=I6.loc
   refine fin _ _ m6 s6 H5 (zn1 I3 hf3 I6) hn6 ?_ r5
   exact I3.zrL (ycx _) I6.free
  ·refine thn (T.item (X.block sc x ix ⟨G.objs.size,{ s with heap:=G },upd H s.heap.objs.size (.lst []),X.pn++pins,fp⟩) rfl rfl rfl hc i [] s5 _ H5 _ I5 (stat fr5) st5 go) fun r s6 ⟨u,hr,h6⟩=>?_
   subst hr
   refine thn h6 fun _ s7 ⟨y,H7,I7,r7,y7,st7,fr7⟩=>?_
   have I7':=I7.pinned (stat fr7) (T.obj _ _ st7)
   have lx:(relabel sc X.env).names.lookup x=some .local:=lookup_relabel_local O.var
   refine thn ((zI (i:=0) O.nd rfl (Or.inl lx) (Or.inr lx):PG (X.block sc x ix ⟨G.objs.size,{ s with heap:=G },upd H s.heap.objs.size (.lst []),X.pn++pins,fp⟩) (.Name x px) (zdh 0)) _ s7 _ H7 y u (fun σ' H'=>σ'=some y::capts σ ix/\H'=H7) I7' r7 ⟨rfl,rfl⟩) fun _ s8 ⟨σ8,H8,I8,e8,e8'⟩=>?_
   subst e8 e8'
   refine thn (htt _ _ s8 _ H8 _ I8 (step y H8 y7)) fun b s9 ⟨H9,I9,q9⟩=>?_
   have kp:∀ {σ0:St} {H0:Hp} {s0:Shared},Inv (X.block sc x ix ⟨G.objs.size,{ s with heap:=G },upd H s.heap.objs.size (.lst []),X.pn++pins,fp⟩) ([]++zjz fp s7.heap) σ0 H0 s0->tn (i+1) s0.heap/\∀ b∈fp,H0 b=none:=fun {σ0 H0 s0} I0=>by
    refine ⟨T.keep _ _ _ st7 fun b hb o e=>(I0.pin (b,o) (yaj _ (yaj _ (zbQ hb e)))).1,fun b hb=>?_⟩
    obtain ⟨o,e,d⟩:=T.obj _ _ st7 b hb
    exact (I0.pin (b,o) (yaj _ (yaj _ (zbQ hb e)))).2.1
   cases b with
   | false =>
    rw[if_neg Bool.false_ne_true] at q9 ⊢
    obtain ⟨m',hm,w9⟩:=q9
    exact ⟨m',hm,i+1,xs,_,some y,I9.unpinned,(kp I9).1,(kp I9).2,w9⟩
   | true =>
    rw[if_pos rfl] at q9 ⊢
    refine thn (hel _ _ s9 _ H9 _ I9 q9) fun v9 s10 ⟨v,H10,I10,r10,hl10,m',hm,w10⟩=>?_
    refine thn (zaJ _ s10 _ H10 (.ref s.heap.objs.size) [v] (.ref s.heap.objs.size) [v9] (fun _ H'=>H'=upd H10 s.heap.objs.size (.lst (xs++[v]))) I10 rfl (.cons r10 .nil) ⟨_,xs,v,rfl,rfl,hl10,hz,rfl⟩) fun _ s11 ⟨_,H11,I11,_,e11⟩=>?_
    subst e11
    exact ⟨m',hm,i+1,xs++[v],_,some y,I11.unpinned,(kp I11).1,(kp I11).2,w10⟩
 exact codeAny_compStart_list (loop _ rfl) (T.self _ 0 _ _ _ stk (loop _ rfl))
theorem zcQ (O:zfU X sc x ix) (hi:PI X (.Name x px) iter wi) (htt:∀ b,PT (X.block sc x ix b) c tt) (hel:∀ b,PE (X.block sc x ix b) elt te) (hc:X.calm=true:=by rfl) (hs:∀ v,foldedSetIterable iter X.env v=pure v:=by intro _;rfl) :
  PE X (.ListComp elt [⟨.Name x px,iter,[c],0⟩] sc pos) (ztq ix wi tt te):=by
 intro pins s σ H Q I h
 rw[eval_ListComp]
 refine wpAny_comprehension_free (use:=none) rfl hs O.clos O.kind O.names (thn (hi pins s σ H _ I h) fun xv s1 h1=>thn h1 fun itv s2 h2=>?_)
 obtain ⟨it,fp,tn,J,H2,e,I2,T,st2,f2,hq⟩:=h2
 subst e
 refine zmK O htt hel hc I2 T st2 f2 (fun l H'=>Q (.ref l) H') hq ?_
 intro l C m s' H' I' hn hf r
 refine ⟨m,hn,fun h' hb=>⟨.ref l,H',?_,rfl,r⟩⟩
 exact I'.turned (t':=s'.toks) (fun b o hne e=>hb.extBut b o hne e) hf.1 hf.2.1 hf.2.2.2.1 hf.2.2.2.2.1 hf.2.2.2.2.2
end
theorem zf {H:Hp} {p:Addr} (h:H p=none) (o:HO):Same H (upd H p o):=fun b u q=>by rw[zr (zY q h)];exact q
theorem zus {ix:List Nat} {te:TE} {σ:St} {lo:Int} {n:Nat} {l:Addr} {H:Hp} {R:Hp->Prop} (P:Nat->V->Prop) (hl:H l=none) (hn:n<=sizeLine)
  (hel:∀ i H' Q',i<n->Same H H'->(∀ v,P i v->Q' v H')->te (some (.int (lo+i))::capts σ ix) H' Q') (fin:∀ xs:List V,xs.length=n->(∀ j v,xs[j]?=some v->P j v)->R (upd H l (.lst xs))) :
  ∃ W:Nat->Nat->List V->Hp->Prop,(∃ m,W 0 m [] (upd H l (.lst [])))/\Turns ix te σ (Itr lo n) l R W:=by
 refine ⟨fun i m xs H'=>m=n-i/\i<=n/\xs.length=i/\(∀ j v,xs[j]?=some v->P j v)/\H'=upd H l (.lst xs),⟨n,by simp,yda _,rfl,(fun j v e=>by simp at e),rfl⟩,?_⟩
 rintro i m xs H' ⟨rfl,hi,hx,hp,rfl⟩
 refine ⟨zh,?_⟩
 by_cases hlt:i<n
 ·refine .inr ⟨hlt,by ac_rfl,fun x H2 y=>?_⟩
  obtain ⟨e,y⟩:=y
  subst e y
  refine hel i _ _ hlt (zf hl _) fun v hv=>⟨zh,n-(i+1),by ac_rfl,rfl,hlt,by rw[yaf,hx] <;> rfl,fun j w e=>?_,by rw[zad]⟩
  by_cases hj:j<xs.length
  ·rw[ybk hj] at e
   exact hp j w e
  ·by_cases hj2:j=xs.length
   ·subst hj2
    rw[ybf (ycx _),ydl] at e
    have e':v=w:=Option.some.inj e
    subst e'
    rw[hx];exact hv
   ·rw[yaq (by rw[yaf,ybu];ac_rfl)] at e
    cases e
 ·have e:i=n:=by ac_rfl
  subst e
  exact .inl ⟨ycx _,fin xs hx hp⟩
section
variable {X:Cx}
theorem zk2:∀ {ns:List Int} {us:List Value},Vals (ns.map V.int) us->IntsAre us ns
 | [],_,.nil=>.nil
 | n::ns,_,.cons ⟨t,e⟩ r=>by
  subst e
  exact .cons n t (zk2 r)
end
mutual
inductive RdV (K:W.Frag) (H:Hp):V->PyData->Prop
 | non:RdV K H .non .none
 | bl (b:Bool):RdV K H (.bl b) (.bool b)
 | int (i:Int):RdV K H (.int i) (.int i)
 | str (x:Str):RdV K H (.str x) (.str x)
 | lst {a:Addr} {xs:List V} {ds:List PyData}:SqL K H a xs->zcS K H xs ds->RdV K H (.ref a) (.list ds)
 | tup {a:Addr} {xs:List V} {ds:List PyData}:SqT K H a xs->zcS K H xs ds->RdV K H (.ref a) (.tuple ds)
inductive zcS (K:W.Frag) (H:Hp):List V->List PyData->Prop
 | nil:zcS K H [] []
 | cons {x:V} {d:PyData} {xs:List V} {ds:List PyData}:RdV K H x d->zcS K H xs ds->zcS K H (x::xs) (d::ds)
end
theorem zcS.ints {K:W.Frag} {H:Hp}:∀ ns:List Int,zcS K H (ns.map V.int) (ns.map PyData.int)
 | []=>.nil
 | n::r=>.cons (.int n) (zcS.ints r)
section
variable {X:Cx} {pins:List (Addr × Obj)} {σ:St} {H:Hp} {s:Shared} {pos:Pos}
mutual
theorem RdV.reads (I:Inv X pins σ H s):∀ {x:V} {d:PyData} {u:Value},RdV X.K H x d->RelV x u->∃ as,Reads s.heap u d as
 | _,_,_,.non,r=>by cases r;exact ⟨_,.none⟩
 | _,_,_,.bl b,r=>by cases r;exact ⟨_,.bool b⟩
 | _,_,_,.int i,r=>by obtain ⟨t,rfl⟩:=r;exact ⟨_,.int i t⟩
 | _,_,_,.str x,r=>by obtain ⟨t,rfl⟩:=r;exact ⟨_,.str x t⟩
 | _,_,_,.lst h hs,r=>by
  cases r
  obtain ⟨its,rv,pl,hz⟩:=I.list h
  obtain ⟨as,q⟩:=zcS.reads I hs rv
  obtain ⟨o,n,e,c,hd,dt⟩:=pl
  exact ⟨_,reads_list_at e c dt (by simpa using q)⟩
 | _,_,_,.tup h hs,r=>by
  cases r
  obtain ⟨its,rv,pl,hz⟩:=I.tuple h
  obtain ⟨as,q⟩:=zcS.reads I hs rv
  obtain ⟨o,e,c,n,dt⟩:=pl
  exact ⟨_,reads_tuple_at e c dt (by simpa using q)⟩
theorem zcS.reads (I:Inv X pins σ H s):∀ {xs:List V} {ds:List PyData} {us:List Value},zcS X.K H xs ds->Vals xs us->∃ as,ReadsAll s.heap us ds as
 | _,_,_,.nil,.nil=>⟨_,.nil⟩
 | _,_,_,.cons h hs,.cons r rs=>by
  obtain ⟨as,q⟩:=RdV.reads I h r
  obtain ⟨bs,q'⟩:=zcS.reads I hs rs
  exact ⟨_,.cons q q'⟩
end
def zzB (K:W.Frag):R2:=fun x y H Q=>∃ d e,RdV K H x d/\RdV K H y e/\SeqAt.shaped d=true/\SeqAt.shaped e=true/\Q (.bl (!PyData.eqv d e)) H
theorem zk8 (hu:X.A.units+64<cLine):OpR X (compareOp .NotEq) (zzB X.K):=by
 intro pins s σ H x y v u Q I rx ry h
 obtain ⟨d,e,hd,he,sd,se,q⟩:=h
 obtain ⟨as,ra⟩:=hd.reads I rx
 obtain ⟨bs,rb⟩:=he.reads I ry
 exact ne_dataH ra rb sd se hu ⟨.bl _,H,I,rfl,q⟩
end
noncomputable def kinds:List String:=["NoneType", "bool", "int", "str", "list", "tuple", "dict"]
theorem zxJ {K:W.Frag} {T:String} (h:T∈kinds):PySem.W.kitOne K (.type T) (.type "int")=some (decide (T = "int" \/ T = "bool")):=by
 simp only[kinds,yal,ybz,or_false] at h
 rcases h with rfl | rfl | rfl | rfl | rfl | rfl | rfl <;> rfl
theorem zv4 {K:W.Frag} {T:String} (h:T∈kinds):PySem.W.kitOne K (.type T) (.type "bool")=some (decide (T = "bool")):=by
 simp only[kinds,yal,ybz,or_false] at h
 rcases h with rfl | rfl | rfl | rfl | rfl | rfl | rfl <;> rfl
def zvd (K:W.Frag) (H:Hp) (x:V) (T:String):Prop:=zcG K H x (.type T)/\T∈kinds
theorem zy8 {A B:Prop} (h:B):if (!true)=true then A else B:=zyP (A:=A) h
theorem zzS {p A B:Prop} [Decidable p] (h1:¬ p->A) (h2:p->B):if (!decide p)=true then A else B:=by
 by_cases h:p
 ·rw[if_neg (by simpa using h)];exact h2 h
 ·rw[if_pos (by simpa using h)];exact h1 h
theorem zc4 (h:a ^ b.toNat=v) (hb:CPow a b):PE X (.BinOp (.Constant (.int a) j p) .Pow (.Constant (.int b) j' p') pos) (tC (.int v)):=by
 intro pins s σ H Q I hq
 exact zj zx9 zc zc pins s σ H Q I ⟨_,_,rfl,rfl,hb,by show Q (V.int (a ^ b.toNat)) H;rw[h];exact hq⟩
theorem zar.get (x:zar P w H h a o):∃ u,h.get? a=some u:=by
 cases o with
 | lst xs=>obtain ⟨_,_,_,_,e⟩:=x;exact ⟨_,e⟩
 | tup xs=>obtain ⟨_,_,_,_,e,_⟩:=x;exact ⟨_,e⟩
 | dK kvs=>obtain ⟨_,_,_,_,_,_,_,e,_⟩:=x;exact ⟨_,e⟩
 | set S n=>obtain ⟨_,_,_,_,e,_⟩:=x;exact ⟨_,e⟩
 | ins C dx fs=>obtain ⟨_,_,_,e,_⟩:=x;exact ⟨_,e⟩
 | own y=>exact x
 | xd fs=>obtain ⟨_,⟨_,_,_,e,_⟩,_⟩:=x;exact ⟨_,e⟩
 | rng lo hi=>obtain ⟨_,_,_,e⟩:=x;exact ⟨_,e⟩
 | frz ob u=>obtain ⟨e,_⟩:=x;exact ⟨_,e⟩
 | tbl ps=>exact ⟨_,(show h.get? a=some _ from x)⟩
 | met f y=>exact ⟨_,(show h.get? a=some _ from x)⟩
 | ext φ=>obtain ⟨_,e,_⟩:=x;exact e
theorem HOk.gone (x:HOk P w H h) (e:h.get? a=none):H a=none:=by
 cases q:H a with
 | none=>rfl
 | some o =>
  obtain ⟨u,z⟩:=(x a o q).get
  rw[e] at z;cases z
section
variable {X:Cx} {pins:List (Addr × Obj)} {σ:St} {H:Hp} {s:Shared} {h':Heap} {hid:List Addr}
end
section
variable {P:Program} {w:World} {K:W.Frag} {mg:Str->Option Value} {base:Heap} {N:List Str} {qual:Str} {scope:Scope} {f:Addr} {cd:Value} {A:Around} {outer:List Env} {s₀:Shared} {H₀:Hp} {E:XK}
end
section
variable {P:Program} {w:World} {K:W.Frag} {mg:Str->Option Value} {base:Heap} {x:Str} {st:Stmt} {N ps:List Str} {k:Nat} {sp:Sp}
end
section
variable {X:Cx} {x:Str} {p pos:Pos} {e:Expr} {es:List Expr} {t:TA} {j k:Nat} {ps:List Str} {sp:Sp}
end
noncomputable def cA (K:W.Frag) (x:Str):Addr:=match PySem.W.nsIn K mainGlobals x with
 | some (some (.ref C))=>C
 | _=>0
theorem zeS {K:W.Frag} {x:Str} {C:Addr} (e:PySem.W.nsIn K mainGlobals x=some (some (.ref C))):cA K x=C:=by unfold cA;rw[e]
section
variable {X:Cx} {x:Str} {np cpos pos:Pos} {e0:Expr} {rest:List Expr} {t:TA} {E:XK}
end
section
open PySem.Builtin PySem.Builtin.ObjectAttr PySem.Builtin.Getset_descriptor
variable {prog:Program} {w:World} {A:Around} {E:Value->Shared->Prop} {s:Shared} {K:W.Frag} {e C:Addr} {oe:Obj}
end
section
variable {K:W.Frag} {e C:Addr}
end
section
variable {X:Cx}
end
section
variable {X:Cx} {pins:List (Addr × Obj)} {σ:St} {H:Hp} {s:Shared} {e:Addr}
theorem Inv.track (I:Inv X pins σ H s) (hn:H e=none) (h0:X.s₀.heap.get? e=none) (hL:e≠X.env.locals) (hC:∀ x c,X.env.cells.lookup x=some c->c≠e) (hp:∀ p∈X.pn++pins,p.1≠e)
  (new:zar X.prog X.w (upd H e o) s.heap e o):Inv X pins σ (upd H e o) s:=by
 refine ⟨I.ok,I.os,I.bare,⟨I.base.keep,I.base.slot,fun b u q n hx=>?_,I.base.there,fun b xs q=>?_,fun b u v q=>?_,fun b ps q=>?_⟩,I.loc,I.cell,?_,fun x c q=>?_,fun p q=>?_,fun b u q=>?_,I.len⟩
 ·rw[zr (fun z=>by rw[z,h0] at q;cases q)]
  exact I.base.free b u q n hx
 ·have z:=I.base.tups b xs q
  rw[zr (zY z hn)];exact z
 ·have z:=I.base.frzs b u v q
  rw[zr (zY z hn)];exact z
 ·obtain ⟨more,z⟩:=I.base.tbls b ps q
  exact ⟨more,by rw[zr (zY z hn)];exact z⟩
 ·rw[zr (Ne.symm hL)];exact I.free
 ·rw[zr (hC x c q)];exact I.freeC x c q
 ·obtain ⟨a,b,c,d,f⟩:=I.pin p q
  exact ⟨a,by rw[zr (hp p q)];exact b,c,d,f⟩
 ·by_cases hb:b=e
  ·subst hb
   rw[zh] at q;cases q
   exact new
  ·rw[zr hb] at q
   exact (I.hok b u q).stay (fun _ _ _ z=>z) (fun c z=>by rw[zr (zY z hn)];exact z) fun c xs z=>by rw[zr (zY z hn)];exact z
end
section
variable {K:W.Frag} {h:Heap} {mg:Str->Option Value} {x y:Str} {C D:Addr} {v:Bool} {n:String}
theorem zbA (X:K.In h) (a:PySem.W.nsIn K mainGlobals x=some (some (.ref C))):PySem.W.nsIn K mainGlobals x=some (some (.ref C)):=a
theorem zdH (X:K.In h) (G:h.Ns mainGlobals mg) (a:PySem.W.nsIn K mainGlobals x=some (some (.ref C))):mg x=some (.ref (cA K x)):=by
 rw[zeS a];exact PySem.W.mg_of X G a
theorem znC (a:PySem.W.nsIn K mainGlobals x=some (some (.ref C))) (b:PySem.W.nsIn K mainGlobals y=some (some (.ref D))) (q:PySem.W.kitOne K (.ref C) (.ref D)=some v):PySem.W.kitOne K (.ref (cA K x)) (.ref (cA K y))=some v:=by
 rw[zeS a,zeS b];exact q
theorem zl6 (a:PySem.W.nsIn K mainGlobals x=some (some (.ref C))) (q:PySem.W.kitOne K (.ref C) (.type n)=some v):PySem.W.kitOne K (.ref (cA K x)) (.type n)=some v:=by
 rw[zeS a];exact q
end
section
variable {P:Program} {w:World} {K:W.Frag} {mg:Str->Option Value} {base:Heap} {x:Str} {st:Stmt} {N ps:List Str} {k:Nat} {sp:Sp}
end
section
variable {X:Cx} {x:Str} {p pos:Pos} {e:Expr} {es:List Expr} {t:TA} {j k:Nat} {ps:List Str} {sp:Sp}
end
theorem zjM {xs:List V} {k:Int} (h0:0<=k) (h:k<(xs.length:Int)):∃ v,atI xs k=some v/\v∈xs:=by
 have hk:k.toNat<xs.length:=by ac_rfl
 have q:atI xs ((k.toNat:Nat):Int)=some xs[k.toNat]:=zaw (yaa hk)
 rw[show ((k.toNat:Nat):Int)=k by ac_rfl] at q
 exact ⟨_,q,ycq hk⟩
theorem zay {v:V} {xs:List V} {p:V->Prop} (h:p v) (t:∀ x∈xs,p x):∀ x∈v::xs,p x:=fun x hx=>by
 rcases yal.mp hx with rfl | hx
 ·exact h
 ·exact t x hx
theorem zoe {p:V->Prop}:∀ x∈([]:List V),p x:=fun x hx=>by cases hx
theorem zx (s:Same H H') (h:H' a=none):H a=none:=by
 cases q:H a with
 | none=>rfl
 | some o=>rw[s a o q] at h;cases h
theorem zJ {H H':Hp} {l:Addr} {o:HO} (s:Same H H') (h:H l=none):Same H (upd H' l o):=fun b u q=>by
 rw[zr (zY q h)];exact s b u q
theorem zmL:∀ ns:List Int,PyData.canLayAll0 (ns.map PyData.int)=true
 | []=>by simp[PyData.canLayAll0]
 | n::ns=>by simp[PyData.canLayAll0,PyData.canLay0,zmL ns]
theorem znI:∀ ns:List Int,PyData.depthAll (ns.map PyData.int)=0
 | []=>by simp[PyData.depthAll]
 | n::ns=>by simp[PyData.depthAll,PyData.depth,znI ns]
theorem shaped_ints (ns:List Int):SeqAt.shaped (.list (ns.map PyData.int))=true:=by
 simp[SeqAt.shaped,PyData.canLay0,PyData.depth,zmL,znI]
theorem zmD:∀ ns:List Int,PyData.eqvAll (ns.map PyData.int) (ns.map PyData.int)=true
 | []=>by simp[PyData.eqvAll]
 | n::ns=>by simp[PyData.eqvAll,PyData.eqv,zmD ns]
theorem zvW (ns:List Int):PyData.eqv (.list (ns.map PyData.int)) (.list (ns.map PyData.int))=true:=by
 simp[PyData.eqv,zmD]
end L2
namespace L2
open PySem PySem.W PyProof.Rows
def zU (t u:TS):TS:=zal t u
theorem zb {X:Cx} {st:Stmt} {rest:List Stmt} {t u:TS} (h1:PS X st t) (h2:PSs X rest u):PSs X (st::rest) (zU t u):=zwC h1 h2
def Mkd (p:Prop):Prop:=p
variable {t1 t2 t3 t4 t5 t6 t7 t8 t9 t10:TS} {D:Ends} {σ:St} {H:Hp}
theorem sqG (h:Mkd (zU t1 t2 D σ H)):zU t1 t2 D σ H:=h
theorem zzW (h:let v1:=t2;zal t1 v1 D σ H):Mkd ((zU t1 t2) D σ H):=h
theorem zzH (h:let v2:=t3;let v1:=zal t2 v2;zal t1 v1 D σ H):Mkd ((zU t1 (zU t2 t3)) D σ H):=h
theorem zzT (h:let v3:=t4;let v2:=zal t3 v3;let v1:=zal t2 v2;zal t1 v1 D σ H):Mkd ((zU t1 (zU t2 (zU t3 t4))) D σ H):=h
theorem zzU (h:let v4:=t5;let v3:=zal t4 v4;let v2:=zal t3 v3;let v1:=zal t2 v2;zal t1 v1 D σ H):Mkd ((zU t1 (zU t2 (zU t3 (zU t4 t5)))) D σ H):=h
theorem zzQ (h:let v5:=t6;let v4:=zal t5 v5;let v3:=zal t4 v4;let v2:=zal t3 v3;let v1:=zal t2 v2;zal t1 v1 D σ H):Mkd ((zU t1 (zU t2 (zU t3 (zU t4 (zU t5 t6))))) D σ H):=h
theorem zz1 (h:let v6:=t7;let v5:=zal t6 v6;let v4:=zal t5 v5;let v3:=zal t4 v4;let v2:=zal t3 v3;let v1:=zal t2 v2;zal t1 v1 D σ H):Mkd ((zU t1 (zU t2 (zU t3 (zU t4 (zU t5 (zU t6 t7)))))) D σ H):=h
theorem zzD (h:let v7:=t8;let v6:=zal t7 v7;let v5:=zal t6 v6;let v4:=zal t5 v5;let v3:=zal t4 v4;let v2:=zal t3 v3;let v1:=zal t2 v2;zal t1 v1 D σ H):Mkd ((zU t1 (zU t2 (zU t3 (zU t4 (zU t5 (zU t6 (zU t7 t8))))))) D σ H):=h
theorem zzI (h:let v8:=t9;let v7:=zal t8 v8;let v6:=zal t7 v7;let v5:=zal t6 v6;let v4:=zal t5 v5;let v3:=zal t4 v4;let v2:=zal t3 v3;let v1:=zal t2 v2;zal t1 v1 D σ H):Mkd ((zU t1 (zU t2 (zU t3 (zU t4 (zU t5 (zU t6 (zU t7 (zU t8 t9)))))))) D σ H):=h
theorem zyT (h:let v9:=t10;let v8:=zal t9 v9;let v7:=zal t8 v8;let v6:=zal t7 v7;let v5:=zal t6 v6;let v4:=zal t5 v5;let v3:=zal t4 v4;let v2:=zal t3 v3;let v1:=zal t2 v2;zal t1 v1 D σ H):Mkd ((zU t1 (zU t2 (zU t3 (zU t4 (zU t5 (zU t6 (zU t7 (zU t8 (zU t9 t10))))))))) D σ H):=h
inductive Ee4 {α0 α1 α2 α3:Type} (p:α0->α1->α2->α3->Prop):Prop | mk (x0:α0) (x1:α1) (x2:α2) (x3:α3) (h:p x0 x1 x2 x3):Ee4 p
inductive Ee5 {α0 α1 α2 α3 α4:Type} (p:α0->α1->α2->α3->α4->Prop):Prop | mk (x0:α0) (x1:α1) (x2:α2) (x3:α3) (x4:α4) (h:p x0 x1 x2 x3 x4):Ee5 p
inductive Ee6 {α0 α1 α2 α3 α4 α5:Type} (p:α0->α1->α2->α3->α4->α5->Prop):Prop | mk (x0:α0) (x1:α1) (x2:α2) (x3:α3) (x4:α4) (x5:α5) (h:p x0 x1 x2 x3 x4 x5):Ee6 p
inductive Ee7 {α0 α1 α2 α3 α4 α5 α6:Type} (p:α0->α1->α2->α3->α4->α5->α6->Prop):Prop | mk (x0:α0) (x1:α1) (x2:α2) (x3:α3) (x4:α4) (x5:α5) (x6:α6) (h:p x0 x1 x2 x3 x4 x5 x6):Ee7 p
inductive Ee8 {α0 α1 α2 α3 α4 α5 α6 α7:Type} (p:α0->α1->α2->α3->α4->α5->α6->α7->Prop):Prop | mk (x0:α0) (x1:α1) (x2:α2) (x3:α3) (x4:α4) (x5:α5) (x6:α6) (x7:α7) (h:p x0 x1 x2 x3 x4 x5 x6 x7):Ee8 p
inductive Ee9 {α0 α1 α2 α3 α4 α5 α6 α7 α8:Type} (p:α0->α1->α2->α3->α4->α5->α6->α7->α8->Prop):Prop | mk (x0:α0) (x1:α1) (x2:α2) (x3:α3) (x4:α4) (x5:α5) (x6:α6) (x7:α7) (x8:α8) (h:p x0 x1 x2 x3 x4 x5 x6 x7 x8):Ee9 p
inductive zya {α0 α1 α2 α3 α4 α5 α6 α7 α8 α9 α10 α11:Type} (p:α0->α1->α2->α3->α4->α5->α6->α7->α8->α9->α10->α11->Prop):Prop | mk (x0:α0) (x1:α1) (x2:α2) (x3:α3) (x4:α4) (x5:α5) (x6:α6) (x7:α7) (x8:α8) (x9:α9) (x10:α10) (x11:α11) (h:p x0 x1 x2 x3 x4 x5 x6 x7 x8 x9 x10 x11):zya p
inductive Aa3 (a0 a1 a2:Prop):Prop | mk (h0:a0) (h1:a1) (h2:a2):Aa3 a0 a1 a2
inductive Aa4 (a0 a1 a2 a3:Prop):Prop | mk (h0:a0) (h1:a1) (h2:a2) (h3:a3):Aa4 a0 a1 a2 a3
inductive Aa5 (a0 a1 a2 a3 a4:Prop):Prop | mk (h0:a0) (h1:a1) (h2:a2) (h3:a3) (h4:a4):Aa5 a0 a1 a2 a3 a4
inductive Aa6 (a0 a1 a2 a3 a4 a5:Prop):Prop | mk (h0:a0) (h1:a1) (h2:a2) (h3:a3) (h4:a4) (h5:a5):Aa6 a0 a1 a2 a3 a4 a5
inductive Aa7 (a0 a1 a2 a3 a4 a5 a6:Prop):Prop | mk (h0:a0) (h1:a1) (h2:a2) (h3:a3) (h4:a4) (h5:a5) (h6:a6):Aa7 a0 a1 a2 a3 a4 a5 a6
inductive Aa8 (a0 a1 a2 a3 a4 a5 a6 a7:Prop):Prop | mk (h0:a0) (h1:a1) (h2:a2) (h3:a3) (h4:a4) (h5:a5) (h6:a6) (h7:a7):Aa8 a0 a1 a2 a3 a4 a5 a6 a7
inductive Aa9 (a0 a1 a2 a3 a4 a5 a6 a7 a8:Prop):Prop | mk (h0:a0) (h1:a1) (h2:a2) (h3:a3) (h4:a4) (h5:a5) (h6:a6) (h7:a7) (h8:a8):Aa9 a0 a1 a2 a3 a4 a5 a6 a7 a8
inductive zqC (a0 a1 a2 a3 a4 a5 a6 a7 a8 a9:Prop):Prop | mk (h0:a0) (h1:a1) (h2:a2) (h3:a3) (h4:a4) (h5:a5) (h6:a6) (h7:a7) (h8:a8) (h9:a9):zqC a0 a1 a2 a3 a4 a5 a6 a7 a8 a9
inductive zx8 (a0 a1 a2 a3 a4 a5 a6 a7 a8 a9 a10 a11:Prop):Prop | mk (h0:a0) (h1:a1) (h2:a2) (h3:a3) (h4:a4) (h5:a5) (h6:a6) (h7:a7) (h8:a8) (h9:a9) (h10:a10) (h11:a11):zx8 a0 a1 a2 a3 a4 a5 a6 a7 a8 a9 a10 a11
end L2
namespace L2
open PySem PySem.Spec PyProof.Rows
section
variable {X:Cx}
end
section
variable {prog:Program} {w:World} {A:Around} {E:Value->Shared->Prop} {s:Shared} {K:W.Frag} {e C f:Addr} {oe:Obj}
end
section
open PySem.Builtin PySem.Builtin.ObjectAttr
variable {prog:Program} {w:World} {A:Around} {E:Value->Shared->Prop} {s:Shared} {K:W.Frag} {e C f dx:Addr} {oe:Obj} {vs:Array Value} {mA:Str->Option Value} {name:Str} {v:Value}
end
section
open PySem.Builtin PySem.Builtin.ObjectAttr
variable {prog:Program} {w:World} {A:Around} {E:Value->Shared->Prop} {s:Shared} {K:W.Frag} {x C f dx:Addr} {o:Obj} {vs:Array Value} {mA:Str->Option Value} {name:Str} {v:Value}
set_option maxHeartbeats 2000000 in
end
section
variable {X:Cx} {pins:List (Addr × Obj)} {σ:St} {H:Hp} {s:Shared} {e:Addr}
theorem Inv.zrV (I:Inv X pins σ H s) (hn:s.heap.get? e=none) (hex:X.ex=[]):X.s₀.heap.get? e=none/\e≠X.env.locals/\(∀ x c,X.env.cells.lookup x=some c->c≠e)/\∀ p∈X.pn++pins,p.1≠e:=by
 refine ⟨?_,fun z=>?_,fun x c q z=>?_,fun p hp z=>?_⟩
 ·cases q:X.s₀.heap.get? e with
  | none=>rfl
  | some o =>
   obtain ⟨o',e1⟩:=I.base.there e o q (by rw[hex];simp)
   rw[hn] at e1;cases e1
 ·obtain ⟨m,⟨o,es,ep,ho,_⟩,_⟩:=I.loc
  rw[<-z,hn] at ho;cases ho
 ·obtain ⟨v,o,ho,hd⟩:=I.cell x c q
  rw[z,hn] at ho;cases ho
 ·have:=(I.pin p hp).1
  rw[z,hn] at this;cases this
theorem Inv.znm (I:Inv X pins σ H s) (k:∀ b u,s.heap.get? b=some u->h'.get? b=some u) (hn:s.heap.get? e=none) (hex:X.ex=[]) (new:zar X.prog X.w (upd H e o) h' e o) :
  Inv X pins σ (upd H e o) { s with heap:=h',toks:=t' } :=
 let ⟨a,b,c,d⟩:=I.zrV hn hex
 (I.kept (t':=t') k).track (I.hok.gone hn) a b c d new
end
section
variable {X:Cx} {x:Str} {np pos:Pos} {e0:Expr} {rest:List Expr} {t:TA}
end
section
variable {X:Cx} {o value:Expr} {name:Str} {pos pos':Pos} {ta tv:TE} {C f:Addr}
end
section
variable {X:Cx} {x:Str} {np pos:Pos} {e0:Expr} {t:TA} {C f:Addr} {fd:FuncData} {ps:List Str} {name:Str} {j k:Nat}
end
section
variable {X:Cx} {o:Expr} {name:Str} {pos:Pos} {ta:TE} {C:Addr}
end
section
variable {K:W.Frag} {h:Heap} {mg:Str->Option Value} {x:Str} {C f D:Addr}
theorem zT (a:PySem.W.nsIn K mainGlobals x=some (some (.ref C))) (q:PySem.W.findIn K (.ref C) name=some none):PySem.W.findIn K (.ref (cA K x)) name=some none:=by rw[zeS a];exact q
end
namespace za5
def Up (xs:Array Nat):Prop:=xs.toList.Pairwise (·<·)
theorem zqc (h:Up xs) (hi:i<j) (hj:j<xs.size) (d e:Nat):xs.getD i d<xs.getD j e:=by
 have hi':i<xs.size:=by ac_rfl
 have q:=ybb.mp h i j (by simpa using hi') (by simpa using hj) hi
 simpa [yec,hi',hj] using q
theorem zoO (h:Up xs):∀ (fuel lo hi:Nat),lo<=hi->hi<=xs.size->hi-lo<=fuel->(∀ i,i<lo->xs.getD i j<j)->(∀ i,hi<=i->i<xs.size->j<=xs.getD i j) ->
  SetTable.below.go xs j fuel lo hi<=xs.size/\(∀ i,i<SetTable.below.go xs j fuel lo hi->xs.getD i j<j)/\∀ i,SetTable.below.go xs j fuel lo hi<=i->i<xs.size->j<=xs.getD i j
 | 0,lo,hi,h1,h2,h3,a,b=>by
  unfold SetTable.below.go
  exact ⟨by ac_rfl,a,fun i p q=>b i (by ac_rfl) q⟩
 | fuel+1,lo,hi,h1,h2,h3,a,b=>by
  unfold SetTable.below.go
  by_cases hl:lo<hi
  ·rw[if_pos hl]
   dsimp only
   by_cases hm:xs.getD ((lo+hi) / 2) j<j
   ·rw[if_pos hm]
    refine zoO h fuel _ hi (by ac_rfl) h2 (by ac_rfl) (fun i q=>?_) b
    by_cases e:i=(lo+hi) / 2
    ·rw[e];exact hm
    ·exact ydh (zqc h (by ac_rfl) (by ac_rfl) j j) hm
   ·rw[if_neg hm]
    refine zoO h fuel lo _ (by ac_rfl) (by ac_rfl) (by ac_rfl) a (fun i q r=>?_)
    by_cases e:i=(lo+hi) / 2
    ·rw[e];ac_rfl
    ·have:=zqc h (i:=(lo+hi) / 2) (j:=i) (by ac_rfl) r j j
     ac_rfl
  ·rw[if_neg hl]
   exact ⟨by ac_rfl,a,fun i p q=>b i (by ac_rfl) q⟩
theorem znB (h:Up xs) (j:Nat):SetTable.below xs j<=xs.size/\(∀ i,i<SetTable.below xs j->xs.getD i j<j)/\∀ i,SetTable.below xs j<=i->i<xs.size->j<=xs.getD i j:=by
 unfold SetTable.below
 exact zoO h _ _ _ (yda _) (ycx _) (by ac_rfl) (fun i q=>by ac_rfl) fun i p q=>by ac_rfl
theorem zu6 (h:Up xs) (hj:xs[SetTable.below xs j]?≠some j):Up (SetTable.insertAt xs (SetTable.below xs j) j):=by
 obtain ⟨h0,h1,h2⟩:=znB h j
 generalize SetTable.below xs j=p at *
 unfold Up
 rw[SetTable.toList_insertAt]
 have e:xs.toList=xs.toList.take p++xs.toList.drop p:=(List.take_append_drop p _).symm
 have hp:(xs.toList.take p++xs.toList.drop p).Pairwise (·<·):=by rw[<-e];exact h
 obtain ⟨a,b,c⟩:=ybe.mp hp
 have lo:∀ x∈xs.toList.take p,x<j:=fun x hx=>by
  obtain ⟨i,hi,rfl⟩:=yax.mp hx
  rw[yaz,ydy] at hi
  have:=h1 i (by ac_rfl)
  rw[List.getElem_take]
  simpa [yec,show i<xs.size by ac_rfl] using this
 have hi:∀ x∈xs.toList.drop p,j<x:=fun x hx=>by
  obtain ⟨i,hi,rfl⟩:=yax.mp hx
  rw[ycp,ydy] at hi
  have q:=h2 (p+i) (by ac_rfl) (by ac_rfl)
  rw[List.getElem_drop]
  have g:xs.getD (p+i) j=xs.toList[p+i]'(by rw[ydy];ac_rfl):=by simp[yec,show p+i<xs.size by ac_rfl]
  rw[g] at q
  refine Nat.lt_of_le_of_ne q fun z=>?_
  by_cases i0:i=0
  ·subst i0
   apply hj
   rw[ydz (by ac_rfl:p<xs.size),z]
   simp
  ·have q0:=h2 p (ycx _) (by ac_rfl)
   have lt:=zqc h (i:=p) (j:=p+i) (by ac_rfl) (by ac_rfl) j j
   rw[g,<-z] at lt
   ac_rfl
 exact ybe.mpr ⟨a,ybr.mpr ⟨hi,b⟩,fun x hx y hy=>by
  rcases yal.mp hy with rfl | hy
  ·exact lo x hx
  ·exact c x hx y hy⟩
structure Tab (bt:Bool) (t:SetTable):Prop where
 led:t.led=!bt
 dum:t.dummies=#[]
 up:t.plain=true->Up t.place
theorem has_none (j:Nat):SetTable.has #[] j=false:=by simp[SetTable.has]
theorem zug {t:SetTable} (hd:t.dummies=#[]) (j:Nat):t.slot j≠.dummy:=by
 unfold SetTable.slot
 dsimp only
 split
 ·intro z;cases z
 ·rw[hd,has_none];intro z;simp at z
theorem zmA {t:SetTable} (hd:t.dummies=#[]) {f:Nat->Int} {h:Int}:∀ (fuel:Nat) (p:SetTable.Probe) {j:Nat} {d:Option Nat},p.dummy=none->SetTable.probe.go t f h fuel p=some (.empty j d)->d=none/\t.slot j=.empty
 | 0,p,j,d,hp,e=>by simp[SetTable.probe.go] at e
 | fuel+1,p,j,d,hp,e=>by
  have adv:∀ q:SetTable.Probe,q.dummy=none->(t.advance q).dummy=none:=fun q hq=>by
   unfold SetTable.advance
   split
   ·exact hq
   ·exact hq
  unfold SetTable.probe.go at e
  cases hs:t.slot p.j with
  | empty =>
   rw[hs] at e
   cases e
   exact ⟨hp,hs⟩
  | dummy=>exact absurd hs (zug hd _)
  | live i =>
   rw[hs] at e
   dsimp only at e
   split at e
   ·cases e
   ·exact zmA hd fuel _ (adv p hp) e
theorem zpd {t:SetTable} (hd:t.dummies=#[]) {h:Int} {j:Nat} {b:Bool} (e:t.freeSlot h=some (j,b)):t.place[SetTable.below t.place j]?≠some j:=by
 unfold SetTable.freeSlot at e
 split at e
 ·rename_i j' d' q
  obtain ⟨rfl,hs⟩:=zmA hd _ _ rfl (show SetTable.probe.go t _ h _ _=_ from q)
  cases e
  intro z
  have z':t.place[SetTable.below t.place j']?=some j':=z
  unfold SetTable.slot at hs
  dsimp only at hs
  rw[if_pos (by rw[z'];simp)] at hs
  cases hs
 ·cases e
theorem zie (T:Tab bt t) (n:Nat):Tab bt (t.standIn n):=⟨T.led,rfl,fun z=>by cases z⟩
theorem ztr (T:Tab bt t) (hj:t.place[SetTable.below t.place j]?≠some j):Tab bt (t.put j).1 :=
 ⟨T.led,by show (if SetTable.has t.dummies j then _ else t.dummies)=#[];rw[T.dum,has_none];rfl,fun z=>zu6 (T.up z) hj⟩
theorem zxc {bt:Bool} {t:SetTable} (T:Tab bt t) (es:Array (Int × Value)) (h:Int) (x:Value):Tab bt (layNew t es h x).2.1:=by
 unfold layNew
 split
 ·rename_i j b e
  dsimp only
  unfold SetTable.orStandIn
  split
  ·exact ztr T (zpd T.dum e)
  ·exact zie (ztr T (zpd T.dum e)) _
 ·exact zie T _
theorem zxF (owner:Array (Option Nat)) (m:Nat):(((yba m).filterMap fun j=>(owner.getD j none).map (fun k=>(j,k))).map (·.1)).Pairwise (·<·):=by
 have e:(((yba m).filterMap fun j=>(owner.getD j none).map (fun k=>(j,k))).map (·.1))=(yba m).filter fun j=>(owner.getD j none).isSome:=by
  generalize yba m=l
  induction l with
  | nil=>rfl
  | cons a l ih =>
   cases q:owner.getD a none with
   | none=>rw[ycf,q,List.filter_cons,q];simpa using ih
   | some k=>rw[ycf,q,List.filter_cons,q];simpa using ih
 rw[e]
 exact List.Pairwise.filter _ (List.pairwise_lt_range)
theorem zyL (T:Tab bt t) (es:Array (Int × Value)) (n:Nat):Tab bt (relayAll t es n).2.1:=by
 unfold relayAll
 split
 ·rename_i t' order e
  dsimp only
  split
  ·unfold SetTable.relaid SetTable.laid at e
   simp only[Option.bind_eq_bind,Option.bind_eq_some_iff] at e
   obtain ⟨owner,_,e⟩:=e
   cases e
   refine ⟨T.led,rfl,fun _=>?_⟩
   unfold Up
   simpa using zxF owner _
  ·exact zie T _
 ·exact zie T _
theorem zvv (bt:Bool):Tab bt (.fresh 0 0 (!bt)):=⟨rfl,rfl,fun _=>List.Pairwise.nil⟩
end za5
namespace za5
noncomputable def intOf:Value->Int
 | .int i _=>i
 | _=>0
theorem zru (h:Value.isInt k v=true):intOf v=k:=by
 obtain ⟨t,rfl⟩:=Value.isInt_shape h
 rfl
structure zdE (prog:Program) (w:World) (h:Heap) (a:Addr) (ms:List Int):Prop where
 ex:∃ o es ep t,(h.get? a=some o/\o.ExactSet/\o.data=.set es ep t)/\(ElemsOf (intKind prog w) es.toList/\es.size<scanBound/\t.fits es.size=true)/\Tab (w.params.followText "set-order") t /\
  es.toList.map (fun e=>intOf e.2)=ms
 nd:ms.Nodup
theorem zrg (hl:ElemsOf (intKind prog w) l) (k:Int):(∃ e∈l,Value.isInt k e.2=true)↔k∈l.map fun e=>intOf e.2:=by
 constructor
 ·rintro ⟨e,he,q⟩
  exact yag.mpr ⟨e,he,zru q⟩
 ·intro q
  obtain ⟨e,he,rfl⟩:=yag.mp q
  obtain ⟨⟨k',hk,_⟩,_⟩:=hl e he
  refine ⟨e,he,?_⟩
  rw[zru hk];exact hk
section
variable {prog:Program} {w:World} {A:Around} {E:Value->Shared->Prop} {s:Shared} {a:Addr} {ms:List Int} {k:Int} {tk:Tok}
theorem xadd (S:zdE prog w s.heap a ms) (room:ms.length+1<scanBound)
  (hQ:∀ b h' ms',Heap.SameBut a s.heap h'->zdE prog w h' a ms'->(∀ m,m∈ms'↔m∈ms\/m=k)->ms'.length<=ms.length+1->Q b { s with heap:=h' }) :
  wpAny (model prog w) A (setAddHashed a (.int k tk) (hashInt k)) Q E s:=by
 obtain ⟨⟨o,es,ep,t,⟨ho,hex,hd⟩,⟨hel,hb,hf⟩,T,rfl⟩,nd⟩:=S
 have hlen:(es.toList.map fun e=>intOf e.2).length=es.size:=by simp
 have hkey:(intKind prog w).is k (.int k tk)=true:=intKind_is prog w k tk
 unfold setAddHashed setAddHashedIn
 refine wpAny_holding (wpAny_bind (wpAny_setState_of ho hd hf ?_))
 dsimp only
 rw[byScan_of (knd:=intKind prog w) rfl hb hel]
 simp only[↓reduceIte]
 unfold setAddByScan
 refine wpAny_bind (wpAny_bind (wpAny_rule (wpAny_bind (wpAny_setScan_of (knd:=intKind prog w) hkey ho hd hf hel ?_))))
 cases hr:List.findIdx? (fun e=>(intKind prog w).is k e.2) es.toList with
 | some j =>
  obtain ⟨hj,hpj,_⟩:=List.findIdx?_eq_some_iff_getElem.mp hr
  have hm:k∈es.toList.map fun e=>intOf e.2:=(zrg hel k).mp ⟨es.toList[j],ycq hj,hpj⟩
  refine wpAny_pure (wpAny_pure ?_)
  have z:=hQ false s.heap _ (Heap.SameBut.refl a s.heap) ⟨⟨o,es,ep,t,⟨ho,hex,hd⟩,⟨hel,hb,hf⟩,T,rfl⟩,nd⟩ (fun m=>⟨.inl,fun q=>q.elim id fun e=>e ▸ hm⟩) (by ac_rfl)
  exact z
 | none =>
  have hm:k ∉ es.toList.map fun e=>intOf e.2:=fun q=>by
   obtain ⟨e,he,hp⟩:=(zrg hel k).mpr q
   have:=List.findIdx?_eq_none_iff.mp hr e he
   rw[show (intKind prog w).is k e.2=true from hp] at this
   cases this
  dsimp only
  have hperm:=layNew_perm t es (hashInt k) (.int k tk)
  have hfits:=layNew_fits t es (hashInt k) (.int k tk)
  have T1:=zxc T es (hashInt k) (.int k tk)
  generalize layNew t es (hashInt k) (.int k tk)=L at hperm hfits T1 ⊢
  obtain ⟨es1,t1,dm,gave⟩:=L
  dsimp only at hperm hfits T1 ⊢
  rw[Array.toList_push] at hperm
  have el1:ElemsOf (intKind prog w) es1.toList:=(hel.push (k:=k) hkey rfl).perm hperm
  have sz1:es1.size=es.size+1:=by rw[<-ydy,hperm.length_eq,yaf,ydy];rfl
  have hb1:es1.size<scanBound:=by ac_rfl
  have pm:(es1.toList.map fun e=>intOf e.2).Perm ((es.toList.map fun e=>intOf e.2)++[k]):=by
   have:=hperm.map fun e=>intOf e.2
   rw[yar] at this
   exact this
  have nd1:(es1.toList.map fun e=>intOf e.2).Nodup:=pm.nodup_iff.mpr (ycd.mpr ⟨nd,(ybo _ _),fun x hx y hy z=>hm (by rw[ybs] at hy;rw[<-hy,<-z];exact hx)⟩)
  have mm:∀ m,m∈(es1.toList.map fun e=>intOf e.2)↔m∈(es.toList.map fun e=>intOf e.2)\/m=k:=fun m=>by rw[pm.mem_iff,yae,ybs]
  have len1:(es1.toList.map fun e=>intOf e.2).length<=(es.toList.map fun e=>intOf e.2).length+1:=by rw[pm.length_eq,yaf];exact ycx _
  have fin:∀ h' es2 t2 ep2 o2,(h'.get? a=some o2/\o2.ExactSet/\o2.data=.set es2 ep2 t2)->es2.toList.Perm es1.toList->t2.fits es2.size=true->Tab (w.params.followText "set-order") t2->Heap.SameBut a s.heap h'->Q true { s with heap:=h' } :=
   fun h' es2 t2 ep2 o2 hg p2 f2 T2 sb=>by
    have q2:=p2.map fun e=>intOf e.2
    have z2:es2.size=es1.size:=by rw[<-ydy,p2.length_eq,ydy]
    refine hQ true h' _ sb ⟨⟨o2,es2,ep2,t2,hg,⟨el1.perm p2,by ac_rfl,f2⟩,T2,rfl⟩,q2.nodup_iff.mpr nd1⟩ (fun m=>(q2.mem_iff).trans (mm m)) ?_
    rw[q2.length_eq];exact len1
  have put:∀ {h:Heap} {o1:Obj} {e1:Array (Int × Value)} {p1:Nat} {u1:SetTable},h.get? a=some o1->o1.ExactSet->o1.data=.set e1 p1 u1->∀ (e2:Array (Int × Value)) (u2:SetTable),
    (h.update a (Obj.putSet e2 u2)).get? a=some { o1 with data:=.set e2 (p1+1) u2 }:=fun {h o1 e1 p1 u1} q1 _ q3 e2 u2=>by
   have z:=ydr (Obj.putSet e2 u2) q1 (by rw[putSet_of e2 u2 q3];rfl)
   rw[putSet_of e2 u2 q3] at z
   exact z
  have tl:∀ (Q':Option Bool->Shared->Prop),(∀ h',Q true { s with heap:=h' }->Q' (some true) { s with heap:=h' })->wpAny (model prog w) A (storeSet a es1 t1) (fun _ s1=>(dm=false/\t1.tooFull=true->∀ g:Sem Unit,(∀ Q₀:Unit->Shared->Prop,Q₀ () s1->wpAny (model prog w) A g Q₀ E s1) ->
    wpAny (model prog w) A (g >>= fun _=>storeSet a (relayAll t1 es1 (SetTable.grown es1.size)).1 (relayAll t1 es1 (SetTable.grown es1.size)).2.1 >>= fun _=>pure (some true)) Q' E s1)/\Q' (some true) s1) E s:=fun Q' hq=>by
   refine wpAny_storeSet_of ho hd ?_ (fits_of_scanBound hb1)
   have g1:=put ho hex hd es1 t1
   have sb1:=Heap.SameBut.update s.heap a (Obj.putSet es1 t1)
   refine ⟨fun _ g hg=>wpAny_bind (hg _ ?_),hq _ (fin _ es1 t1 _ _ ⟨g1,hex,rfl⟩ .rfl hfits T1 sb1)⟩
   have p2:=relayAll_perm t1 es1 (SetTable.grown es1.size)
   have f2:=relayAll_fits t1 es1 (SetTable.grown es1.size)
   have T2:=zyL T1 es1 (SetTable.grown es1.size)
   generalize relayAll t1 es1 (SetTable.grown es1.size)=L2 at p2 f2 T2 ⊢
   obtain ⟨es2,t2,gv2⟩:=L2
   dsimp only at p2 f2 T2 ⊢
   have z2:es2.size=es1.size:=by rw[<-ydy,p2.length_eq,ydy]
   refine wpAny_bind (wpAny_storeSet_of g1 rfl (wpAny_pure (hq _ ?_)) (fits_of_scanBound (by ac_rfl)))
   exact fin _ es2 t2 _ _ ⟨put g1 hex rfl es2 t2,hex,rfl⟩ p2 f2 T2 (sb1.trans (Heap.SameBut.update _ a _))
  refine wpAny_bind ?_
  cases gave
  all_goals
   first | refine wpAny_pure ?_ | refine wpAny_rule ?_
   split
   all_goals
    refine wpAny_bind ?_
    try rw[hashByValue_scannable 8 (show (Value.int k tk).scannable=true from rfl)]
    refine wpAny_pure ?_
    simp only[plainKind,↓reduceIte]
    refine wpAny_bind (wpAny_mono (tl (fun r s'=>wpAny (model prog w) A (match r with | some added=>pure added | none=>setAddHashedIn a (Value.int k tk) (hashInt k) 99999) Q E s') fun h' z=>wpAny_pure z) (fun _ s1 hz=>?_) fun _ _ z=>z)
    obtain ⟨hz1,hz2⟩:=hz
    split
    ·rename_i hc
     simp only[Bool.and_eq_true,Bool.not_eq_true'] at hc
     refine hz1 hc _ fun Q₀ q₀=>?_
     generalize (relayAll t1 es1 (SetTable.grown es1.size)).2.2=gb
     cases gb
     ·exact wpAny_pure q₀
     ·exact wpAny_rule q₀
    ·exact wpAny_pure hz2
end
end za5
namespace za5
theorem zdE.keep (S:zdE prog w h a ms) (k:∀ o,h.get? a=some o->h'.get? a=some o):zdE prog w h' a ms:=by
 obtain ⟨⟨o,es,ep,t,⟨ho,r⟩,r2⟩,nd⟩:=S
 exact ⟨⟨o,es,ep,t,⟨k o ho,r⟩,r2⟩,nd⟩
section
variable {prog:Program} {w:World} {A:Around} {R:Result->Shared->Prop} {I a:Addr} {fp wr:List Addr} {G:Array GenState->Array GenState->Prop} {n:Nat} {P:Nat->Value->Prop} {St:Nat->Shared->Prop} {val:Nat->Int}
theorem xloop (W:WalksS prog w A.in1 I fp wr G n P St) (ha:a ∉ fp) (hval:∀ i v,P i v->∃ t,v=.int (val i) t) (hb:n+1<scanBound):∀ (k i:Nat) (s:Shared) (ms:List Int),n-i=k->i<=n->St i s->zdE prog w s.heap a ms ->
   (∀ m,m∈ms↔m∈(yba i).map val)->ms.length<=i ->
   (∀ s' ms',Moved (a::wr) G s s'->zdE prog w s'.heap a ms'->(∀ m,m∈ms'↔m∈(yba n).map val)->ms'.length<=n->R (.ok (.ret .none)) s') ->
   codeAny (model prog w) A (.builtin "set.update.loop" ⟨[.ref a,.ref I],[]⟩) R s:=by
 have aw:a ∉ wr:=fun z=>ha (W.sub _ z)
 have sub:∀ b∈wr,b∈a::wr:=fun b z=>yam _ z
 intro k
 induction k with
 | zero =>
  intro i s ms hk hi st S mm hl hR
  obtain rfl:i=n:=by ac_rfl
  refine codeAny_builtin PyProof.Rows.F.entry_set_update_loop ?_
  rw[Around.under_plainId PyProof.Rows.F.plain_set_update_loop _]
  show wpAny _ A.in1 (pyNext (.ref I) >>= _) _ _ s
  refine wpAny_bind (W.done s _ _ st fun s' mv=>wpAny_pure (hR s' ms (mv.mono sub) (S.keep fun o e=>mv.heap a o aw e) mm hl))
 | succ k ih =>
  intro i s ms hk hi st S mm hl hR
  have lt:i<n:=by ac_rfl
  refine codeAny_builtin PyProof.Rows.F.entry_set_update_loop ?_
  rw[Around.under_plainId PyProof.Rows.F.plain_set_update_loop _]
  show wpAny _ A.in1 (pyNext (.ref I) >>= _) _ _ s
  refine wpAny_bind (W.item i s _ _ lt st fun v s' hP st' mv=>?_)
  obtain ⟨t,rfl⟩:=hval i v hP
  have S':=S.keep (h':=s'.heap) fun o e=>mv.heap a o aw e
  show wpAny _ A.in1 (holding [Value.int (val i) t] (setAdd a (.int (val i) t)) >>= _) _ _ s'
  refine wpAny_bind (wpAny_holding ?_)
  unfold setAdd
  refine wpAny_holding (wpAny_bind ((intKind prog w).pyHash (k:=val i) (intKind_is _ _ _ _) ?_))
  refine xadd (s:={ s' with toks:=s'.toks+1 }) (ms:=ms) S' (by ac_rfl) fun b h' ms' sb S2 mm2 l2=>?_
  refine wpAny_pure ⟨plainId_quiet PyProof.Rows.F.plain_set_update_loop _,ih (i+1) _ ms' (by ac_rfl) lt (W.frame _ s' _ _ st' (ydj _) fun b hb o e=>?_) S2 (fun m=>?_) (by ac_rfl) fun s2 ms2 mv2=>hR s2 ms2 ?_⟩
  ·rw[sb.2 b (fun z:b=a=>ha (by rw[<-z];exact hb))];exact e
  ·rw[mm2,mm,List.range_succ,yar,yae]
   simp
  ·refine Moved.trans W.gtrans ((mv.mono sub).then_heap (ydj _) fun b o hb e=>?_) mv2
   rw[sb.2 b (fun z:b=a=>hb (by rw[z];exact yap))];exact e
end
section
variable {prog:Program} {w:World} {A:Around} {E:Value->Shared->Prop} {s:Shared}
noncomputable abbrev empty (w:World):Obj:={ cls:=.type "set", dict:=none,data:=.set #[] 0 (.fresh 0 0 (!w.params.followText "set-order")) }
theorem zzP (v:Value) (h:R (.ok (.ret (.ref s.heap.objs.size))) { s with heap:=s.heap.push (empty w) }) :
  codeAny (model prog w) A (.call (.builtin "set.__new__") ⟨[.type "set", v],[]⟩) R s:=by
 refine codeAny_of_tree ?_
 show wpAny _ A.in1 (checkBuiltinCall "set.__new__" ⟨[.type "set", v],[]⟩ >>= fun _=>again (.builtin "set.__new__" ⟨[.type "set", v],[]⟩)) _ _ s
 refine wpAny_bind (wpAny_of_eq (PySem.F.newCall_set_1 v) (wpAny_pure ⟨plainId_quiet PySem.F.plain_set_new _,codeAny_builtin PySem.F.entry_set_new ?_⟩))
 rw[Around.under_plainId PySem.F.plain_set_new _]
 unfold Builtin.«set.__new__» Builtin.Frozenset.newClass
 have sub:=sub_set_self
 obtain ⟨hp,g,d,tk,os⟩:=s
 dsimp only
 wp_walk
 refine wpAny_askSetting (wpAny_pure ?_)
 simp only[newObj]
 refine wpAny_bind (wpAny_alloc (wpAny_pure (wpAny_pure ?_)))
 exact h
theorem zvh {h:Heap}:zdE prog w (h.push (empty w)) h.objs.size [] :=
 ⟨⟨_,#[],0,_,⟨ydo _ rfl,⟨rfl,rfl,rfl⟩,rfl⟩,⟨(fun e he=>by simp at he),by decide,rfl⟩,zvv _,rfl⟩,List.Pairwise.nil⟩
end
end za5
namespace za5
section
variable {prog:Program} {w:World} {A:Around} {E:Value->Shared->Prop} {s:Shared}
theorem zt5:∀ ns:List Int,(yba ns.length).map (fun i=>ns.getD i 0)=ns:=fun ns=>by
 apply ybw
 intro i
 rw[yai]
 by_cases h:i<ns.length
 ·rw[ycg h,yaa h]
  simp[h]
 ·rw[yaq (by rw[yce];ac_rfl),yaq (by ac_rfl)]
  rfl
theorem zyU (hh:A.handled=none) (hl:s.heap.IsList l items) (hi:IntsAre items.toList ns) (hb:items.size+1<scanBound)
  (h:∀ h' tk ms,zdE prog w h' s.heap.objs.size ms->(∀ m,m∈ms↔m∈ns)->ms.length<=ns.length->(∀ b o,b<s.heap.objs.size->s.heap.get? b=some o->h'.get? b=some o)->R (.ok (.ret .none)) { s with heap:=h',toks:=tk }) :
  codeAny (model prog w) A (.call (.builtin "set.__init__") ⟨[.ref s.heap.objs.size,.ref l],[]⟩) R { s with heap:=s.heap.push (empty w) }:=by
 have hn:items.size=ns.length:=by rw[<-IntsAre.length hi];simp
 have at0:(s.heap.push (empty w)).get? s.heap.objs.size=some (empty w):=ydo _ rfl
 have ty:Shared.TypeIs { s with heap:=s.heap.push (empty w) } (.ref s.heap.objs.size) "set" := ⟨_,at0,rfl⟩
 refine codeAny_call_builtin PySem.F.called_set.init.plain PySem.F.entry_set_init (check_set_init_1 ty ?_)
 obtain ⟨ol,hol,hcl,nl,hdl⟩:=id hl
 have lS:l<s.heap.objs.size:=ydn hol
 obtain ⟨oc,od,odt,osl⟩:=ol
 dsimp only at hcl hdl
 subst hcl hdl
 have hol':=ydm (empty w) hol
 have n1:=PySem.F.sub_list_set
 have n2:=PySem.F.sub_list_frozenset
 have n3:(Value.type "list" == Value.type "dict")=false:=by decide
 have l1:(s.heap.push (empty w)).IsList l items:=⟨_,hol',rfl,nl,rfl⟩
 unfold Builtin.«set.__init__» noKeywords Builtin.Frozenset.updateFrom
 generalize hPI:pyIter=PI
 wp_walk
 subst hPI
 refine wpAny_pyIter_list l1 (wpAny_bind (wpAny_runValue ?_))
 have h3:A.in1.in1.handled=none:=by simp[hh]
 have sz:(s.heap.push (empty w)).objs.size=s.heap.objs.size+1:=ydq _ _
 have ne:l≠(s.heap.push (empty w)).objs.size:=by rw[sz];exact ycy (ydg lS)
 have nf:s.heap.objs.size ∉ [(s.heap.push (empty w)).objs.size,l]:=by
  rw[sz]
  simp only[yal,ybz,or_false,not_or]
  exact ⟨ycy (yde _),ydi lS⟩
 have S0:zdE prog w ((s.heap.push (empty w)).push { cls:=.type "list_iterator", data:=.fields #[.ref l,.int 0 0] }) s.heap.objs.size []:=zvh.keep fun o e=>ydm _ e
 refine xloop (val:=fun i=>ns.getD i 0) ((Walks.list h3 _ l ne items).toS) nf (fun i v q=>IntsAre.int_at hi i v (by rw[yeb];exact q)) hb (items.size-0) 0 _ [] (by ac_rfl) (yda _)
  ?xst ?xS (fun m=>by simp) (yda _) ?_
 case xst=>exact ⟨⟨_,ydo _ rfl,rfl,rfl⟩,l1.push _⟩
 case xS=>exact S0
 intro s' ms mv S mm len
 obtain ⟨h',g',d',tk',os'⟩:=s'
 obtain rfl:g'=s.gens:=mv.gens
 obtain rfl:d'=s.drawn:=mv.drawn
 obtain rfl:os'=s.os:=mv.os
 refine wpAny_pure ?_
 show wpAny _ _ (ret Value.none) _ _ _
 refine wpAny_pure (h h' tk' ms S (fun m=>?_) (by ac_rfl) fun b o lt e=>?_)
 ·rw[mm,hn,zt5]
 ·refine mv.heap b o ?_ (ydm _ (ydm _ e))
  rw[sz]
  simp only[yal,ybz,or_false,not_or]
  exact ⟨ycy lt,ycy (ydg lt)⟩
set_option maxHeartbeats 3200000 in
theorem zsL (hh:A.handled=none) (hl:s.heap.IsList l items) (hi:IntsAre items.toList ns) (hb:items.size+1<scanBound)
  (h:∀ h' tk ms,zdE prog w h' s.heap.objs.size ms->(∀ m,m∈ms↔m∈ns)->ms.length<=ns.length->(∀ b o,b<s.heap.objs.size->s.heap.get? b=some o->h'.get? b=some o)->Q (.ref s.heap.objs.size) { s with heap:=h',toks:=tk }) :
  wpAny (model prog w) A (call (.type "set") [.ref l]) Q E s:=by
 obtain ⟨c,tl,hmro⟩:=PySem.F.called_set.mro
 have m1:=PySem.F.called_set.made
 have m2:=PySem.F.called_set.sub
 have m3:=PySem.F.called_set.notType
 have m4:=PySem.F.called_set.canCreate
 have m5:=PySem.F.typeCall_set_1 (.ref l)
 refine wpAny_call (codeAny_of_tree ?_)
 show wpAny _ _ (callAny (.type "set") _) _ _ _
 refine wpAny_pure ⟨Code.quiet_builtin _ (by decide +kernel),codeAny_builtin PySem.F.entry_type_call ?_⟩
 rw[Around.under_plain (weight_type_call_type "set" [.ref l] []) rfl]
 repeat (any_goals (first | assumption | wp_step))
 refine zzP (.ref l) ?_
 have at0:(s.heap.push (empty w)).get? s.heap.objs.size=some (empty w):=ydo _ rfl
 have ty:Shared.TypeIs { s with heap:=s.heap.push (empty w) } (.ref s.heap.objs.size) "set" := ⟨_,at0,rfl⟩
 have i1:=PySem.F.called_set.init.lookup
 have i2:=PySem.F.called_set.init.bind (.ref s.heap.objs.size)
 show wpAny _ _ _ _ _ _
 repeat (any_goals (first | assumption | wp_step))
 refine zyU (by simp[hh]) hl hi hb fun h' tk ms S mm len kp=>?_
 show wpAny _ _ _ _ _ _
 repeat (any_goals (first | assumption | wp_step))
 exact h _ _ _ S mm len kp
end
end za5
namespace za5
theorem zgU:Slot "set_iterator" "__next__" "set_iterator.__next__" := .of (owner:="set_iterator") (n:="__next__") (by rw[typeLookup_type,builtinLookup_eq_fast];kernel_rfl) (by decide +kernel) (by decide +kernel) (by decide +kernel)
 (by first | exact .inl (by decide +kernel) | exact .inr (by decide +kernel)) (by rw[isSubtype_type];kernel_rfl)
theorem ztn:Slot "set_iterator" "__iter__" "set_iterator.__iter__" := .of (owner:="set_iterator") (n:="__iter__") (by rw[typeLookup_type,builtinLookup_eq_fast];kernel_rfl) (by decide +kernel) (by decide +kernel) (by decide +kernel)
 (by first | exact .inl (by decide +kernel) | exact .inr (by decide +kernel)) (by rw[isSubtype_type];kernel_rfl)
theorem ztg:entryFor table "set_iterator.__next__" = some Builtin.«set_iterator.__next__»:=entryFor_of_tree (by kernel_rfl)
theorem zxu:entryFor table "set_iterator.__iter__" = some Builtin.«dict_keyiterator.__iter__»:=entryFor_alias (id' := "dict_keyiterator.__iter__") (by rw[fastTable_eq_tree];kernel_rfl) rfl (by rw[PySem.W.S.canonicalS_eq];kernel_rfl) (by rw[fastTable_eq_tree];kernel_rfl)
theorem zwc:entryFor table "set.__iter__" = some Builtin.«frozenset.__iter__»:=entryFor_alias (id' := "frozenset.__iter__") (by rw[fastTable_eq_tree];kernel_rfl) rfl (by rw[PySem.W.S.canonicalS_eq];kernel_rfl) (by rw[fastTable_eq_tree];kernel_rfl)
theorem ztE (a:Value):argsOk "set_iterator.__next__" ⟨[a],[]⟩:=by unfold argsOk;kernel_rfl
theorem zxE (a:Value):argsOk "set_iterator.__iter__" ⟨[a],[]⟩:=by unfold argsOk;kernel_rfl
def zb4 (h:Heap) (I a:Addr) (first:Value) (i n ep:Nat):Prop:=∃ o,h.get? I=some o/\o.cls=.type "set_iterator" /\ o.data=.fields #[first,.int i 0,.ref a,.int n 0,.int ep 0]
theorem zb4.ty {s:Shared} {I a:Addr} {first:Value} {i n ep:Nat} (h:zb4 s.heap I a first i n ep):s.TypeIs (.ref I) "set_iterator" := let ⟨_,a,b,_⟩:=h;⟨_,a,b⟩
theorem zb4.keep (x:zb4 h I a first i n ep) (k:∀ o,h.get? I=some o->h'.get? I=some o):zb4 h' I a first i n ep:=let ⟨o,a,b⟩:=x;⟨o,k o a,b⟩
def zbY (h:Heap) (a:Addr) (es:Array (Int × Value)) (ep:Nat) (t:SetTable):Prop:=∃ o,h.get? a=some o/\o.data=.set es ep t/\t.fits es.size=true
theorem zbY.keep (x:zbY h a es ep t) (k:∀ o,h.get? a=some o->h'.get? a=some o):zbY h' a es ep t:=let ⟨o,a,b⟩:=x;⟨o,k o a,b⟩
section
variable {prog:Program} {w:World} {A:Around} {E:Value->Shared->Prop} {s:Shared} {I a:Addr} {es:Array (Int × Value)} {ep:Nat} {t:SetTable}
theorem zcf (O:zbY s.heap a es ep t) (h:Q (es,ep,t) s):wpAny (model prog w) A (setState a) Q E s:=by
 obtain ⟨o,ho,hd,hf⟩:=O
 exact wpAny_setState_of ho hd hf h
theorem zpj (h:zb4 s.heap I a first i n ep) (q:Q (.ref I) s):wpAny (model prog w) A (pyIter (.ref I)) Q E s:=by
 refine wpAny_pyIter_slot h.ty ztn (wpAny_call_entry ztn h.ty zxu ?_ (zxE _))
 exact wpAny_pure ⟨_,rfl, "set_iterator", _,h.ty,zgU.lookup,q⟩
theorem zpb (hh:A.handled=none) (q:∀ h',(∀ b o,h1.get? b=some o->h'.get? b=some o)->Q none { s with heap:=h' }) :
  wpAny (model prog w) A.in1 (newExc (.type "StopIteration") [] >>= fun e=>raiseNew e:Sem Fin) (fun fin s'=>∃ v,fin=.done (.ret v)/\wpAny (model prog w) A (match (Except.ok (some v):Except Value (Option Value)) with | .ok (some v)=>pure (some v) | .ok none=>unsupported "iter:the-iterator's-class-has-lost-its-__next__-amid-the-walk" | .error e=>do if <-isInstance e (.type "StopIteration") then pure none else throw e) Q E s')
   (fun e s'=>wpAny (model prog w) A (do if <-isInstance e (.type "StopIteration") then pure none else throw e) Q E s') { s with heap:=h1 }:=by
 refine wpAny_bind ?_
 simp only[newExc,newTuple]
 refine wpAny_bind (wpAny_newObj_type ?_ (by size_fits))
 refine wpAny_bind (m:=firstArgMember _ _) (wpAny_of_eq (a:=Value.none) (by first | rfl | (simp only[firstArgMember];rfl)) ?_)
 refine wpAny_newObj_type ?_ (by size_fits)
 simp only[raiseNew]
 refine wpAny_bind (wpAny_handled ?_)
 rw[show A.in1.handled=none from hh]
 refine wpAny_bind (wpAny_pure (wpAny_throw ?_))
 refine wpAny_bind (wpAny_isInstance (T:="StopIteration") (b:=true) ⟨_,ydo _ rfl,rfl⟩ isSubtype_stop ?_)
 exact wpAny_pure (q _ fun b o e=>ydm _ (ydm _ e))
end
end za5
namespace za5
section
variable {prog:Program} {w:World} {A:Around} {E:Value->Shared->Prop} {s:Shared} {I a:Addr} {es:Array (Int × Value)} {ep:Nat} {t:SetTable}
theorem zij {h:Heap} {o:Obj} {vs:Array Value} {j:Nat} {x:Value} (ho:h.get? I=some o) (hd:o.data=.fields vs):(h.update I (Obj.mapFields (·.setIfInBounds j x))).get? I=some (Obj.mapFields (·.setIfInBounds j x) o) :=
 ydr _ ho (Obj.isFreed_of_fields (Obj.data_mapFields hd _))
theorem zqW {F i:Nat} {r:Option (Value × Nat)} {Q:Option Value->Shared->Prop} (hh:A.handled=none) (It:zb4 s.heap I a (.int F 0) i es.size ep) (O:zbY s.heap a es ep t)
  (st:∀ (A':Around) (E':Value->Shared->Prop) (Q':Option (Value × Nat)->Shared->Prop),Q' r s->wpAny (model prog w) A' (setNext a F i ep) Q' E' s)
  (h1:∀ x F',r=some (x,F')->∀ h',Heap.SameBut I s.heap h'->zb4 h' I a (.int F' 0) (i+1) es.size ep->Q (some x) { s with heap:=h' })
  (h2:r=none->∀ h',(∀ b o,b≠I->s.heap.get? b=some o->h'.get? b=some o)->Q none { s with heap:=h' }):wpAny (model prog w) A (pyNext (.ref I)) Q E s:=by
 obtain ⟨o,ho,hc,hd⟩:=id It
 unfold pyNext
 refine wpAny_bind (wpAny_attempt (wpAny_callSpecial?_slot (name:=Str.ofString "__next__") It.ty zgU (wpAny_call_entry zgU It.ty ztg ?_ (ztE _))))
 unfold Builtin.«set_iterator.__next__»
 refine wpAny_bind (wpAny_of_eq (a:=(Value.ref I,[])) rfl ?_)
 show wpAny _ _ (fieldsOf (.ref I) >>= _) _ _ s
 refine wpAny_bind (wpAny_fieldsOf ho hd ?_)
 show wpAny _ _ (setEntries a >>= _) _ _ s
 refine wpAny_bind ?_
 unfold setEntries
 refine wpAny_bind (zcf O (wpAny_pure ?_))
 dsimp only
 rw[if_neg (by simp)]
 simp only[Int.toNat_natCast]
 refine wpAny_bind (st _ _ _ ?_)
 cases r with
 | some xf =>
  obtain ⟨x,F'⟩:=xf
  refine wpAny_bind (wpAny_setField ho hd (by simp) ?_)
  have ho1:=zij (j:=0) (x:=rawInt F') ho hd
  have hd1:=Obj.data_mapFields hd (f:=(·.setIfInBounds 0 (rawInt F')))
  refine wpAny_bind (wpAny_setField ho1 hd1 (by simp) (wpAny_pure ⟨x,rfl,wpAny_pure (h1 x F' rfl _ ((Heap.SameBut.update ..).trans (Heap.SameBut.update ..)) ?_)⟩))
  refine ⟨_,zij ho1 hd1,(Obj.cls_mapFields ..).trans ((Obj.cls_mapFields ..).trans hc),?_⟩
  rw[Obj.data_mapFields hd1]
  simp[rawInt]
 | none =>
  refine wpAny_bind (wpAny_setField ho hd (by simp) ?_)
  refine zpb hh fun h' k=>h2 rfl h' fun b o hb e=>k b o ?_
  exact (ydp _ _ _ _ hb).trans e
end
end za5
namespace za5
section
variable {prog:Program} {w:World} {A:Around} {E:Value->Shared->Prop} {s:Shared} {I a T:Addr} {es:Array (Int × Value)} {ep:Nat} {t:SetTable} {ps:Array Value}
def zfa (h:Heap) (T:Addr) (ps:Array Value):Prop:=∃ o n,h.get? T=some o/\o.data=.seq ps n
theorem zfa.keep (x:zfa h T ps) (k:∀ o,h.get? T=some o->h'.get? T=some o):zfa h' T ps:=let ⟨o,n,a,b⟩:=x;⟨o,n,k o a,b⟩
theorem znD {i:Nat} {Q:Option Value->Shared->Prop} (hh:A.handled=none) (It:zb4 s.heap I a (.ref T) i es.size ep) (O:zbY s.heap a es ep t) (P:zfa s.heap T ps)
  (h1:∀ p,ps[i]?=some (.int p 0)->∀ k x,es[p.toNat]?=some (k,x)->∀ h',Heap.SameBut I s.heap h'->zb4 h' I a (.ref T) (i+1) es.size ep->Q (some x) { s with heap:=h' })
  (h2:ps[i]?=none->∀ h',(∀ b o,b≠I->s.heap.get? b=some o->h'.get? b=some o)->Q none { s with heap:=h' })
  (hp:ps[i]?=none\/∃ p k x,ps[i]?=some (.int p 0)/\es[p.toNat]?=some (k,x)):wpAny (model prog w) A (pyNext (.ref I)) Q E s:=by
 obtain ⟨o,ho,hc,hd⟩:=id It
 obtain ⟨oT,nT,hT,hdT⟩:=P
 unfold pyNext
 refine wpAny_bind (wpAny_attempt (wpAny_callSpecial?_slot (name:=Str.ofString "__next__") It.ty zgU (wpAny_call_entry zgU It.ty ztg ?_ (ztE _))))
 unfold Builtin.«set_iterator.__next__»
 refine wpAny_bind (wpAny_of_eq (a:=(Value.ref I,[])) rfl ?_)
 show wpAny _ _ (fieldsOf (.ref I) >>= _) _ _ s
 refine wpAny_bind (wpAny_fieldsOf ho hd ?_)
 show wpAny _ _ (setEntries a >>= _) _ _ s
 refine wpAny_bind ?_
 unfold setEntries
 refine wpAny_bind (zcf O (wpAny_pure ?_))
 dsimp only
 rw[if_neg (by simp)]
 simp only[Int.toNat_natCast]
 refine wpAny_bind (wpAny_seqItems hT hdT ?_)
 dsimp only
 rcases hp with hp | ⟨p,k,x,hp,hx⟩
 ·rw[hp]
  refine wpAny_bind (wpAny_setField ho hd (by simp) ?_)
  have ho1:=zij (j:=0) (x:=rawInt 0) ho hd
  have hd1:=Obj.data_mapFields hd (f:=(·.setIfInBounds 0 (rawInt 0)))
  refine wpAny_bind (wpAny_setField ho1 hd1 (by simp) ?_)
  refine zpb hh fun h' k=>h2 hp h' fun b o hb e=>k b o ?_
  exact (ydp _ _ _ _ hb).trans ((ydp _ _ _ _ hb).trans e)
 ·rw[hp]
  dsimp only
  refine wpAny_bind ?_
  unfold setNextDrawn
  refine wpAny_bind (zcf O ?_)
  dsimp only
  rw[if_neg (by simp),hx]
  refine wpAny_pure (wpAny_bind (wpAny_setField ho hd (by simp) (wpAny_pure ⟨x,rfl,wpAny_pure (h1 p hp k x hx _ (Heap.SameBut.update ..) ?_)⟩)))
  refine ⟨_,zij ho hd,(Obj.cls_mapFields ..).trans hc,?_⟩
  rw[Obj.data_mapFields hd]
  simp[rawInt]
theorem zu3 (hh:A.handled=none) (ne:a≠I) {F:Nat->Nat} {ord:Nat->Value} (st:∀ i,i<=es.size->∀ (s:Shared),zbY s.heap a es ep t->∀ (A':Around) (E':Value->Shared->Prop) (Q':Option (Value × Nat)->Shared->Prop),
   Q' (if i<es.size then some (ord i,F (i+1)) else none) s->wpAny (model prog w) A' (setNext a (F i) i ep) Q' E' s) :
  Walks prog w A I [I,a] [I] es.size (fun i v=>v=ord i) (fun i h=>i<=es.size/\zb4 h I a (.int (F i) 0) i es.size ep/\zbY h a es ep t) where
 sub:=fun b hb=>by simp at hb;simp[hb]
 frame:=fun _ _ _ st k=>⟨st.1,st.2.1.keep fun o e=>k I (by simp) o e,st.2.2.keep fun o e=>k a (by simp) o e⟩
 item:=fun i s Q E hi h hQ=>by
  refine zqW hh h.2.1 h.2.2 (fun A' E' Q' q=>st i h.1 s h.2.2 A' E' Q' q) (fun x F' e h' sb It=>?_) fun e=>?_
  ·rw[if_pos hi] at e
   cases e
   exact hQ _ h' s.toks rfl ⟨hi,It,h.2.2.keep fun o e=>(sb.2 a ne).trans e⟩ fun b o hb e=>(sb.2 b fun z=>hb (by simp[z])).trans e
  ·rw[if_pos hi] at e;cases e
 done:=fun s Q E h hQ=>by
  refine zqW hh h.2.1 h.2.2 (fun A' E' Q' q=>st _ h.1 s h.2.2 A' E' Q' q) (fun x F' e=>?_) fun _ h' k=>hQ h' s.toks fun b o hb e=>k b o (fun z=>hb (by simp[z])) e
  rw[if_neg (ydd _)] at e;cases e
 self:=fun _ _ _ _ h q=>zpj h.2.1 q
theorem zsk (hh:A.handled=none) (ne:a≠I) (nT:T≠I) {ord:List Nat} (hps:ps=(ord.map fun i:Nat=>rawInt i).toArray) (hl:ord.length=es.size) (ho:∀ i∈ord,i<es.size) :
  Walks prog w A I [I,a,T] [I] es.size (fun i v=>∃ j,ord[i]?=some j/\∃ k,es[j]?=some (k,v)) (fun i h=>i<=es.size/\(zb4 h I a (.ref T) i es.size ep/\zbY h a es ep t)/\zfa h T ps) where
 sub:=fun b hb=>by simp at hb;simp[hb]
 frame:=fun _ _ _ st k=>⟨st.1,⟨st.2.1.1.keep fun o e=>k I (by simp) o e,st.2.1.2.keep fun o e=>k a (by simp) o e⟩,st.2.2.keep fun o e=>k T (by simp) o e⟩
 item:=fun i s Q E hi h hQ=>by
  have hj:i<ord.length:=by ac_rfl
  have e0:ps[i]?=some (.int (ord[i]:Nat) 0):=by rw[hps];simp[hj,rawInt]
  have hlt:=ho ord[i] (ycq hj)
  obtain ⟨⟨k0,x0⟩,q0⟩:∃ q,es[ord[i]]?=some q:=⟨_,ydz hlt⟩
  refine znD hh h.2.1.1 h.2.1.2 h.2.2 (fun p ep' k x ex h' sb It=>?_) (fun e=>by rw[e0] at e;cases e) (.inr ⟨_,k0,x0,e0,by simpa using q0⟩)
  rw[e0] at ep'
  cases ep'
  refine hQ x h' s.toks ⟨ord[i],yaa hj,k,by simpa using ex⟩ ⟨hi,⟨It,h.2.1.2.keep fun o e=>(sb.2 a ne).trans e⟩,h.2.2.keep fun o e=>(sb.2 T nT).trans e⟩ fun b o hb e=>(sb.2 b fun z=>hb (by simp[z])).trans e
 done:=fun s Q E h hQ=>by
  have e0:ps[es.size]?=none:=by rw[hps];simp;ac_rfl
  exact znD hh h.2.1.1 h.2.1.2 h.2.2 (fun p ep'=>by rw[e0] at ep';cases ep') (fun _ h' k=>hQ h' s.toks fun b o hb e=>k b o (fun z=>hb (by simp[z])) e) (.inl e0)
 self:=fun _ _ _ _ h q=>zpj h.2.1.1 q
end
end za5
namespace za5
theorem zjR:∀ (l:List α) (i:Nat) (h:i<l.length),(l[i]::l.eraseIdx i).Perm l
 | x::xs,0,_=>.refl _
 | x::xs,i+1,h=>(List.Perm.swap x _ _).trans ((zjR xs i (by simpa using h)).cons x)
theorem zth (next:Nat->Nat):∀ (fuel k:Nat) (left:List α) (out:Array α),left.length=fuel->(pickOrder.go next fuel k left out).toList.Perm (out.toList++left)
 | 0,k,left,out,h=>by
  have:left=[]:=List.length_eq_zero_iff.mp h
  subst this
  unfold pickOrder.go
  simp
 | fuel+1,k,left,out,h=>by
  have lt:next k % left.length<left.length:=Nat.mod_lt _ (by ac_rfl)
  unfold pickOrder.go
  rw[yaa lt]
  dsimp only
  refine (zth next fuel (k+1) _ _ (by rw[List.length_eraseIdx_of_lt lt,h];rfl)).trans ?_
  rw[Array.toList_push,yct]
  refine List.Perm.append_left _ ?_
  exact zjR left _ lt
theorem zlh (next:Nat->Nat) (xs:Array α):(pickOrder next xs).toList.Perm xs.toList:=by
 unfold pickOrder
 simpa using zth next xs.size 0 xs.toList #[] (by simp)
noncomputable def slotAt (t:SetTable) (i:Nat):Nat:=if i=0 then 0 else t.place.getD (i-1) 0+1
theorem below_at (h:Up t.place) (hi:i<=t.place.size):SetTable.below t.place (slotAt t i)=i:=by
 obtain ⟨h0,h1,h2⟩:=znB h (slotAt t i)
 generalize SetTable.below t.place (slotAt t i)=p at *
 have gd:∀ j,j<t.place.size->∀ d e,t.place.getD j d=t.place.getD j e:=fun j hj d e=>by simp[yec,hj]
 by_cases hz:i=0
 ·subst hz
  refine Nat.eq_zero_of_not_pos fun hp=>?_
  have:=h1 0 hp
  unfold slotAt at this
  rw[if_pos rfl] at this
  ac_rfl
 ·have e:slotAt t i=t.place.getD (i-1) 0+1:=by unfold slotAt;rw[if_neg hz]
  rcases ydf p i with lt | rfl | gt
  ·have:=h2 (i-1) (by ac_rfl) (by ac_rfl)
   rw[gd _ (by ac_rfl) _ 0,e] at this
   ac_rfl
  ·rfl
  ·have:=h1 i gt
   have u:=zqc h (i:=i-1) (j:=i) (by ac_rfl) (by ac_rfl) 0 0
   rw[gd _ (by ac_rfl) _ 0,e] at this
   ac_rfl
section
variable {prog:Program} {w:World} {a:Addr} {es:Array (Int × Value)} {ep:Nat} {t:SetTable}
theorem ztJ (hb:w.params.followText "set-order" = false) (T:Tab false t) (hf:t.fits es.size=true) (hp:(!t.plain && decide (es.size > 1))=false) (i:Nat) (hi:i<=es.size) (s:Shared) (O:zbY s.heap a es ep t) (A':Around)
  (E':Value->Shared->Prop) (Q':Option (Value × Nat)->Shared->Prop) (q:Q' (if i<es.size then some ((es.getD i (0,.none)).2,slotAt t (i+1)) else none) s):wpAny (model prog w) A' (setNext a (slotAt t i) i ep) Q' E' s:=by
 have fz:t.place.size=es.size:=by simp[SetTable.fits] at hf;exact hf.1
 have up:Up t.place:=by
  by_cases pl:t.plain=true
  ·exact T.up pl
  ·have:es.size<=1:=by simp[pl] at hp;exact hp
   unfold Up
   have l1:t.place.toList.length<=1:=by rw[ydy];ac_rfl
   match hq:t.place.toList,l1 with
   | [],_=>exact .nil
   | [x],_=>exact ybo _ _
   | _::_::_,z=>simp at z
 unfold setNext
 refine wpAny_bind (zcf O ?_)
 unfold setsByText
 refine wpAny_bind (wpAny_bind (wpAny_askSetting (wpAny_pure ?_)))
 rw[show (model prog w).w.params.followText "set-order" = false from hb]
 rw[if_neg Bool.false_ne_true]
 dsimp only
 show wpAny _ _ (if (!t.plain && decide (es.size > 1))=true then _ else _) _ _ _
 rw[if_neg (by rw[hp];exact Bool.false_ne_true)]
 refine wpAny_bind ?_
 show wpAny _ _ (if (!t.led && !es.isEmpty)=true then _ else _) _ _ _
 rw[if_neg (by rw[T.led];simp)]
 refine wpAny_pure ?_
 rw[below_at up (by ac_rfl)]
 refine wpAny_pure ?_
 by_cases lt:i<es.size
 ·rw[if_pos lt] at q
  rw[ydz lt,ydz (by ac_rfl:i<t.place.size)]
  dsimp only
  have e1:(es.getD i (0,.none)).2=es[i].2:=by simp[yec,lt]
  have e2:slotAt t (i+1)=t.place[i]'(by ac_rfl)+1:=by simp[slotAt,yec,show i<t.place.size by ac_rfl]
  rw[e1,e2] at q
  exact q
 ·rw[if_neg lt] at q
  rw[Array.getElem?_eq_none (by ac_rfl)]
  exact q
theorem zvl (hb:w.params.followText "set-order" = true) (i:Nat) (hi:i<=es.size) (s:Shared) (O:zbY s.heap a es ep t) (A':Around)
  (E':Value->Shared->Prop) (Q':Option (Value × Nat)->Shared->Prop) (q:Q' (if i<es.size then some (((pickOrder (w.params.setOrder a ep) es).getD i (0,.none)).2,0) else none) s):wpAny (model prog w) A' (setNext a 0 i ep) Q' E' s:=by
 have sz:(pickOrder (w.params.setOrder a ep) es).size=es.size:=by
  have:=(zlh (w.params.setOrder a ep) es).length_eq
  simpa using this
 unfold setNext
 refine wpAny_bind (zcf O ?_)
 unfold setsByText
 refine wpAny_bind (wpAny_bind (wpAny_askSetting (wpAny_pure ?_)))
 rw[show (model prog w).w.params.followText "set-order" = true from hb,if_pos rfl]
 dsimp only
 rw[if_neg (by simp)]
 refine wpAny_bind ?_
 unfold setWalk
 refine wpAny_bind (zcf O ?_)
 unfold setsByText
 refine wpAny_bind (wpAny_bind (wpAny_askSetting (wpAny_pure ?_)))
 rw[show (model prog w).w.params.followText "set-order" = true from hb,if_pos rfl]
 refine wpAny_bind (wpAny_askSetting (wpAny_pure (wpAny_pure ?_)))
 show Q' (Option.map (fun e=>(e.2,0)) (pickOrder (w.params.setOrder a ep) es)[i]?) s
 by_cases lt:i<es.size
 ·rw[if_pos lt] at q
  rw[ydz (by ac_rfl)]
  have e1:((pickOrder (w.params.setOrder a ep) es).getD i (0,.none)).2=((pickOrder (w.params.setOrder a ep) es)[i]'(by ac_rfl)).2:=by simp[yec,show i<(pickOrder (w.params.setOrder a ep) es).size by ac_rfl]
  rw[e1] at q
  exact q
 ·rw[if_neg lt] at q
  rw[Array.getElem?_eq_none (by ac_rfl)]
  exact q
end
end za5
namespace za5
section
variable {prog:Program} {w:World} {A:Around} {E:Value->Shared->Prop}
theorem zue (hn:0<n) (h:∀ i d,i<n->Q i { s with drawn:=d }):wpAny (model prog w) A (choose src n) Q E s :=
 fun Γ p hΓ=>⟨by ac_rfl,h _ _ (Nat.mod_lt _ hn)⟩
theorem zpo:∀ (n:Nat) (xs:List α) (s:Shared) (Q:List α->Shared->Prop),xs.length=n->(∀ l d,l.Perm xs->Q l { s with drawn:=d })->wpAny (model prog w) A (drawOrder n xs) Q E s
 | 0,xs,s,Q,hl,h=>by
  have:xs=[]:=List.length_eq_zero_iff.mp hl
  subst this
  unfold drawOrder
  exact wpAny_pure (h [] s.drawn (.refl _))
 | n+1,[],s,Q,hl,h=>by simp at hl
 | n+1,x::xs,s,Q,hl,h=>by
  unfold drawOrder
  refine wpAny_bind (zue (by simp) fun i d hi=>?_)
  rw[yaa hi]
  refine wpAny_bind (zpo n _ _ _ (by rw[List.length_eraseIdx_of_lt hi,hl];rfl) fun l d' hp=>wpAny_pure (h _ d' ?_))
  exact (hp.cons _).trans (zjR (x::xs) i hi)
end
theorem zqA (h:ItemsOf P acc n) (hf:∀ i v,i<n->P i v->v=f i):acc.toList=(yba n).map f:=by
 apply ybw
 intro j
 rw[yai]
 by_cases lt:j<n
 ·have e:acc.toList[j]?=some (acc[j]'(by rw[h.1];exact lt)):=by rw[yeb];exact ydz _
  rw[e,ycg lt]
  exact congrArg some (hf j _ lt (h.2 j _ (ydz _)))
 ·rw[yaq (by rw[ydy,h.1];ac_rfl),yaq (by rw[yce];ac_rfl)]
  rfl
theorem zit (xs:Array α) (d:α) (f:α->β):(yba xs.size).map (fun i=>f (xs.getD i d))=xs.toList.map f:=by
 apply ybw
 intro j
 rw[yai,yai]
 by_cases lt:j<xs.size
 ·rw[ycg lt,yeb,ydz lt]
  simp[yec,lt]
 ·rw[yaq (by rw[yce];ac_rfl),yaq (by rw[ydy];ac_rfl)]
  rfl
section
variable {prog:Program} {w:World} {A:Around} {E:Value->Shared->Prop} {s:Shared} {a:Addr} {es:Array (Int × Value)} {ep:Nat} {t:SetTable}
theorem zv5 {B:Around} {Q:Value->Shared->Prop} (hB:B.handled=none) (ty:s.TypeIs (.ref a) "set") (O:zbY s.heap a es ep t) (T:Tab (w.params.followText "set-order") t) (hz:es.size<=sizeLine)
  (hQ:∀ I h' d' fp P (St:Nat->Heap->Prop),Walks prog w B I fp [I] es.size P St->St 0 h'->(∀ b∈fp,b=a\/(s.heap.objs.size<=b/\b<h'.objs.size))->(∀ acc,ItemsOf P acc es.size->acc.toList.Perm (es.toList.map (·.2))) ->
   (∀ b o,s.heap.get? b=some o->h'.get? b=some o)->s.heap.objs.size<=I->Q (.ref I) { s with heap:=h',drawn:=d' }):wpAny (model prog w) A (pyIter (.ref a)) Q E s:=by
 have hf:t.fits es.size=true:=O.choose_spec.2.2
 have alt:a<s.heap.objs.size:=ydn O.choose_spec.1
 refine wpAny_pyIter_slot ty PySem.F.slot_set_iter (wpAny_call_entry PySem.F.slot_set_iter ty zwc ?_ (PySem.F.args_set_iter_1 _))
 unfold Builtin.«frozenset.__iter__» Builtin.Frozenset.slot0
 refine wpAny_bind (wpAny_bind (wpAny_of_eq (a:=(Value.ref a,[])) rfl (wpAny_of_eq (a:=a) rfl ?_)))
 unfold Builtin.Frozenset.sizeOf setEntries
 refine wpAny_bind (wpAny_bind (wpAny_bind (zcf O (wpAny_pure (wpAny_pure ?_)))))
 unfold setDrawn setsByText
 refine wpAny_bind (wpAny_bind (zcf O (wpAny_bind (wpAny_bind (wpAny_askSetting (wpAny_pure (wpAny_pure ?_)))))))
 show wpAny _ _ (if (!w.params.followText "set-order" && (!t.plain && decide (es.size > 1)))=true then _ else _) _ _ _
 have body:∀ (first:Value) (s1:Shared),zbY s1.heap a es ep t->(∀ I h',h'=s1.heap.push { cls:=.type "set_iterator", data:=.fields #[first,.int (0:Nat) 0,.ref a,.int es.size 0,.int ep 0] }->I=s1.heap.objs.size->zb4 h' I a first 0 es.size ep->zbY h' a es ep t->Q (.ref I) { s1 with heap:=h' }) ->
   wpAny (model prog w) A.in1 (setEpoch a >>= fun e=>newFields "set_iterator" [first,rawInt 0,.ref a,rawInt es.size,rawInt e] >>= fun x=>ret x) (fun fin s'=>∃ v,fin=.done (.ret v)/\∃ T' r,s'.TypeIs v T'/\typeLookup (.type T') "__next__" = pure (some r)/\Q v s') E s1:=fun first s1 O1 q=>by
  unfold setEpoch
  refine wpAny_bind (wpAny_bind (zcf O1 (wpAny_pure ?_)))
  refine wpAny_bind (wpAny_newObj_type (wpAny_pure ?_))
  have g:(s1.heap.push { cls:=.type "set_iterator", data:=.fields #[first,.int (0:Nat) 0,.ref a,.int es.size 0,.int ep 0] }).get? s1.heap.objs.size=some { cls:=.type "set_iterator", data:=.fields #[first,.int (0:Nat) 0,.ref a,.int es.size 0,.int ep 0] }:=ydo _ rfl
  exact ⟨_,rfl, "set_iterator", _,⟨_,g,rfl⟩,zgU.lookup,q _ _ rfl rfl ⟨_,g,rfl,rfl⟩ (O1.keep fun o e=>ydm _ e)⟩
 have pin:∀ (F:Nat->Nat) (ord:Nat->Value),F 0=0->(∀ i,i<=es.size->∀ (s:Shared),zbY s.heap a es ep t->∀ (A':Around) (E':Value->Shared->Prop) (Q':Option (Value × Nat)->Shared->Prop),
   Q' (if i<es.size then some (ord i,F (i+1)) else none) s->wpAny (model prog w) A' (setNext a (F i) i ep) Q' E' s)->((yba es.size).map ord).Perm (es.toList.map (·.2)) ->
   wpAny (model prog w) A.in1 (setEpoch a >>= fun e=>newFields "set_iterator" [rawInt 0,rawInt 0,.ref a,rawInt es.size,rawInt e] >>= fun x=>ret x) (fun fin s'=>∃ v,fin=.done (.ret v)/\∃ T' r,s'.TypeIs v T'/\typeLookup (.type T') "__next__" = pure (some r)/\Q v s') E s:=fun F ord F0 st pm=>by
  refine body (rawInt 0) s O fun I h' eh eI It O'=>?_
  have Ilt:I<h'.objs.size:=by rw[eh,eI,ydq];exact yde _
  refine hQ I h' s.drawn [I,a] _ _ (zu3 (prog:=prog) (w:=w) (A:=B) hB (by rw[eI];exact ycy alt) st) ⟨yda _,by rw[F0];exact It,O'⟩ (fun b hb=>?_) (fun acc hacc=>?_) (fun b o e=>by rw[eh];exact ydm _ e) (by rw[eI];exact ycx _)
  ·simp only[yal,ybz,or_false] at hb
   rcases hb with rfl | rfl
   ·exact .inr ⟨by rw[eI];exact ycx _,Ilt⟩
   ·exact .inl rfl
  ·rw[zqA hacc fun i v _ q=>q]
   exact pm
 by_cases hd:(!w.params.followText "set-order" && (!t.plain && decide (es.size > 1)))=true
 ·rw[if_pos hd]
  refine wpAny_bind (zpo es.size (yba es.size) s _ (by simp) fun ord d hp=>?_)
  have ol:ord.length=es.size:=by rw[hp.length_eq];simp
  refine wpAny_bind (wpAny_newObj_type ?_ ?_)
  ·refine body (.ref s.heap.objs.size) { s with heap:=s.heap.push { cls:=.type "tuple", data:=.seq (ord.map fun i:Nat=>rawInt i).toArray },drawn:=d } (O.keep fun o e=>ydm _ e) fun I h' eh eI It O'=>?_
   have eI':I=s.heap.objs.size+1:=by rw[eI];exact ydq _ _
   have Ilt:h'.objs.size=s.heap.objs.size+2:=by rw[eh,ydq,ydq]
   have P:zfa h' s.heap.objs.size (ord.map fun i:Nat=>rawInt i).toArray:=⟨_,_,by rw[eh];exact ydm _ (ydo _ rfl),rfl⟩
   refine hQ I h' d [I,a,s.heap.objs.size] _ _ (zsk (prog:=prog) (w:=w) (A:=B) hB (by rw[eI'];exact ycy (ydg alt)) (by rw[eI'];exact ycy (yde _)) rfl ol fun i hi=>by
    have:=hp.mem_iff.mp hi
    simpa using this) ⟨yda _,⟨It,O'⟩,P⟩ (fun b hb=>?_) (fun acc hacc=>?_) (fun b o e=>by rw[eh];exact ydm _ (ydm _ e)) (by rw[eI'];exact ydj _)
   ·simp only[yal,ybz,or_false] at hb
    rcases hb with rfl | rfl | rfl
    ·exact .inr ⟨by rw[eI'];exact ydj _,by rw[Ilt,eI'];exact yde _⟩
    ·exact .inl rfl
    ·exact .inr ⟨ycx _,by rw[Ilt];exact ydg (yde _)⟩
   ·have e1:acc.toList=(yba es.size).map fun i=>(es.getD (ord.getD i 0) (0,.none)).2:=zqA hacc fun i v lt ⟨j,hj,k,hk⟩=>by
     have hlt:j<es.size:=by
      have:=hp.mem_iff.mp (yah hj)
      simpa using this
     have hi:i<ord.length:=by ac_rfl
     rw[yaa hi] at hj
     cases hj
     rw[ydz hlt] at hk
     cases hq:es[ord[i]]
     rw[hq] at hk
     cases hk
     simp[yec,hi,hlt,hq]
    rw[e1]
    have e2:(yba es.size).map (fun i=>(es.getD (ord.getD i 0) (0,.none)).2)=ord.map fun j=>(es.getD j (0,.none)).2:=by
     have:=zit ord.toArray 0 fun j=>(es.getD j (0,.none)).2
     simpa [ol] using this
    rw[e2,<-zit es (0,.none) (·.2)]
    exact hp.map _
  ·show (ord.map fun i:Nat=>rawInt i).toArray.size<=sizeLine
   simp[ol,hz]
 ·rw[if_neg hd]
  refine wpAny_bind (wpAny_pure ?_)
  cases hb:w.params.followText "set-order" with
  | true =>
   refine pin (fun _=>0) (fun i=>((pickOrder (w.params.setOrder a ep) es).getD i (0,.none)).2) rfl (fun i hi s O A' E' Q' q=>zvl hb i hi s O A' E' Q' q) ?_
   have sz:(pickOrder (w.params.setOrder a ep) es).size=es.size:=by
    have:=(zlh (w.params.setOrder a ep) es).length_eq
    simpa using this
   rw[<-sz,zit]
   exact (zlh _ _).map _
  | false =>
   have T':=T
   rw[hb] at T'
   rw[hb] at hd
   refine pin (slotAt t) (fun i=>(es.getD i (0,.none)).2) rfl (fun i hi s O A' E' Q' q=>ztJ hb T' hf (by simpa using hd) i hi s O A' E' Q' q) ?_
   rw[zit]
end
end za5
namespace za5
theorem zxW:typeLookup (.type "set") "__len__" = pure (some (.builtin "set.__len__")):=by rw[typeLookup_type,builtinLookup_eq_fast];kernel_rfl
theorem zwR [Decidable c] (hc:c) (h:wpAny M A x Q E s):wpAny M A (if c then x else y) Q E s:=by rw[if_pos hc];exact h
theorem zx6 [Decidable c] (hc:¬ c) (h:wpAny M A y Q E s):wpAny M A (if c then x else y) Q E s:=by rw[if_neg hc];exact h
section
variable {prog:Program} {w:World} {A:Around} {E:Value->Shared->Prop} {s:Shared} {a:Addr} {es:Array (Int × Value)} {ep:Nat} {t:SetTable}
theorem zwA (ty:s.TypeIs (.ref a) "set") (q:Q false s):wpAny (model prog w) A (Builtin.List.listLengthHint (.ref a)) Q E s:=by
 unfold Builtin.List.listLengthHint
 refine wpAny_bind (wpAny_specialOf ty zxW ?_)
 generalize hid:("set.__len__" : String)=id0
 have h1:splitId id0=some ("set", "__len__"):=by subst hid;decide +kernel
 dsimp only
 rw[h1]
 subst hid
 refine wpAny_bind (wpAny_isInstance (b:=true) ty (by rw[isSubtype_type];kernel_rfl) ?_)
 refine zx6 (by simp) (zwR (by decide +kernel) (wpAny_bind (wpAny_typeOf ty ?_)))
 exact wpAny_pure q
theorem zsl (hh:A.handled=none) (ty:s.TypeIs (.ref a) "set") (O:zbY s.heap a es ep t) (T:Tab (w.params.followText "set-order") t) (hz:es.size<=sizeLine)
  (hQ:∀ vs h' d' tk,vs.Perm (es.toList.map (·.2))->(∀ b o,s.heap.get? b=some o->h'.get? b=some o)->Q vs { s with heap:=h',drawn:=d',toks:=tk }):wpAny (model prog w) A (collect (.ref a)) Q E s:=by
 have alt:a<s.heap.objs.size:=ydn O.choose_spec.1
 unfold collect
 refine wpAny_bind (wpAny_runValue (codeAny_builtin PySem.F.entry_proto_collect ?_))
 rw[Around.under_plainId PySem.F.plain_proto_collect _]
 show wpAny _ A.in1 (newList [] >>= fun l=>again (.builtin "list.__iadd__" ⟨[l,.ref a],[]⟩)) _ _ s
 refine wpAny_bind (wpAny_newObj_type ?_)
 refine wpAny_pure ⟨plainId_quiet PySem.F.plain_list_iadd _,codeAny_builtin PySem.F.entry_list_iadd ?_⟩
 rw[Around.under_plainId PySem.F.plain_list_iadd _]
 show wpAny _ A.in1 (Builtin.List.listExtendWith (.ref s.heap.objs.size) (.ref a) (.ref s.heap.objs.size)) _ _ _
 have ne:Builtin.List.listSameRef (.ref s.heap.objs.size) (.ref a)=false:=by
  have:s.heap.objs.size≠a:=ydi alt
  simp[Builtin.List.listSameRef,this]
 obtain ⟨oa,hoa,hca⟩:=id ty
 have ty1:({ s with heap:=s.heap.push { cls:=.type "list", data:=.seq ([]:List Value).toArray } }:Shared).TypeIs (.ref a) "set" := ⟨oa,ydm _ hoa,hca⟩
 unfold Builtin.List.listExtendWith
 refine wpAny_bind (wpAny_typeOf ty1 ?_)
 rw[if_neg (by rw[ne];decide)]
 refine wpAny_bind (zv5 (B:=A.in1) (by simp[hh]) ty1 (O.keep fun o e=>ydm _ e) T hz fun I h' d' fp P St W st0 hfp pm kp hI=>?_)
 have S1:h'.get? s.heap.objs.size=some { cls:=.type "list", data:=.seq ([]:List Value).toArray }:=kp _ _ (ydo _ rfl)
 refine wpAny_bind (wpAny_holding (zwA ⟨oa,kp _ _ (ydm _ hoa),hca⟩ ?_))
 refine zwR (by decide +kernel) (wpAny_bind (wpAny_rule (wpAny_bind ?_)))
 unfold Builtin.List.listTouch
 have g1:(h'.update s.heap.objs.size (Obj.mapSeq (·.push Value.none))).get? s.heap.objs.size=some { cls:=.type "list", data:=.seq #[.none] 1 }:=ydr _ S1 rfl
 have g2:((h'.update s.heap.objs.size (Obj.mapSeq (·.push Value.none))).update s.heap.objs.size (Obj.mapSeq (·.pop))).get? s.heap.objs.size=some { cls:=.type "list", data:=.seq #[] 2 }:=ydr _ g1 rfl
 refine wpAny_bind (listUpdate_at S1 rfl (listUpdate_at g1 rfl ?_ (by decide) (by decide)) (by decide) (by decide))
 have Sf:s.heap.objs.size ∉ fp:=fun z=>by
  rcases hfp _ z with e | ⟨e,_⟩
  ·exact absurd alt (by rw[<-e];exact ydd _)
  ·rw[ydq] at e
   exact Nat.not_succ_le_self _ e
 have st1:St 0 ((h'.update s.heap.objs.size (Obj.mapSeq (·.push Value.none))).update s.heap.objs.size (Obj.mapSeq (·.pop))):=W.frame 0 h' _ st0 fun b hb o e=>by
  have nb:b≠s.heap.objs.size:=fun z=>Sf (z ▸ hb)
  exact (ydp _ _ _ _ nb).trans ((ydp _ _ _ _ nb).trans e)
 refine wpAny_pure ⟨plainId_quiet PySem.F.plain_extend_loop _,codeAny_extend_loopS W.toS hz _ Sf _ es.size 0 _ #[] 2 rfl (yda _) st1 g2 (ItemsOf.nil P) fun s' acc c mv S' hacc=>?_⟩
 show wpAny _ A (load s.heap.objs.size >>= _) _ _ s'
 refine wpAny_bind (wpAny_load S' (wpAny_pure ?_))
 obtain ⟨h2,g',d2,tk',os'⟩:=s'
 obtain rfl:g'=s.gens:=mv.gens
 obtain rfl:os'=s.os:=mv.os
 refine hQ acc.toList h2 d2 tk' (pm acc hacc) fun b o e=>mv.heap b o ?_ ?_
 ·intro z
  have lt:=ydn e
  rcases yal.mp z with z | z
  ·exact absurd lt (by rw[z];exact ydd _)
  ·have z':b=I:=by simpa using z
   rw[z'] at lt
   have:s.heap.objs.size+1<=I:=by rw[<-ydq];exact hI
   exact absurd (ydb lt (ydc (ydj _) this)) (ydd _)
 ·have nb:b≠s.heap.objs.size:=ycy (ydn e)
  exact (ydp _ _ _ _ nb).trans ((ydp _ _ _ _ nb).trans (kp b o (ydm _ e)))
end
end za5
namespace za5
theorem zoP:∀ {vs:List Value},(∀ v∈vs,∃ m t,v=.int m t)->IntsAre vs (vs.map intOf)
 | [],_=>.nil
 | v::vs,h=>by
  obtain ⟨m,t,rfl⟩:=h v (yap)
  exact .cons m t (zoP fun v hv=>h v (yam _ hv))
section
variable {prog:Program} {w:World} {A:Around} {E:Value->Shared->Prop} {s:Shared} {a:Addr} {ms:List Int}
theorem zuq (hh:A.handled=none) (S:zdE prog w s.heap a ms) (h64:ms.length<64)
  (h:∀ h' d' tk (out:Array Value) ns' p n,IntsAre out.toList ns'->ns'.Perm ms->ns'.Pairwise (·<=·)->(∀ b o,s.heap.get? b=some o->h'.get? b=some o)->s.heap.get? p=none->h'.get? p=some (seqObj "list" out n)->Q (.ref p) { s with heap:=h',drawn:=d',toks:=tk }) :
  wpAny (model prog w) A (call (.builtin "sorted") [.ref a]) Q E s:=by
 obtain ⟨⟨o,es,ep,t,⟨ho,hex,hd⟩,⟨hel,hb,hf⟩,T,rfl⟩,nd⟩:=S
 have lz:es.size<64:=by simpa using h64
 refine Calls.call_function_entry kind_sorted plain_sorted entry_sorted (args_sorted1 _) ?_
 unfold Builtin.«sorted»
 refine wpAny_bind (m:=checkCount "sorted" 1 1 _) (wpAny_pure ?_)
 refine wpAny_bind (zsl (by simp[hh]) ⟨o,ho,hex.1⟩ ⟨o,ho,hd,hf⟩ T (by rw[sizeLine_eq];ac_rfl) fun vs h1 d1 tk1 pm kp=>?_)
 have vi:IntsAre vs (vs.map intOf):=zoP fun v hv=>by
  obtain ⟨e,he,rfl⟩:=yag.mp (pm.mem_iff.mp hv)
  obtain ⟨⟨k,hk,_⟩,_⟩:=hel e he
  obtain ⟨t,e2⟩:=Value.isInt_shape (show Value.isInt k e.2=true from hk)
  exact ⟨k,t,e2⟩
 have vp:(vs.map intOf).Perm (es.toList.map fun e=>intOf e.2):=by
  have:=pm.map intOf
  rwa [ybl] at this
 have vl:vs.length<64:=by rw[pm.length_eq];simpa using lz
 have sl:vs.length<=sizeLine:=by rw[sizeLine_eq];ac_rfl
 refine wpAny_bind (wpAny_newList ?_ (by first | exact sl | simpa using sl))
 have g0:(h1.push (seqObj "list" vs.toArray 0)).get? h1.objs.size=some (seqObj "list" vs.toArray 0):=ydo _ rfl
 have ol:s.heap.get? h1.objs.size=none:=by
  cases q:s.heap.get? h1.objs.size with
  | none=>rfl
  | some u=>exact absurd (ydn (kp _ _ q)) (ydd _)
 show wpAny _ _ _ _ _ { s with heap:=h1.push (seqObj "list" vs.toArray 0),drawn:=d1,toks:=tk1 }
 refine wpAny_bind (wpAny_holding (wpAny_call_entry slot_list_sort ⟨_,g0,rfl⟩ entry_list_sort (list_sort_tree g0 vi vl fun out ns' a1 a2 a3=>⟨_,rfl,?_⟩) (args_list_sort _)))
 obtain ⟨n,g1⟩:=sortedHeap_at (out:=out) g0
 refine wpAny_pure ⟨_,rfl,h _ _ _ out ns' h1.objs.size n a1 (a2.trans vp) a3 (fun b u e=>?_) ol g1⟩
 have e1:=kp b u e
 have lt:=ydn e1
 rw[sortedHeap_old (ycy lt) (by rw[size_push'];exact ydg lt)]
 exact ydm _ e1
end
end za5
noncomputable def zut (P:Program) (w:World) (a:Addr) (ms:List Int):HO:=.ext fun h=>za5.zdE P w h a ms
theorem za5.zdE.obj (S:za5.zdE P w h a ms):∃ o,h.get? a=some o:=let ⟨⟨o,_,_,_,⟨e,_⟩,_⟩,_⟩:=S;⟨o,e⟩
section
variable {X:Cx} {pins:List (Addr × Obj)} {σ:St} {H:Hp} {s:Shared}
theorem Inv.drew (I:Inv X pins σ H s) (d:Drawn):Inv X pins σ H { s with drawn:=d }:=⟨I.ok,I.os,I.bare,I.base,I.loc,I.cell,I.free,I.freeC,I.pin,I.hok,I.len⟩
theorem zii (hc:X.calm=true):zbG X (.type "set") (fun xs H Q=>∃ (l:Addr) (ns:List Int),xs=[.ref l]/\SqL X.K H l (ns.map V.int)/\ns.length<4000 /\
  ∀ (p:Addr) (H':Hp) (ms:List Int),H p=none->Same H H'->H' p=some (zut X.prog X.w p ms)->ms.Nodup->(∀ m,m∈ms↔m∈ns)->ms.length<=ns.length->Q (.ref p) H'):=by
 intro pins s σ H xs us Q I r h
 obtain ⟨l,ns,rfl,hq,hl,q⟩:=h
 obtain ⟨u,rfl,rx⟩:=vals1 r
 cases rx
 obtain ⟨its,rv,pl,hz⟩:=I.list hq
 have len:its.length=ns.length:=by rw[<-rv.length,yab]
 refine za5.zsL (I.ok.hd hc) pl.isList (by simpa using zk2 rv) (by show its.toArray.size+1<4096;simp;ac_rfl) fun h' tk ms S mm lm kp=>?_
 have k:∀ b o,s.heap.get? b=some o->h'.get? b=some o:=fun b o e=>kp b o (ydn e) e
 refine ⟨.ref s.heap.objs.size,_,I.laid (o:=zut X.prog X.w s.heap.objs.size ms) k (ycx _) ⟨S,S.obj,fun h1 h2 p e=>p.keep e⟩,rfl,q _ _ ms (I.hok.fresh (ycx _)) (zf (I.hok.fresh (ycx _)) _) zh S.nd mm lm⟩
theorem zec (hc:X.calm=true) (hex:X.ex=[]:=by rfl):zbG X (.builtin "sorted") (fun xs H Q=>∃ (p:Addr) (ms:List Int),xs=[.ref p]/\H p=some (zut X.prog X.w p ms)/\ms.length<64 /\
  ∀ (l:Addr) (H':Hp) (ns:List Int),H l=none->Same H H'->H' l=some (.lst (ns.map V.int))->ns.Perm ms->ns.Pairwise (·<=·)->Q (.ref l) H'):=by
 intro pins s σ H xs us Q I r h
 obtain ⟨p,ms,rfl,hp,hl,q⟩:=h
 obtain ⟨u,rfl,rx⟩:=vals1 r
 cases rx
 refine za5.zuq (I.ok.hd hc) (I.hok p _ hp).1 hl fun h' d' tk out ns l n a1 a2 a3 kp new at_=>?_
 have vl:Vals (ns.map V.int) out.toList:=ziq a1
 have nl:(ns.map V.int).length<=sizeLine:=by rw[yab,a2.length_eq,sizeLine_eq];ac_rfl
 have I1:Inv X pins σ (upd H l (.lst (ns.map V.int))) { s with heap:=h',toks:=tk }:=I.znm kp new hex ⟨nl,out.toList,n,vl,by simpa [seqObj] using at_⟩
 exact ⟨.ref l,_,I1.drew d',rfl,q l _ ns (I.hok.gone new) (zf (I.hok.gone new) _) zh a2 a3⟩
end
theorem zlJ {ns ms:List Int} (p:ns.Perm ms) (nd:ms.Nodup) (o:ns.Pairwise (·<=·)):ns.Pairwise (·<·):=by
 have n:=p.nodup_iff.mpr nd
 refine (o.and n).imp fun {a b} h=>?_
 have:=h.1
 have:=h.2
 ac_rfl
section
variable {X:Cx} {pins:List (Addr × Obj)} {σ:St} {H:Hp} {s:Shared} {h':Heap}
end
theorem zis {K:W.Frag} {ix:List Nat} {te:TE} {σ:St} {a l:Addr} {xs:List V} {H:Hp} {R:Hp->Prop} (P:Nat->V->Prop) (ha:SqL K H a xs) (hl:H l=none) (hz:xs.length<=sizeLine)
  (hel:∀ i x H' Q',xs[i]?=some x->Same H H'->(∀ v,P i v->Q' v H')->te (some x::capts σ ix) H' Q') (fin:∀ ys:List V,ys.length=xs.length->(∀ j v,ys[j]?=some v->P j v)->R (upd H l (.lst ys))) :
  ∃ W:Nat->Nat->List V->Hp->Prop,(∃ m,W 0 m [] (upd H l (.lst [])))/\Turns ix te σ (Itl K a) l R W:=by
 refine ⟨fun i m ys H'=>m=xs.length-i/\i<=xs.length/\ys.length=i/\(∀ j v,ys[j]?=some v->P j v)/\H'=upd H l (.lst ys),⟨xs.length,by simp,yda _,rfl,(fun j v e=>by simp at e),rfl⟩,?_⟩
 rintro i m ys H' ⟨rfl,hi,hx,hp,rfl⟩
 have hT:SqL K (upd H l (.lst ys)) a xs:=(zf hl _).seq ha
 refine ⟨zh,?_⟩
 by_cases hlt:i<xs.length
 ·have ex:xs[i]?=some xs[i]:=yaa hlt
  refine .inr ⟨⟨xs,_,hT,ex⟩,by ac_rfl,fun x H2 y=>?_⟩
  obtain ⟨e,y⟩:=y
  subst e
  have e2:=y xs hT
  refine hel i x _ _ e2 (zf hl _) fun v hv=>⟨zh,xs.length-(i+1),by ac_rfl,rfl,hlt,by rw[yaf,hx];rfl,fun j w e=>?_,by rw[zad]⟩
  by_cases hj:j<ys.length
  ·rw[ybk hj] at e
   exact hp j w e
  ·by_cases hj2:j=ys.length
   ·subst hj2
    rw[ybf (ycx _),ydl] at e
    cases e
    rw[hx]
    exact hv
   ·rw[yaq (by rw[yaf,ybu];ac_rfl)] at e
    cases e
 ·exact .inl ⟨⟨xs,hT,by ac_rfl⟩,fin ys (by ac_rfl) hp⟩
theorem zbI (K:W.Frag) (h:X.K=K:=by rfl):IxR X (zyJ K):=by subst h;exact zam
theorem zgZ (K:W.Frag) (h:X.K=K:=by rfl):IxR X (zyG K):=by subst h;exact zD
inductive zH (K:W.Frag) (H:Hp):List V->List (Int × Int)->Prop
 | nil:zH K H [] []
 | cons {p:Addr} {s:Int × Int} {xs:List V} {l:List (Int × Int)}:H p=some (.tup [.int s.1,.int s.2])->zH K H xs l->zH K H (.ref p::xs) (s::l)
section
variable {K:W.Frag} {H H':Hp} {xs ys zs:List V} {l:List (Int × Int)} {p:Addr} {s:Int × Int}
theorem zH.get (r:zH K H xs l):∀ {i:Nat} {x:V},xs[i]?=some x->∃ p s,x=.ref p/\l[i]?=some s/\H p=some (.tup [.int s.1,.int s.2]):=by
 induction r with
 | nil=>intro i x e;simp at e
 | cons h _ ih =>
  intro i x e
  cases i with
  | zero=>cases e;exact ⟨_,_,rfl,rfl,h⟩
  | succ i=>exact ih e
theorem zH.length (r:zH K H xs l):xs.length=l.length:=by
 induction r with
 | nil=>rfl
 | cons _ _ ih=>simp[ih]
theorem zH.same (r:zH K H xs l) (s:Same H H'):zH K H' xs l:=by
 induction r with
 | nil=>exact .nil
 | cons h _ ih=>exact .cons (s _ _ h) ih
theorem zH.put (r:zH K H xs l) (hp:H p=some (.lst ys)):zH K (upd H p (.lst zs)) xs l:=by
 induction r with
 | nil=>exact .nil
 | cons h _ ih=>exact .cons (by rw[zr (zae h hp (by intro z;cases z))];exact h) ih
theorem zH.push (r:zH K H xs l) (h:H p=some (.tup [.int s.1,.int s.2])):zH K H (xs++[.ref p]) (l++[s]):=by
 induction r with
 | nil=>exact .cons h .nil
 | cons h' _ ih=>exact .cons h' ih
end
theorem zoY {ys:List V} {ns:List Int} (h:ys.length=ns.length) (p:∀ j v,ys[j]?=some v->v=V.int (ns.getD j 0)):ys=ns.map V.int:=by
 apply ybw
 intro j
 rw[yai]
 by_cases hj:j<ys.length
 ·have e:=yaa (l:=ys) hj
  rw[e,p j _ e,yaa (by ac_rfl:j<ns.length)]
  simp[show j<ns.length by ac_rfl]
 ·rw[yaq (by ac_rfl),yaq (by ac_rfl)]
  rfl
structure zjJ (J:It) (H:Hp) (xs:List V):Prop where
 go:∀ i H',Same H H'->i<xs.length->J.go i H'
 yld:∀ i H' x H2,Same H H'->J.yld i H' x H2->H2=H'/\xs[i]?=some x
 stop:∀ i H',Same H H'->xs.length<=i->J.stop i H'
theorem zab {K:W.Frag} {H:Hp} {a:Addr} {xs:List V} (h:SqL K H a xs):zjJ (Itl K a) H xs :=
 ⟨fun i H' s hi=>⟨xs,_,s.seq h,yaa hi⟩,fun i H' x H2 s y=>⟨y.1,y.2 xs (s.seq h)⟩,fun i H' s hi=>⟨xs,s.seq h,hi⟩⟩
theorem zwn (Y:zjJ J H xs) (hl:H l=none) (hz:xs.length<=sizeLine) (P:Nat->V->Hp->Prop)
  (mono:∀ i v H1 H2,Same H1 H2->P i v H1->P i v H2) (put:∀ i v H1 ys zs,H1 l=some (.lst ys)->P i v H1->P i v (upd H1 l (.lst zs)))
  (hel:∀ i x H' Q',xs[i]?=some x->Same H H'->(∀ v H2,Same H' H2->P i v H2->Q' v H2)->te (some x::capts σ ix) H' Q')
  (fin:∀ ys H',Same H H'->H' l=some (.lst ys)->ys.length=xs.length->(∀ j v,ys[j]?=some v->P j v H')->R H') :
  ∃ W:Nat->Nat->List V->Hp->Prop,(∃ m,W 0 m [] (upd H l (.lst [])))/\Turns ix te σ J l R W:=by
 refine ⟨fun i m ys H'=>m=xs.length-i/\i<=xs.length/\ys.length=i/\(∀ j v,ys[j]?=some v->P j v H')/\Same H H'/\H' l=some (.lst ys),⟨xs.length,by simp,yda _,rfl,(fun j v e=>by simp at e),zf hl _,zh⟩,?_⟩
 rintro i m ys H' ⟨rfl,hi,hx,hp,sH,hL⟩
 refine ⟨hL,?_⟩
 by_cases hlt:i<xs.length
 ·refine .inr ⟨Y.go i H' sH hlt,by ac_rfl,fun x H2 y=>?_⟩
  obtain ⟨rfl,e2⟩:=Y.yld i H' x H2 sH y
  refine hel i x _ _ e2 sH fun v H3 s3 hv=>⟨s3 _ _ hL,xs.length-(i+1),by ac_rfl,rfl,hlt,by rw[yaf,hx];rfl,fun j w e=>?_,zJ (sH.trans s3) hl,zh⟩
  by_cases hj:j<ys.length
  ·rw[ybk hj] at e
   exact put _ _ _ _ _ (s3 _ _ hL) (mono _ _ _ _ s3 (hp j w e))
  ·by_cases hj2:j=ys.length
   ·subst hj2
    rw[ybf (ycx _),ydl] at e
    cases e
    rw[hx]
    exact put _ _ _ _ _ (s3 _ _ hL) hv
   ·rw[yaq (by rw[yaf,ybu];ac_rfl)] at e
    cases e
 ·exact .inl ⟨Y.stop i H' sH (by ac_rfl),fin ys H' sH hL (by ac_rfl) hp⟩
theorem zl2 (n d k:Nat):HT.sIx n d (some (k:Int))=min k n:=by
 show (if (k:Int)<0 then ((k:Int)+(n:Int)).toNat else min (k:Int).toNat n)=min k n
 rw[if_neg (by ac_rfl)]
 rfl
theorem zxm (xs:List V) (k:Nat):zeN xs (some (k:Int)) none=xs.drop k:=by
 unfold zeN
 rw[zl2,show HT.sIx xs.length xs.length none=xs.length from rfl]
 by_cases h:k<=xs.length
 ·rw[Nat.min_eq_left h,yaw (by rw[ycp];exact ycx _)]
 ·rw[Nat.min_eq_right (by ac_rfl),List.drop_of_length_le (ycx _),List.drop_of_length_le (by ac_rfl),List.take_nil]
theorem zxh (xs:List V) (k:Nat):zeN xs none (some (k:Int))=xs.take k:=by
 unfold zeN
 rw[zl2,show HT.sIx xs.length 0 none=0 from rfl,List.drop_zero,Nat.sub_zero]
 by_cases h:k<=xs.length
 ·rw[Nat.min_eq_left h]
 ·rw[Nat.min_eq_right (by ac_rfl),yaw (ycx _),yaw (by ac_rfl)]
theorem zmh {K:W.Frag} {H:Hp}:∀ {ys:List V} {l:List (Int × Int)},ys.length=l.length->(∀ (j:Nat) v s,ys[j]?=some v->l[j]?=some s->∃ p,v=.ref p/\H p=some (.tup [.int s.1,.int s.2]))->zH K H ys l
 | [],[],_,_=>.nil
 | y::ys,s::l,e,h=>by
  obtain ⟨p,rfl,hp⟩:=h 0 y s rfl rfl
  exact .cons hp (zmh (by simpa using e) fun j v u h1 h2=>h (j+1) v u h1 h2)
 | [],_::_,e,_=>by simp at e
 | _::_,[],e,_=>by simp at e
end L2
namespace L2
open PySem
end L2
namespace L2
open PySem PySem.Spec PyProof.Rows
section
variable {X:Cx} {pins:List (Addr × Obj)} {σ:St} {H:Hp} {s:Shared} {sc:Scope} {x:Str} {ix:List Nat} {fp:List Addr} {elt iter c:Expr} {te:TE} {tt:TT} {wi:TI} {px pos:Pos}
theorem zvH (hN:X.N.Nodup) (hiy:X.N[i]?=some y) (hy:X.env.scope.names.lookup y=some .local) (O:zfU X sc x ix) (hi:PI X (.Name x px) iter wi) (htt:∀ b,PT (X.block sc x ix b) c tt) (hel:∀ b,PE (X.block sc x ix b) elt te)
  (hc:X.calm=true:=by rfl) (hs:∀ v,foldedSetIterable iter X.env v=pure v:=by intro _;rfl) (hsw:swapsWith (.ListComp elt [⟨.Name x px,iter,[c],0⟩] sc pos) (some (.Name y py)) spos.line X.env=pure true:=by rfl) :
  PS X (.Assign [.Name y py] (.ListComp elt [⟨.Name x px,iter,[c],0⟩] sc pos) spos) (zqU (ztq ix wi tt te) (zdh i)):=by
 intro pins s σ H D I h
 rw[exec_Assign_Name_used _ _ _ _ hsw]
 refine wpAny_bind (wpAny_standAt (wpAny_bind ?_))
 show wpAny _ X.A (do let _ <-comprehension (.ListComp elt [⟨.Name x px,iter,[c],0⟩] sc pos) sc X.env _ (newList []) false (eval iter X.env) (some (assign (.Name y py) X.env))) _ _ s
 refine wpAny_bind (wpAny_mono (wpAny_comprehension_free (use:=some (assign (.Name y py) X.env)) (Q:=fun _ s'=>SP X pins D .next s') rfl hs O.clos O.kind O.names
  (thn (hi pins s σ H _ I h) fun xv s1 h1=>thn h1 fun itv s2 h2=>?_)) (fun _ s' hq=>wpAny_pure (wpAny_pure hq)) fun _ _ e=>e)
 obtain ⟨it,fp,tn,J,H2,e,I2,T,st2,f2,hq⟩:=h2
 subst e
 refine zmK O htt hel hc I2 T st2 f2 (fun l H'=>D.nx (σ.set i (some (.ref l))) H') hq ?_
 intro l C m s' H' I' hn hf r
 obtain ⟨o,es,ep,ho,hd,hr⟩:=id hn
 have Ip:=I'.addpin ho hf.1 hf.2.1 hf.2.2.1 (by intro v z;rw[hd] at z;cases z)
 refine thn ((zI (i:=i) hN hiy (Or.inl hy) (Or.inr hy):PG X (.Name y py) (zdh i)) _ s' σ H' (.ref l) (.ref l) (fun σ' H''=>σ'=σ.set i (some (.ref l))/\H''=H') Ip rfl ⟨rfl,rfl⟩) fun _ s'' ⟨σ'',H'',I'',e1,e2⟩=>?_
 subst e1 e2
 have pc:=(I''.pin (C,o) (yaj _ (yaj _ yap))).1
 refine ⟨m,⟨o,es,ep,pc,hd,hr⟩,fun h' hb=>⟨_,_,?_,r⟩⟩
 exact I''.unpinned.turned (t':=s''.toks) (fun b o hne e=>hb.extBut b o hne e) hf.1 hf.2.1 hf.2.2.2.1 hf.2.2.2.2.1 hf.2.2.2.2.2
end
structure Mk0 (K:W.Frag) (C:Addr):Prop where
 makes:PySem.W.makesIn K C=true
 init:PySem.W.findIn K (.ref C) "__init__" = some (some (.builtin "object.__init__"))
 kp:PySem.W.keepIn K (.ref C)=true
def zy2 (C:Addr):TE:=fun _ H Q=>∀ x dx,H x=none->H dx=none->dx≠x->Q (.ref x) (upd (upd H dx (.own x)) x (.ins C dx []))
section
variable {X:Cx} {C:Addr} {x m:Str} {p pos apos:Pos} {e o:Expr} {es:List Expr} {ta:TE} {t:TA} {j k:Nat} {ps:List Str}
theorem zmo (M:Mk0 X.K C) (hm:X.mg x=some (.ref C)) (hg:Gl X x:=by rfl) (hdb:(x == ("__debug__" : Str))=false:=by decide):PE X (.Call (.Name x p) [] [] pos) (zy2 C):=by
 intro pins s σ H Q I h
 refine wpAny_Call_Name_kw (zmk I hg hm ?_ hdb)
 refine PySem.W.callWith_K0 I.kIn M.kp ?_
 have hq:=h (s.heap.objs.size+1) s.heap.objs.size (I.hok.fresh (ydj _)) (I.hok.fresh (ycx _)) (ycy (yde _))
 have I2:=Inv.made (C:=C) I
 have Y:=PySem.W.makes_of (M:=model X.prog X.w) I.kIn M.makes
 have e2:((s.heap.push PySem.W.emptyDict).push (PySem.W.instObj C s.heap.objs.size)).get? (s.heap.objs.size+1)=some (PySem.W.instObj C s.heap.objs.size):=by
  have:=ydo (s.heap.push PySem.W.emptyDict) (o:=PySem.W.instObj C s.heap.objs.size) rfl
  rwa [ydq] at this
 refine wpAny_call (zvw I.kIn M.makes M.init (fun self=>PySem.W.Looks.of_pure (PySem.W.oi_bind self)) ?_)
 have t1:PySem.W.Looks (model X.prog X.w) ((s.heap.push PySem.W.emptyDict).push (PySem.W.instObj C s.heap.objs.size)) (typeOf (.ref (s.heap.objs.size+1))) (.ref C):=(PySem.W.Looks.ld e2).andThen .now
 have t2:PySem.W.Looks (model X.prog X.w) ((s.heap.push PySem.W.emptyDict).push (PySem.W.instObj C s.heap.objs.size)) (isInstance (.ref (s.heap.objs.size+1)) (.type "object")) true:=t1.andThen (Y.top.keeps fun b o e=>ydm _ (ydm _ e))
 refine codeAny_call_builtin PySem.W.oi_plain PySem.W.entry_oi (@PySem.W.check_slot (model X.prog X.w) _ _ _ "object.__init__" "object" "__init__" (.ref (s.heap.objs.size+1)) [] [] _ PySem.W.oi_kind PySem.W.oi_split t2 (PySem.W.oi_args (.ref (s.heap.objs.size+1))) ?_)
 rw[PySem.W.oi_run]
 exact wpAny_pure (And.intro rfl ⟨V.ref (s.heap.objs.size+1),_,I2,rfl,hq⟩)
inductive Kd where
 | plain | bank | thirty | exact
noncomputable def Kd.cls:Kd->Str
 | .plain => "Count"
 | .bank => "Bank"
 | .thirty => "Thirty"
 | .exact => "Exact"
def zbR (K:W.Frag) (H:Hp) (a:Addr) (kd:Kd):Prop:=∃ dx,H a=some (.ins (cA K kd.cls) dx [])
theorem zbR.same {K:W.Frag} {H H':Hp} {a:Addr} {kd:Kd} (h:zbR K H a kd) (s:Same H H'):zbR K H' a kd:=let ⟨dx,e⟩:=h;⟨dx,s _ _ e⟩
structure zq (K:W.Frag) (C:Addr) (m qual:Str) (st:Stmt) (ps:List Str):Prop where
 ex:∃ (f:Addr) (fd:FuncData),Fun K m qual st f fd/\Meth K C m f/\∀ us:List Value,us.length=ps.length->bindArgs fd ⟨us,[]⟩=pure (ps.zip us)
structure zu (P:Program) (w:World) (K:W.Frag) (mg:Str->Option Value) (base:Heap) (k:Nat) (C:Addr) (m:Str) (ps:List Str) (sp:Sp):Prop where
 ex:∃ (f:Addr) (fd:FuncData),zcC P w K mg base CX0 k f fd ps sp/\Meth K C m f/\∀ us:List Value,us.length=ps.length->bindArgs fd ⟨us,[]⟩=pure (ps.zip us)
theorem zq.ok {P:Program} {w:World} {K:W.Frag} {mg:Str->Option Value} {base:Heap} {C:Addr} {m qual:Str} {st:Stmt} {N ps:List Str} {k:Nat} {sp:Sp} (S:zq K C m qual st ps) (sc:zk N ps (zg st)) (len:∀ vs H Q E,sp vs H Q E->vs.length=ps.length)
  (hbody:∀ (f:Addr) (cdv:Value) (A:Around) (outer:List Env) (s:Shared) (H:Hp) (vs:List V) (Q:VK) (E:XK),Room k (A.deeper (envOfC qual (zg st) s.heap.objs.size f cdv))->sp vs H Q E ->
   ∃ t,PSs (zg8 CX0 P w K mg base N qual (zg st) f cdv A outer s H E).nox (za8 st) t/\t { nx:=fun _ H'=>Q .non H',rt:=Q } (start N vs) H):zu P w K mg base (k+1) C m ps sp:=by
 obtain ⟨f,fd,F,hm,hb⟩:=S.ex
 exact ⟨f,fd,F.ok sc len (fun cdv=>hbody f cdv),hm,hb⟩
theorem zq.okF {P:Program} {w:World} {K:W.Frag} {mg:Str->Option Value} {base:Heap} {C:Addr} {m qual:Str} {st:Stmt} {N ps:List Str} {k:Nat} {sp:Sp} (S:zq K C m qual st ps) (sc:zk N ps (zg st)) (len:∀ vs H Q E,sp vs H Q E->vs.length=ps.length)
  (hbody:∀ (f:Addr) (cdv:Value) (A:Around) (outer:List Env) (s:Shared) (H:Hp) (vs:List V) (Q:VK) (E:XK),Room k (A.deeper (envOfC qual (zg st) s.heap.objs.size f cdv))->sp vs H Q E ->
   ∃ t,PSs (zg8 CX0 P w K mg base N qual (zg st) f cdv A outer s H E).nox (za8 st) t/\t { nx:=fun _ H'=>Same H H'/\Q .non H,rt:=fun v H'=>Same H H'/\Q v H } (start N vs) H):zu P w K mg base (k+1) C m ps sp:=by
 obtain ⟨f,fd,F,hm,hb⟩:=S.ex
 have G:zcC P w K mg base CX0 (k+1) f fd ps (fun vs H R E=>∃ Q,sp vs H Q E/\R=fun v H'=>Same H H'/\Q v H) :=
  F.ok sc (fun vs H R E ⟨Q,h,_⟩=>len vs H Q E h) fun cdv A outer s H vs R E hr ⟨Q,h,e⟩=>by
   subst e
   exact hbody f cdv A outer s H vs Q E hr h
 exact ⟨f,fd,G.forget fun vs H Q E h=>⟨Q,h,rfl⟩,hm,hb⟩
def zvg (K:W.Frag) (sp:Kd->Sp) (ta:TE) (t:TA):TE:=fun σ H Q=>ta σ H fun x H1=>∃ (kd:Kd) (a:Addr),x=.ref a/\zbR K H1 a kd/\t σ H1 fun vs H2=>sp kd (x::vs) H2 Q E0
theorem znt (D:∀ kd:Kd,zu X.prog X.w X.K X.mg X.base j (cA X.K kd.cls) m ps (sp kd)) (hc:∀ kd:Kd,Cls X.K (cA X.K kd.cls)) (hr:Room k X.A) (he:PE X o ta) (ha:PA X (e::es) t) (hj:j<=k:=by decide)
  (hst:starEach (e::es) X.env=(false,eval e X.env)::starEach es X.env:=by rfl) (hpl:(backTo pos (starEach es X.env)).any (·.1)=false:=by rfl)
  (ht:eval (.Call (.Attribute o m apos) (e::es) [] pos) X.env=(do
   let ov <-eval o X.env
   standAt apos.atName
   let (f,first) <-holding [ov] (getMethod ov m pl)
   callWith pos f first (backTo pos (starEach (e::es) X.env)) (backToKw pos (keywordEach [] X.env))):=by rfl) :
  PE X (.Call (.Attribute o m apos) (e::es) [] pos) (zvg X.K sp ta t):=by
 intro pins s σ H Q I h
 refine PySem.W.methodCall_KW (pl:=pl) (thn (he pins s σ H _ I h) fun u s1 ⟨x,H1,I1,rx,kd,a,ex,⟨dx,ea⟩,q⟩=>?_) ht
 subst ex
 obtain rfl:u=Value.ref a:=rx
 obtain ⟨f,fd,F,hm,hb⟩:=(D kd).ex
 refine zee I1 ea (hc kd) hm rfl ?_
 refine PySem.W.callWith_K (first:=[.ref a]) (h₀:=X.base) I.ok.mod.kin hm.kp (thn (ha pos pins s1 σ H1 _ I1 q) fun us s2 ⟨vs,H2,I2,r,q2⟩=>⟨I2.kIn,?_⟩) hst hpl
 exact zhc (us:=.ref a::us) (vs:=.ref a::vs) (dvs:=[]) (ds:=[]) F (hr.mono hj) (.all hb) .nil zir I2 (.cons rfl r) (by rw[ycs];exact q2)
theorem zfS (D:∀ kd:Kd,zu X.prog X.w X.K X.mg X.base j (cA X.K kd.cls) m ps (sp kd)) (hc:∀ kd:Kd,Cls X.K (cA X.K kd.cls)) (hr:Room k X.A) (he:PE X o ta) (hj:j<=k:=by decide)
  (ht:eval (.Call (.Attribute o m apos) [] [] pos) X.env=(do
   let ov <-eval o X.env
   standAt apos.atName
   let (f,first) <-holding [ov] (getMethod ov m pl)
   callWith pos f first (backTo pos (starEach [] X.env)) (backToKw pos (keywordEach [] X.env))):=by rfl) :
  PE X (.Call (.Attribute o m apos) [] [] pos) (zvg X.K sp ta zo1):=by
 intro pins s σ H Q I h
 refine PySem.W.methodCall_KW (pl:=pl) (thn (he pins s σ H _ I h) fun u s1 ⟨x,H1,I1,rx,kd,a,ex,⟨dx,ea⟩,q⟩=>?_) ht
 subst ex
 obtain rfl:u=Value.ref a:=rx
 obtain ⟨f,fd,F,hm,hb⟩:=(D kd).ex
 refine zee I1 ea (hc kd) hm rfl ?_
 exact PySem.W.callWith_K0 (first:=[.ref a]) I1.kIn hm.kp (zhc (us:=[.ref a]) (vs:=[.ref a]) (dvs:=[]) (ds:=[]) F (hr.mono hj) (.all hb) .nil zir I1 (.cons rfl .nil) q)
end
section
variable {K:W.Frag} {x:Str} {C f:Addr}
theorem zbx (a:PySem.W.nsIn K mainGlobals x=some (some (.ref C))) (h1:PySem.W.plainGet K C Str.empty=true) (h2:PySem.W.hasDictIn K C=true) (h3:PySem.W.plainOver K C=true) (h4:PySem.W.findIn K (.ref C) "__setattr__" = some (some (.builtin "object.__setattr__"))):Cls K (cA K x):=by
 rw[zeS a];exact ⟨h1,h2,h3,h4⟩
theorem znH (a:PySem.W.nsIn K mainGlobals x=some (some (.ref C))) (h1:PySem.W.makesIn K C=true) (h2:PySem.W.findIn K (.ref C) "__init__" = some (some (.builtin "object.__init__"))) (h3:PySem.W.keepIn K (.ref C)=true):Mk0 K (cA K x):=by
 rw[zeS a];exact ⟨h1,h2,h3⟩
theorem zw {m qual:Str} {st:Stmt} {ps:List Str} {oc:Value} {od an:Option Addr} {osl:Array (Option Value)} {kV doc pm cdv ct:Value} (a:PySem.W.nsIn K mainGlobals x=some (some (.ref C))) (hi:PySem.W.findIn K (.ref C) m=some (some (.ref f))) (hf:PySem.W.isFn K (.ref f)=true)
  (fk:PySem.W.keepIn K (.ref f)=true) (fl:K.lookup f=some ⟨oc,od,.func (PySem.W.fnOf m qual (zdf st) (za8 st) (zg st) .none kV doc pm an cdv ct),osl⟩) (fc:PySem.W.codeIn K cdv qual=true)
  (hb:∀ us:List Value,us.length=ps.length->bindArgs (PySem.W.fnOf m qual (zdf st) (za8 st) (zg st) .none kV doc pm an cdv ct) ⟨us,[]⟩=pure (ps.zip us)):zq K (cA K x) m qual st ps:=by
 rw[zeS a];exact ⟨f,_,zr2 fl fc fk,⟨hi,hf,fk⟩,hb⟩
end
end L2
namespace L2
open PySem
end L2
namespace L2
theorem zw9 (h:xs[xs.length-1]?=some v) (h0:0<xs.length):atI xs (-1)=some v:=by
 have e:ixN xs.length (-1)=some (xs.length-1):=by
  unfold ixN
  rw[if_neg (by decide),if_pos (by ac_rfl),show ((-1:Int)+(xs.length:Int)).toNat=xs.length-1 by ac_rfl]
 unfold atI
 rw[e]
 exact h
end L2
namespace L2
open PySem PySem.Spec PyProof.Rows
section
variable {X:Cx} {pins:List (Addr × Obj)} {σ:St} {H:Hp} {s:Shared} {sc:Scope} {x y0:Str} {ix:List Nat} {fp:List Addr}
end
section
variable {X:Cx} {pins:List (Addr × Obj)} {σ:St} {H:Hp} {s:Shared} {sc:Scope} {x y0:Str} {ix:List Nat} {fp:List Addr} {elt iter:Expr} {te:TE} {wi:TI} {px py0 pt0 pos:Pos} {kt0:Nat}
end
end L2
namespace SortT
open PySem PySem.W PyProof.Rows
noncomputable def okT {α:Type} (n:Nat) (lt:Nat->Nat->Bool):KasT α->(α->Prop)->Prop
 | .ret a,Q=>Q a
 | .ask i j k,Q=>(i<n/\j<n)/\okT n lt (k (lt i j)) Q
theorem zqI {α:Type} {n:Nat} {lt:Nat->Nat->Bool} {Q Q':α->Prop} (h:∀ a,Q a->Q' a):∀ (t:KasT α),okT n lt t Q->okT n lt t Q'
 | .ret a,q=>h a q
 | .ask i j k,q=>⟨q.1,zqI h _ q.2⟩
theorem ze0:∀ (t:KasT α),okT n lt t (fun a=>okT n lt (f a) Q)->okT n lt (t.bind f) Q
 | .ret a,q=>q
 | .ask i j k,q=>⟨q.1,ze0 _ q.2⟩
theorem zu0 {α:Type} {n:Nat} {lt:Nat->Nat->Bool} {s:Shared} {cmp:Nat->Nat->(Bool->Shared->Prop)->Shared->Prop} (hc:∀ i j C,i<n->j<n->C (lt i j) s->cmp i j C s) {Q:α->Prop} {R:α->Shared->Prop} (hR:∀ a,Q a->R a s):∀ (t:KasT α),okT n lt t Q->t.kasWp cmp R s
 | .ret a,q=>hR a q
 | .ask i j k,q=>hc i j _ q.1.1 q.1.2 (zu0 hc hR _ q.2)
structure Ord (lt:Nat->Nat->Bool):Prop where
 irr:∀ i,lt i i=false
 asy:∀ i j,lt i j=true->lt j i=false
 neg:∀ i j k,lt i j=false->lt j k=false->lt i k=false
variable {N:Nat} {lt:Nat->Nat->Bool}
def In (N:Nat) (p:Array Nat):Prop:=p.size=N/\∀ i,i<N->p.getD i 0<N
def Up (lt:Nat->Nat->Bool) (p:Array Nat) (k:Nat):Prop:=∀ i j,i<=j->j<k->lt (p.getD j 0) (p.getD i 0)=false
def Dn (lt:Nat->Nat->Bool) (p:Array Nat) (k:Nat):Prop:=∀ i j,i<=j->j<k->lt (p.getD i 0) (p.getD j 0)=false
theorem zjC {p q:Array Nat} {i j:Nat} (h:p[i]?=q[j]?):p.getD i 0=q.getD j 0:=by
 rw[yea,yea,h]
theorem zcL {p:Array Nat} {i j k:Nat} (hj:j<=p.size):(kas_rev p i j).getD k 0=if i<=k/\k<j then p.getD (i+j-1-k) 0 else p.getD k 0:=by
 have e:=getElem?_mirror_all (xs:=p) (i:=i) hj k
 unfold kas_rev
 by_cases c:i<=k/\k<j
 ·rw[if_pos c] at e ⊢;exact zjC e
 ·rw[if_neg c] at e ⊢;exact zjC e
theorem zkY (h:In N p) (hj:j<=N):In N (kas_rev p i j):=by
 refine ⟨by rw[kas_rev_size];exact h.1,fun k hk=>?_⟩
 rw[zcL (by rw[h.1];exact hj)]
 split
 ·exact h.2 _ (by ac_rfl)
 ·exact h.2 k hk
theorem Up.one (O:Ord lt):Up lt p 1:=fun i j h1 h2=>by
 have:i=j:=by ac_rfl
 subst this
 exact O.irr _
theorem Up.next (O:Ord lt) (h:Up lt p n) (h1:1<=n) (c:lt (p.getD n 0) (p.getD (n-1) 0)=false):Up lt p (n+1):=fun i j h2 h3=>by
 by_cases e:j=n
 ·subst e
  by_cases e2:i=j
  ·subst e2;exact O.irr _
  ·exact O.neg _ _ _ c (h i (j-1) (by ac_rfl) (by ac_rfl))
 ·exact h i j h2 (by ac_rfl)
theorem zql (O:Ord lt) (hp:In N p):∀ (f n:Nat),1<=n->n+f<=N->Up lt p n->(∀ m,n<=m->m<=n+f->Up lt p m->(m=n+f\/lt (p.getD m 0) (p.getD (m-1) 0)=true)->Q m)->okT N lt (kas_asc p f n) Q
 | 0,n,h1,h2,up,hQ=>hQ n (ycx _) (ycx _) up (.inl rfl)
 | f+1,n,h1,h2,up,hQ=>by
  refine ⟨⟨hp.2 n (by ac_rfl),hp.2 (n-1) (by ac_rfl)⟩,?_⟩
  cases c:lt (p.getD n 0) (p.getD (n-1) 0) with
  | true=>exact hQ n (ycx _) (by ac_rfl) up (.inr c)
  | false=>exact zql O hp f (n+1) (by ac_rfl) (by ac_rfl) (up.next O h1 c) fun m a b u z=>hQ m (by ac_rfl) (by ac_rfl) u (by rcases z with z | z;exact .inl (by ac_rfl);exact .inr z)
theorem zky (p:Array Nat) (i j:Nat):(kas_rev p i j).Perm p:=mirror_perm _ _ _ _
structure Des (lt:Nat->Nat->Bool) (p:Array Nat) (n q:Nat):Prop where
 hq:q+1<=n
 dn:Dn lt p n
 al:∀ i,n<=i+(q+1)->i<n->lt (p.getD i 0) (p.getD (n-1) 0)=false/\lt (p.getD (n-1) 0) (p.getD i 0)=false
theorem Des.alike (O:Ord lt) (D:Des lt p n q) (h1:n<=i+(q+1)) (h2:i<n) (h3:n<=j+(q+1)) (h4:j<n):lt (p.getD i 0) (p.getD j 0)=false:=O.neg _ _ _ (D.al i h1 h2).1 (D.al j h3 h4).2
theorem Des.turn (O:Ord lt) (D:Des lt p n q) (hn:n<=p.size):Dn lt (kas_rev p (n-(q+1)) n) n:=fun i j h1 h2=>by
 have:=D.hq
 rw[zcL hn,zcL hn]
 by_cases ci:n-(q+1)<=i/\i<n
 ·rw[if_pos ci,if_pos (show n-(q+1)<=j/\j<n by ac_rfl)]
  exact D.alike O (by ac_rfl) (by ac_rfl) (by ac_rfl) (by ac_rfl)
 ·rw[if_neg ci]
  by_cases cj:n-(q+1)<=j/\j<n
  ·rw[if_pos cj]
   exact D.dn _ _ (by ac_rfl) (by ac_rfl)
  ·rw[if_neg cj]
   exact D.dn i j h1 h2
theorem Des.fall (O:Ord lt) (dn:Dn lt p n) (h1:1<=n) (c:lt (p.getD (n-1) 0) (p.getD n 0)=false):Dn lt p (n+1):=fun i j h2 h3=>by
 by_cases e:j=n
 ·subst e
  by_cases e2:i=j
  ·subst e2;exact O.irr _
  ·exact O.neg _ _ _ (dn i (j-1) (by ac_rfl) (by ac_rfl)) c
 ·exact dn i j h2 (by ac_rfl)
theorem zma (O:Ord lt):∀ (f:Nat) (p:Array Nat) (n q:Nat),In N p->n+f<=N->Des lt p n q->(∀ p' n' q',In N p'->p'.Perm p->n<=n'->n'<=n+f->Des lt p' n' q'->Q (p',n',q'))->okT N lt (kas_desc f p n q) Q
 | 0,p,n,q,hp,hn,D,hQ=>hQ p n q hp (Array.Perm.refl _) (ycx _) (ycx _) D
 | f+1,p,n,q,hp,hn,D,hQ=>by
  have hq:=D.hq
  refine ⟨⟨hp.2 n (by ac_rfl),hp.2 (n-1) (by ac_rfl)⟩,?_⟩
  cases c:lt (p.getD n 0) (p.getD (n-1) 0) with
  | true =>
   have c':=O.asy _ _ c
   show okT N lt (if q > 0 then _ else _) Q
   by_cases q0:q > 0
   ·rw[if_pos q0]
    have hs:n<=p.size:=by rw[hp.1];ac_rfl
    have dn:Dn lt (kas_rev p (n-(q+1)) n) (n+1):=by
     refine Des.fall O (D.turn O hs) (by ac_rfl) ?_
     rw[zcL hs,zcL hs,if_pos (by ac_rfl),if_neg (by ac_rfl)]
     exact O.neg _ _ _ (D.alike O (by ac_rfl) (by ac_rfl) (by ac_rfl) (by ac_rfl)) c'
    refine zma O f _ (n+1) 0 (zkY hp (by ac_rfl)) (by ac_rfl) ⟨by ac_rfl,dn,fun i a b=>?_⟩ fun p' n' q' a b c d e=>hQ p' n' q' a (b.trans (zky _ _ _)) (by ac_rfl) (by ac_rfl) e
    have:i=n:=by ac_rfl
    subst this
    exact ⟨O.irr _,O.irr _⟩
   ·rw[if_neg q0]
    refine zma O f _ (n+1) 0 hp (by ac_rfl) ⟨by ac_rfl,Des.fall O D.dn (by ac_rfl) c',fun i a b=>?_⟩ fun p' n' q' a b c d e=>hQ p' n' q' a b (by ac_rfl) (by ac_rfl) e
    have:i=n:=by ac_rfl
    subst this
    exact ⟨O.irr _,O.irr _⟩
  | false =>
   refine ⟨⟨hp.2 (n-1) (by ac_rfl),hp.2 n (by ac_rfl)⟩,?_⟩
   cases d:lt (p.getD (n-1) 0) (p.getD n 0) with
   | true=>exact hQ p n q hp (Array.Perm.refl _) (ycx _) (by ac_rfl) D
   | false =>
    refine zma O f _ (n+1) (q+1) hp (by ac_rfl) ⟨by ac_rfl,Des.fall O D.dn (by ac_rfl) d,fun i a b=>?_⟩ fun p' n' q' a b c d e=>hQ p' n' q' a b (by ac_rfl) (by ac_rfl) e
    show lt (p.getD i 0) (p.getD n 0)=false/\lt (p.getD n 0) (p.getD i 0)=false
    by_cases e:i=n
    ·subst e
     exact ⟨O.irr _,O.irr _⟩
    ·have al:=D.al i (by ac_rfl) (by ac_rfl)
     exact ⟨O.neg _ _ _ al.1 d,O.neg _ _ _ c al.2⟩
theorem Dn.up (dn:Dn lt p n) (hn:n<=p.size):Up lt (kas_rev p 0 n) n:=fun i j h1 h2=>by
 rw[zcL hn,zcL hn,if_pos (by ac_rfl),if_pos (by ac_rfl)]
 exact dn _ _ (by ac_rfl) (by ac_rfl)
abbrev Good (N:Nat) (lt:Nat->Nat->Bool) (p0:Array Nat) (r:Nat × Array Nat):Prop:=In N r.2/\r.2.Perm p0/\1<=r.1/\r.1<=N/\Up lt r.2 r.1
theorem zq8 (O:Ord lt) (hp:In N p) (pe:p.Perm p0) (h1:1<=n) (hn:n<=N) (dn:Dn lt p n):okT N lt (kas_tail3 n N p) (Good N lt p0):=by
 have hs:n<=p.size:=by rw[hp.1];ac_rfl
 refine ze0 _ (zql O (zkY hp hn) (N-n) n h1 (by ac_rfl) (dn.up hs) fun m a b u _=>?_)
 exact ⟨zkY hp hn,(zky _ _ _).trans pe,by show 1<=m;ac_rfl,by show m<=N;ac_rfl,u⟩
theorem zmy (O:Ord lt) (hp:In N p) (pe:p.Perm p0) (h1:1<=n) (hn:n+1<=N) (dn:Dn lt p (n+1)):okT N lt (kas_descPart n N p) (Good N lt p0):=by
 refine ze0 _ (zma O (N-(n+1)) p (n+1) 0 hp (by ac_rfl) ⟨by ac_rfl,dn,fun i a b=>?_⟩ fun p' n' q' a b c d D=>?_)
 ·have:i=n:=by ac_rfl
  subst this
  exact ⟨O.irr _,O.irr _⟩
 ·show okT N lt (if q' > 0 then kas_tail3 n' N (kas_rev p' (n'-(q'+1)) n') else kas_tail3 n' N p') _
  have hs:n'<=p'.size:=by rw[a.1];ac_rfl
  by_cases q0:q' > 0
  ·rw[if_pos q0]
   exact zq8 O (zkY a (by ac_rfl)) ((zky _ _ _).trans (b.trans pe)) (by ac_rfl) (by ac_rfl) (D.turn O hs)
  ·rw[if_neg q0]
   exact zq8 O a (b.trans pe) (by ac_rfl) (by ac_rfl) D.dn
theorem zv2 (O:Ord lt) (hp:In N p) (h1:1<=N):okT N lt (kas_count N p) (Good N lt p):=by
 refine ze0 _ (zql O hp (N-1) 1 (ycx _) (by ac_rfl) (Up.one O) fun n a b u z=>?_)
 show okT N lt (if (n == N)=true then _ else _) _
 by_cases e:n=N
 ·rw[if_pos (by rw[e];exact beq_self_eq_true N)]
  exact ⟨hp,Array.Perm.refl _,by show 1<=n;ac_rfl,by show n<=N;ac_rfl,u⟩
 ·rw[if_neg (by rw[beq_iff_eq];exact e)]
  have c:lt (p.getD n 0) (p.getD (n-1) 0)=true:=by rcases z with z | z;ac_rfl;exact z
  have c':=O.asy _ _ c
  by_cases g:n > 1
  ·rw[if_pos g]
   refine ⟨⟨hp.2 0 (by ac_rfl),hp.2 (n-1) (by ac_rfl)⟩,?_⟩
   cases d:lt (p.getD 0 0) (p.getD (n-1) 0) with
   | true=>exact ⟨hp,Array.Perm.refl _,by show 1<=n;ac_rfl,by show n<=N;ac_rfl,u⟩
   | false =>
    have hs:n<=p.size:=by rw[hp.1];ac_rfl
    have al:∀ i j,i<n->j<n->lt (p.getD i 0) (p.getD j 0)=false:=fun i j hi hj=>O.neg _ _ _ (u 0 i (yda _) hi) (O.neg _ _ _ d (u j (n-1) (by ac_rfl) (by ac_rfl)))
    refine zmy O (zkY hp (by ac_rfl)) (zky _ _ _) (by ac_rfl) (by ac_rfl) (Des.fall O (fun i j h2 h3=>?_) (by ac_rfl) ?_)
    ·rw[zcL hs,zcL hs,if_pos (by ac_rfl),if_pos (by ac_rfl)]
     exact al _ _ (by ac_rfl) (by ac_rfl)
    ·rw[zcL hs,zcL hs,if_pos (by ac_rfl),if_neg (by ac_rfl)]
     exact O.neg _ _ _ (al _ (n-1) (by ac_rfl) (by ac_rfl)) c'
  ·rw[if_neg g]
   have e1:n=1:=by ac_rfl
   subst e1
   refine zmy O hp (Array.Perm.refl _) (ycx _) (by ac_rfl) (Des.fall O (fun i j h2 h3=>?_) (ycx _) c')
   have:i=j:=by ac_rfl
   subst this
   exact O.irr _
theorem zmZ (O:Ord lt) (hp:In N p) (hk:k<N) (u:Up lt p k):∀ (f l r:Nat),l<=r->r<=k->r-l<=f->(∀ i,i<l->lt (p.getD k 0) (p.getD i 0)=false)->(∀ i,r<=i->i<k->lt (p.getD k 0) (p.getD i 0)=true) ->
  (∀ m,m<=k->(∀ i,i<m->lt (p.getD k 0) (p.getD i 0)=false)->(∀ i,m<=i->i<k->lt (p.getD k 0) (p.getD i 0)=true)->Q m)->okT N lt (kas_place p k f l r) Q
 | 0,l,r,h1,h2,h3,lo,hi,hQ=>hQ l (by ac_rfl) lo fun i a b=>hi i (by ac_rfl) b
 | f+1,l,r,h1,h2,h3,lo,hi,hQ=>by
  show okT N lt (if l>=r then _ else _) Q
  by_cases g:l>=r
  ·rw[if_pos g]
   exact hQ l (by ac_rfl) lo fun i a b=>hi i (by ac_rfl) b
  ·rw[if_neg g]
   refine ⟨⟨hp.2 k hk,hp.2 _ (by ac_rfl)⟩,?_⟩
   cases c:lt (p.getD k 0) (p.getD ((l+r) / 2) 0) with
   | true =>
    refine zmZ O hp hk u f l ((l+r) / 2) (by ac_rfl) (by ac_rfl) (by ac_rfl) lo (fun i a b=>?_) hQ
    cases d:lt (p.getD k 0) (p.getD i 0) with
    | true=>rfl
    | false =>
     have:=O.neg _ _ _ d (u _ i a b)
     rw[c] at this
     cases this
   | false=>exact zmZ O hp hk u f ((l+r) / 2+1) r (by ac_rfl) h2 (by ac_rfl) (fun i a=>O.neg _ _ _ c (u i _ (by ac_rfl) (by ac_rfl))) hi hQ
theorem zr8 {p:Array Nat} {k l i:Nat} (hk:k<p.size) (hl:l<=k):(bubble p k (k-l)).getD i 0=if i=l then p.getD k 0 else if l<i/\i<=k then p.getD (i-1) 0 else p.getD i 0:=by
 have e:=getElem?_bubble hk (k-l) (by ac_rfl) i
 rw[show k-(k-l)=l by ac_rfl] at e
 by_cases c:i=l
 ·rw[if_pos c] at e ⊢;exact zjC e
 ·rw[if_neg c] at e ⊢
  by_cases c2:l<i/\i<=k
  ·rw[if_pos c2] at e ⊢;exact zjC e
  ·rw[if_neg c2] at e ⊢;exact zjC e
theorem zvr (O:Ord lt):∀ (f:Nat) (p:Array Nat) (k:Nat),In N p->p.Perm p0->k+f=N->Up lt p k->okT N lt (kas_bin f p k) fun q=>In N q/\q.Perm p0/\Up lt q N
 | 0,p,k,hp,pe,e,u=>⟨hp,pe,by rw[<-e];exact u⟩
 | f+1,p,k,hp,pe,e,u=>by
  have hk:k<p.size:=by rw[hp.1];ac_rfl
  refine ze0 _ (zmZ O hp (by ac_rfl) u k 0 k (yda _) (ycx _) (by ac_rfl) (fun i h=>absurd h (Nat.not_lt_zero _)) (fun i a b=>by ac_rfl) fun l hl lo hi=>?_)
  refine zvr O f _ (k+1) ⟨by rw[bubble_size];exact hp.1,fun i h=>?_⟩ ((bubble_perm _ _ _).trans pe) (by ac_rfl) fun i j h1 h2=>?_
  ·rw[zr8 hk hl]
   by_cases c1:i=l
   ·rw[if_pos c1];exact hp.2 k (by ac_rfl)
   ·rw[if_neg c1]
    by_cases c2:l<i/\i<=k
    ·rw[if_pos c2];exact hp.2 _ (by ac_rfl)
    ·rw[if_neg c2];exact hp.2 i h
  ·rw[zr8 hk hl,zr8 hk hl]
   by_cases ei:i=l
   ·rw[if_pos ei]
    by_cases ej:j=l
    ·rw[if_pos ej];exact O.irr _
    ·rw[if_neg ej,if_pos (by ac_rfl)]
     exact O.asy _ _ (hi (j-1) (by ac_rfl) (by ac_rfl))
   ·rw[if_neg ei]
    by_cases ej:j=l
    ·rw[if_pos ej,if_neg (by ac_rfl)]
     exact lo i (by ac_rfl)
    ·rw[if_neg ej]
     by_cases ci:l<i/\i<=k
     ·rw[if_pos ci,if_pos (by ac_rfl)]
      exact u _ _ (by ac_rfl) (by ac_rfl)
     ·rw[if_neg ci]
      by_cases cj:l<j/\j<=k
      ·rw[if_pos cj]
       exact u _ _ (by ac_rfl) (by ac_rfl)
      ·rw[if_neg cj]
       exact u _ _ h1 (by ac_rfl)
theorem zxA (O:Ord lt) (h1:1<=N):okT N lt (kas_sort N) fun q=>In N q/\q.Perm (ybn (yba N))/\Up lt q N:=by
 have hp:In N (ybn (yba N)):=⟨by simp,fun i h=>by
  rw[yea]
  simp[h]⟩
 refine ze0 _ (zqI (fun r g=>?_) _ (zv2 O hp h1))
 obtain ⟨a,b,c,d,e⟩:=g
 show okT N lt (if r.1<N then _ else _) _
 by_cases h:r.1<N
 ·rw[if_pos h]
  exact zvr O _ _ _ a b (by ac_rfl) (by rw[Nat.max_eq_left c];exact e)
 ·rw[if_neg h]
  have:r.1=N:=by ac_rfl
  exact ⟨a,b,by rw[<-this];exact e⟩
end SortT
namespace SortT
open PySem PySem.W PyProof.Rows PySem.Calls
def zby (h:Heap) (v:Value) (x:Int × Int):Prop:=∃ a o n t u,v=.ref a/\h.get? a=some o/\o.cls=.type "tuple" /\ o.data=.seq #[.int x.1 t,.int x.2 u] n
theorem zby.keep (p:zby h v x) (k:∀ a o,v=.ref a->h.get? a=some o->h'.get? a=some o):zby h' v x:=by
 obtain ⟨a,o,n,t,u,rfl,e,r⟩:=p
 exact ⟨a,o,n,t,u,rfl,k a o rfl e,r⟩
def lex (x y:Int × Int):Bool:=decide (x.1<y.1\/(x.1=y.1/\x.2<y.2))
section
variable {prog:Program} {w:World} {A:Around} {E:Value->Shared->Prop} {s:Shared}
theorem zxd (hv:zby s.heap v x) (hw:zby s.heap v' y) (h:Q (lex x y) s):wpAny (model prog w) A (keyLt' (tuples' true) v v') Q E s:=by
 obtain ⟨a,o,n,t,u,rfl,e,c,d⟩:=hv
 obtain ⟨a',o',n',t',u',rfl,e',c',d'⟩:=hw
 refine kat_lt e d e' d' ?_
 refine kat_cons (wpAny_eqBool_int ?_)
 by_cases c1:x.1=y.1
 ·rw[show (x.1 == y.1)=true from beq_iff_eq.mpr c1]
  refine kat_yes (kat_cons (wpAny_eqBool_int ?_))
  by_cases c2:x.2=y.2
  ·rw[show (x.2 == y.2)=true from beq_iff_eq.mpr c2]
   refine kat_yes (kat_nil ?_)
   have:lex x y=false:=decide_eq_false (by ac_rfl)
   rw[this] at h
   exact h
  ·rw[show (x.2 == y.2)=false from beq_eq_false_iff_ne.mpr c2]
   refine kat_no (kat_one _ _ (lt_int ?_))
   have:lex x y=decide (x.2<y.2):=decide_eq_decide.mpr (by ac_rfl)
   rw[this] at h
   exact h
 ·rw[show (x.1 == y.1)=false from beq_eq_false_iff_ne.mpr c1]
  refine kat_no (oneLt_int ?_)
  have:lex x y=decide (x.1<y.1):=decide_eq_decide.mpr (by ac_rfl)
  rw[this] at h
  exact h
theorem ztl (f:Nat->Int × Int):Ord fun i j=>lex (f i) (f j):=by
 refine ⟨fun i=>decide_eq_false (by ac_rfl),fun i j h=>?_,fun i j k h1 h2=>?_⟩
 ·have:=of_decide_eq_true h
  exact decide_eq_false (by ac_rfl)
 ·have a:=of_decide_eq_false h1
  have b:=of_decide_eq_false h2
  exact decide_eq_false (by ac_rfl)
theorem zmC {a:Addr} {vs:List Value} {n:Nat} {P:PySem.Fin->Shared->Prop} {f:Nat->Int × Int} (ho:s.heap.get? a=some (seqObj "list" vs.toArray n)) (h64:vs.length<64) (hp:∀ i,i<vs.length->zby s.heap (vs.getD i .none) (f i))
  (h:∀ p:Array Nat,In vs.length p->p.Perm (ybn (yba vs.length))->Up (fun i j=>lex (f i) (f j)) p vs.length->P (.done (.ret .none)) { s with heap:=sortedHeap s.heap a vs (ybn (p.toList.map fun i=>vs.getD i Value.none)) }) :
  wpAny (model prog w) A (Builtin.«list.sort» ⟨[.ref a],[]⟩) P E s:=by
 rw[list_sort_plain]
 have ha:a<s.heap.objs.size:=ydn ho
 refine wpAny_bind (listItems_at ho rfl ?_)
 refine wpAny_bind (listUpdate_at ho rfl ?_ (by rw[yak,sizeLine_eq];ac_rfl) (yda _))
 obtain ⟨e1,ho1⟩:∃ e1,(s.heap.update a (Obj.mapSeq fun _=>#[])).get? a=some (seqObj "list" #[] e1):=⟨_,get?_update_seq ho (fun _=>#[])⟩
 refine wpAny_bind (seqEpoch_at ho1 rfl ?_)
 refine wpAny_bind (wpAny_newTuple ?_ (by show vs.length<=_;rw[sizeLine_eq];ac_rfl))
 refine wpAny_bind (wpAny_newList ?_ (yda _))
 refine wpAny_holding ?_
 have ho6:(((s.heap.update a (Obj.mapSeq fun _=>#[])).push (seqObj "tuple" vs.toArray 0)).push (seqObj "list" #[] 0)).get? a=some (seqObj "list" #[] e1):=ydm _ (ydm _ ho1)
 show wpAny (model prog w) A _ P E { s with heap:=((s.heap.update a (Obj.mapSeq fun _=>#[])).push (seqObj "tuple" vs.toArray 0)).push (seqObj "list" #[] 0) }
 dsimp only
 have hsz:vs.toArray.size=vs.length:=by simp
 have outsz:∀ p:Array Nat,p.size=vs.length->(ybn (p.toList.map fun i=>vs.getD i Value.none)).size<=sizeLine:=fun p hp=>by
  rw[yak,yab,ydy,hp,sizeLine_eq];ac_rfl
 by_cases h2:vs.toArray.size<2
 ·rw[if_pos h2,if_pos h2]
  refine wpAny_bind (wpAny_pure ?_)
  rw[StateT.run_pure]
  refine wpAny_bind (wpAny_pure ?_)
  dsimp only
  have hin:In vs.length (ybn (yba vs.length)):=⟨by simp,fun i h=>by rw[yea];simp[h]⟩
  have key:=h (ybn (yba vs.length)) hin (Array.Perm.refl _) (fun i j h1 h3=>by
   have:i=j:=by ac_rfl
   subst this
   exact (ztl f).irr _)
  have eo:(arrOf (SortSt.mk' general' (vs.toArray.zip vs.toArray) #[] 7 none)).map (·.2)=ybn ((ybn (yba vs.length)).toList.map fun i=>vs.getD i Value.none):=by
   refine kat_snds rfl ?_
   have e:=kas_range (vs.toArray.zip vs.toArray)
   rw[show (vs.toArray.zip vs.toArray).size=vs.length by simp] at e
   exact e.symm
  refine wpAny_bind (seqEpoch_at ho6 rfl ?_)
  refine wpAny_bind (listUpdate_at ho6 rfl ?_ (yda _) (by rw[eo];exact Nat.le_succ_of_le (outsz _ hin.1)))
  simp only[bne_self_eq_false,Bool.false_eq_true,if_false]
  rw[eo]
  exact wpAny_pure key
 ·rw[if_neg h2,if_neg h2]
  have kp:∀ b o,b≠a->s.heap.get? b=some o->(((s.heap.update a (Obj.mapSeq fun _=>#[])).push (seqObj "tuple" vs.toArray 0)).push (seqObj "list" #[] 0)).get? b=some o:=fun b o nb e=>ydm _ (ydm _ (by rw[ydp _ _ _ _ nb];exact e))
  have hp':∀ i,i<vs.length->zby (((s.heap.update a (Obj.mapSeq fun _=>#[])).push (seqObj "tuple" vs.toArray 0)).push (seqObj "list" #[] 0)) (vs.getD i .none) (f i):=fun i hi=>by
   obtain ⟨b,o,m,t,u,e,eo,c,d⟩:=hp i hi
   refine ⟨b,o,m,t,u,e,kp b o (fun z=>?_) eo,c,d⟩
   subst z
   rw[ho] at eo
   have eo':=Option.some.inj eo
   rw[<-eo'] at c
   exact absurd (show Value.type "list" = Value.type "tuple" from c) (by decide)
  have tups:∀ (ws:List Value) (g:Nat->Int × Int),(∀ i,i<ws.length->zby (((s.heap.update a (Obj.mapSeq fun _=>#[])).push (seqObj "tuple" vs.toArray 0)).push (seqObj "list" #[] 0)) (ws.getD i .none) (g i))->∃ fs,KatTups (((s.heap.update a (Obj.mapSeq fun _=>#[])).push (seqObj "tuple" vs.toArray 0)).push (seqObj "list" #[] 0)) ws fs/\fs.length=ws.length/\∀ v∈fs,∃ m t,v=.int m t:=by
   intro ws
   induction ws with
   | nil=>intro g _;exact ⟨[],KatTups.nil,rfl,fun v hv=>by cases hv⟩
   | cons v ws ih =>
    intro g hg
    obtain ⟨fs,k1,k2,k3⟩:=ih (fun i=>g (i+1)) fun i hi=>hg (i+1) (by simp;ac_rfl)
    obtain ⟨b,o,m,t,u,e,eo,c,d⟩:=hg 0 (by simp)
    have e':v=.ref b:=e
    subst e'
    exact ⟨.int (g 0).1 t::fs,KatTups.cons eo c d rfl k1,by simp[k2],fun v hv=>by
     rcases yal.mp hv with rfl | hv
     ·exact ⟨_,_,rfl⟩
     ·exact k3 v hv⟩
  obtain ⟨fs,k1,k2,k3⟩:=tups vs f hp'
  refine wpAny_bind (kat_kind (T:=.type "int") k1 (by ac_rfl) (fun v hv=>?_) (by decide) ?_)
  ·obtain ⟨m,t,rfl⟩:=k3 v hv
   exact Looks.now
  have ask:(kas_sort vs.length).kasWp (kas_ask prog w A (tuples' (Value.type "int" != Value.type "tuple")) vs) (fun p s''=>(In vs.length p/\p.Perm (ybn (yba vs.length))/\Up (fun i j=>lex (f i) (f j)) p vs.length)/\s''={ s with heap:=((s.heap.update a (Obj.mapSeq fun _=>#[])).push (seqObj "tuple" vs.toArray 0)).push (seqObj "list" #[] 0) }) { s with heap:=((s.heap.update a (Obj.mapSeq fun _=>#[])).push (seqObj "tuple" vs.toArray 0)).push (seqObj "list" #[] 0) }:=by
   refine zu0 (fun i j C hi hj hc=>?_) (fun p g=>⟨g,rfl⟩) _ (zxA (ztl f) (by ac_rfl))
   show wpAny (model prog w) A (keyLt' (tuples' true) (vs.getD i .none) (vs.getD j .none)) C _ _
   exact zxd (hp' i hi) (hp' j hj) hc
  refine wpAny_bind (wpAny_mono (kat_run (Q:=fun st' s'=>∃ p:Array Nat,p.size=vs.length/\arrOf st'=p.map (kas_item (vs.toArray.zip vs.toArray))/\failedOf st'=none/\(In vs.length p/\p.Perm (ybn (yba vs.length))/\Up (fun i j=>lex (f i) (f j)) p vs.length)/\s'={ s with heap:=((s.heap.update a (Obj.mapSeq fun _=>#[])).push (seqObj "tuple" vs.toArray 0)).push (seqObj "list" #[] 0) })
   rfl (by ac_rfl) h64 (fun p' st' s' a1 a2 a3 a4=>⟨p',a1,a2,a3,a4⟩) ask) ?_ fun _ _ e=>e)
  rintro ⟨⟨⟩,st'⟩ s' ⟨p,hps,har,hf,⟨g1,g2,g3⟩,rfl⟩
  dsimp only
  have hout:=kat_snds rfl har
  rw[hout]
  refine wpAny_bind (seqEpoch_at ho6 rfl ?_)
  refine wpAny_bind (listUpdate_at ho6 rfl ?_ (yda _) (Nat.le_succ_of_le (outsz p hps)))
  rw[hf]
  simp only[bne_self_eq_false,Bool.false_eq_true,if_false]
  exact wpAny_pure (h p g1 g2 g3)
theorem zwH {l:Addr} {vs:List Value} {Q:Value->Shared->Prop} {f:Nat->Int × Int} (hl:s.heap.IsList l vs.toArray) (h64:vs.length<64) (hp:∀ i,i<vs.length->zby s.heap (vs.getD i .none) (f i))
  (h:∀ p:Array Nat,In vs.length p->p.Perm (ybn (yba vs.length))->Up (fun i j=>lex (f i) (f j)) p vs.length->Q (.ref (s.heap.objs.size+1)) { s with heap:=sortedAll s.heap vs (ybn (p.toList.map fun i=>vs.getD i Value.none)) }) :
  wpAny (model prog w) A (call (.builtin "sorted") [.ref l]) Q E s:=by
 refine Calls.call_function_entry kind_sorted plain_sorted entry_sorted (args_sorted1 _) ?_
 unfold Builtin.«sorted»
 refine wpAny_bind (m:=checkCount "sorted" 1 1 _) (wpAny_pure ?_)
 refine wpAny_bind (collect_list hl ?_ (by rw[sizeLine_eq];ac_rfl))
 refine wpAny_bind (wpAny_newList ?_ (by rw[sizeLine_eq];ac_rfl))
 have hsz:((s.heap.push (seqObj "list" #[] 0)).update s.heap.objs.size (Obj.mapSeq (·++vs.toArray))).objs.size=s.heap.objs.size+1:=by
  rw[Heap.size_update,size_push']
 have hoL:(((s.heap.push (seqObj "list" #[] 0)).update s.heap.objs.size (Obj.mapSeq (·++vs.toArray))).push (seqObj "list" vs.toArray 0)).get? (s.heap.objs.size+1)=some (seqObj "list" vs.toArray 0):=by
  rw[<-hsz];exact ydo _ rfl
 have keep:∀ b o,s.heap.get? b=some o->(((s.heap.push (seqObj "list" #[] 0)).update s.heap.objs.size (Obj.mapSeq (·++vs.toArray))).push (seqObj "list" vs.toArray 0)).get? b=some o:=fun b o q=>by
  have hlt:b<s.heap.objs.size:=ydn q
  rw[Heap.get?_push_ne _ _ _ (by rw[hsz];exact ycy (ydg hlt)),ydp _ _ _ _ (ycy hlt),Heap.get?_push_ne _ _ _ (ycy hlt)]
  exact q
 show wpAny _ _ _ _ _ { s with heap:=((s.heap.push (seqObj "list" #[] 0)).update s.heap.objs.size (Obj.mapSeq (·++vs.toArray))).push (seqObj "list" vs.toArray 0) }
 rw[hsz]
 refine wpAny_bind (wpAny_holding (wpAny_call_entry slot_list_sort ⟨_,hoL,rfl⟩ entry_list_sort (zmC hoL h64 (fun i hi=>(hp i hi).keep fun a o _ e=>keep a o e) fun p a1 a2 a3=>⟨_,rfl,?_⟩) (args_list_sort _)))
 exact wpAny_pure ⟨_,rfl,h p a1 a2 a3⟩
end
end SortT
namespace L2
open PySem PySem.Spec PyProof.Rows
section
variable {X:Cx} {e k:Expr} {te:TE} {p2 pos:Pos} {lo hi:Option Expr} {tl th:TO}
theorem map_getD (l:List α) (d:α):(yba l.length).map (fun i=>l.getD i d)=l:=by
 apply ybw
 intro i
 rw[yai]
 by_cases h:i<l.length
 ·rw[ycg h,yaa h]
  simp[h]
 ·rw[yaq (by simp;ac_rfl),yaq (by ac_rfl)]
  rfl
theorem zm5:∀ is:List α,(∀ i∈is,RelV (f i) (g i))->Vals (is.map f) (is.map g)
 | [],_=>.nil
 | i::is,h=>.cons (h i (yap ..)) (zm5 is fun j hj=>h j (yam _ hj))
theorem zrU (hex:X.ex=[]:=by rfl):zbG X (.builtin "sorted") (fun xs H Q=>∃ (p:Addr) (vs:List V) (l:List (Int × Int)),xs=[.ref p]/\SqL X.K H p vs/\zH X.K H vs l/\l.length<64 /\
  ∀ (q:Addr) (H':Hp) (ws:List V) (r:List (Int × Int)),H q=none->Same H H'->H' q=some (.lst ws)->zH X.K H' ws r->r.Perm l->(r.Pairwise fun s t=>s.1<=t.1)->Q (.ref q) H'):=by
 intro pins s σ H xs us Q I r h
 obtain ⟨p,vs,l,rfl,hp,hR,hl,q⟩:=h
 obtain ⟨u,rfl,rx⟩:=vals1 r
 cases rx
 obtain ⟨its,rv,pl,hz⟩:=I.list hp
 have vl:=hR.length
 have len:its.length=l.length:=by rw[<-rv.length,vl]
 have pair:∀ i,i<its.length->SortT.zby s.heap (its.getD i .none) (l.getD i (0,0)):=fun i hi=>by
  have ev:vs[i]?=some (vs[i]'(by ac_rfl)):=yaa (by ac_rfl)
  obtain ⟨a,x,e1,e2,e3⟩:=hR.get ev
  obtain ⟨w,hw,rw'⟩:=rv.get ev
  rw[e1] at rw'
  cases rw'
  obtain ⟨ts,tv,tp,_⟩:=I.tuple (SqT.of e3)
  cases tv with
  | cons t1 tv =>
   cases tv with
   | cons t2 tv =>
    cases tv
    obtain ⟨t,rfl⟩:=t1
    obtain ⟨t',rfl⟩:=t2
    obtain ⟨o,eo,oc,n,od⟩:=(show s.heap.IsTuple a _ from tp)
    refine ⟨a,o,n,t,t',?_,eo,oc,?_⟩
    ·rw[yad,hw];rfl
    ·rw[od,show l.getD i (0,0)=x by rw[yad,e2];rfl]
 refine SortT.zwH pl.isList (by ac_rfl) pair fun P a1 a2 a3=>?_
 obtain ⟨n,at_⟩:=sortedAll_at s.heap its (ybn (P.toList.map fun i=>its.getD i Value.none))
 have pin:∀ i∈P.toList,i<its.length:=fun i hi=>by
  obtain ⟨j,hj,rfl⟩:=yax.mp hi
  have hj':j<its.length:=by rw[<-a1.1];simpa using hj
  have:=a1.2 j hj'
  rw[yea,ydz (by rw[a1.1];exact hj')] at this
  simpa using this
 have plen:P.toList.length=its.length:=by rw[ydy,a1.1]
 have vl':Vals (P.toList.map fun i=>vs.getD i .non) (P.toList.map fun i=>its.getD i Value.none):=zm5 _ fun i hi=>by
  have hi':=pin i hi
  have ev:vs[i]?=some (vs[i]'(by ac_rfl)):=yaa (by ac_rfl)
  obtain ⟨w,hw,rw'⟩:=rv.get ev
  rw[yad,ev,yad,hw]
  exact rw'
 have new:s.heap.get? (s.heap.objs.size+1)=none:=yds (ydj _)
 have nl:(P.toList.map fun i=>vs.getD i .non).length<=sizeLine:=by rw[yab,plen,sizeLine_eq];ac_rfl
 have I1:Inv X pins σ (upd H (s.heap.objs.size+1) (.lst (P.toList.map fun i=>vs.getD i .non))) { s with heap:=sortedAll s.heap its (ybn (P.toList.map fun i=>its.getD i Value.none)),toks:=s.toks } :=
  I.znm (fun b o e=>sortedAll_old e) new hex ⟨nl,_,n,vl',by simpa [seqObj] using at_⟩
 have sm:Same H (upd H (s.heap.objs.size+1) (.lst (P.toList.map fun i=>vs.getD i .non))):=zf (I.hok.gone new) _
 refine ⟨.ref (s.heap.objs.size+1),_,I1,rfl,q _ _ _ (P.toList.map fun i=>l.getD i (0,0)) (I.hok.gone new) sm zh (zmh (by rw[yab,yab]) fun j v x h1 h2=>?_) ?_ ?_⟩
 ·rw[yai] at h1 h2
  obtain ⟨i,hi,rfl⟩:=Option.map_eq_some_iff.mp h1
  rw[hi] at h2
  have h2':l.getD i (0,0)=x:=Option.some.inj h2
  have hi':=pin i (yah hi)
  have ev:vs[i]?=some (vs[i]'(by ac_rfl)):=yaa (by ac_rfl)
  obtain ⟨b,y,e1,e2,e3⟩:=hR.get ev
  have ey:l.getD i (0,0)=y:=by rw[yad,e2];rfl
  refine ⟨b,by rw[yad,ev,<-e1];rfl,?_⟩
  rw[<-h2',ey]
  exact sm _ _ e3
 ·have pp:P.toList.Perm (yba l.length):=by
   have:=Array.perm_iff_toList_perm.mp a2
   rw[len] at this
   exact this
  have:=pp.map fun i=>l.getD i (0,0)
  rw[map_getD] at this
  exact this
 ·refine ybb.mpr fun i j hi hj lt=>?_
  rw[yab] at hi hj
  have up:=a3 i j (ydk lt) (by ac_rfl)
  have gi:∀ m (h:m<P.toList.length),P.getD m 0=P.toList[m]:=fun m h=>by
   rw[yea,ydz (by simpa using h)]
   simp
  rw[gi i hi,gi j hj] at up
  have:=of_decide_eq_false up
  rw[ycv,ycv]
  ac_rfl
end
noncomputable def zav (l:List (Int × Int)) (k y:Int):List (Int × Int):=if l.any (fun p=>p.1=k) then l.map (fun p=>if p.1=k then (p.1,y) else p) else l++[(k,y)]
noncomputable def zcD (l:List (Int × Int)):List (Int × Int):=l.foldl (fun acc s=>zav acc s.1 s.2) []
inductive KR:List (Int × Value)->List (Int × Int)->Prop
 | nil:KR [] []
 | cons {k y:Int} {t:Tok} {r:List (Int × Value)} {l:List (Int × Int)}:KR r l->KR ((k,.int y t)::r) ((k,y)::l)
theorem KR.length (h:KR r l):r.length=l.length:=by
 induction h with
 | nil=>rfl
 | cons _ ih=>simp[ih]
theorem KR.any (h:KR r l):r.any (fun kv=>kv.1=k)=l.any (fun p=>p.1=k):=by
 induction h with
 | nil=>rfl
 | cons _ ih=>rw[ycj,ycj,ih]
theorem KR.snoc (h:KR r l):KR (r++[(k,.int y t)]) (l++[(k,y)]):=by
 induction h with
 | nil=>exact .cons .nil
 | cons _ ih=>exact .cons ih
theorem KR.map (h:KR r l):KR (r.map fun kv=>if kv.1=k then (kv.1,.int y t) else kv) (l.map fun p=>if p.1=k then (p.1,y) else p):=by
 induction h with
 | nil=>exact .nil
 | @cons k' y' t' r l _ ih =>
  rw[ybm,ybm]
  by_cases e:k'=k
  ·rw[if_pos e,if_pos e];exact .cons ih
  ·rw[if_neg e,if_neg e];exact .cons ih
theorem KR.stored (h:KR r l):KR (stored r k (.int y t)) (zav l k y):=by
 unfold PySem.stored zav
 rw[h.any]
 split
 ·exact h.map
 ·exact h.snoc
theorem KR.get (h:KR r l):∀ {i:Nat} {k:Int} {v:Value},r[i]?=some (k,v)->∃ y t,l[i]?=some (k,y)/\v=.int y t:=by
 induction h with
 | nil=>intro i k v e;simp at e
 | cons _ ih =>
  intro i k v e
  cases i with
  | zero=>cases e;exact ⟨_,_,rfl,rfl⟩
  | succ i=>exact ih e
theorem zod (l:List (Int × Int)) (k y:Int):(zav l k y).length<=l.length+1:=by
 unfold zav
 split
 ·rw[yab];ac_rfl
 ·simp
theorem zmv (l acc:List (Int × Int)):(l.foldl (fun acc s=>zav acc s.1 s.2) acc).length<=acc.length+l.length:=by
 induction l generalizing acc with
 | nil=>simp
 | cons s l ih =>
  rw[ybx]
  have:=ih (zav acc s.1 s.2)
  have:=zod acc s.1 s.2
  rw[ybh]
  ac_rfl
theorem zs8 (l:List (Int × Int)):(zcD l).length<=l.length:=by
 have:=zmv l []
 simpa [zcD] using this
theorem zqD:typeLookup (.type "list") "keys" = pure none:=by rw[typeLookup_type,builtinLookup_eq_fast];kernel_rfl
theorem zlo
  (hx:s.heap.get? a=some { cls:=.type "list", dict:=none,data:=.seq xs k,slots:=#[] }) (hA:A.handled=none)
  (h:∀ h' tk,(∀ b o,s.heap.get? b=some o->h'.get? b=some o)->Q none { s with heap:=h',toks:=tk }) :
  wpAny (model prog w) A (getAttr? (.ref a) "keys") Q E s:=by
 obtain ⟨hp,g,d,tk,os⟩:=s
 have hT:∀ tk',(⟨hp,g,d,tk',os⟩:Shared).TypeIs (.ref a) "list" := fun _=>⟨_,hx,rfl⟩
 have f1:=sub_AttributeError
 have f3:=F.slot_list_getattribute.lookup
 have f4:=F.slot_list_getattribute.bind (.ref a)
 have f5:=am_list_getattr_none
 unfold getAttr? getAttrBy? getAttrBy
 repeat (any_goals (first | assumption | exact hT _ | ((with_reducible show wpAny _ _ (call (Value.builtin "list.__getattribute__") _ _) _ _ _);refine call_meets F.slot_list_getattribute (hT _) am_entry_list_getattribute (F.args_list_getattribute_2 _ _) (meets_getattribute_miss_list a xs k #[] "keys" _ zqD (by decide +kernel) (by size_fits)) ⟨hx,hA,fun h' tk' e hx'=>?_⟩) | wp_step))
 obtain ⟨t',u',he⟩:=hx'.there
 show wpAny _ _ (getattributeRaised _ _ _ _ _ _ _) _ _ _
 unfold getattributeRaised
 repeat (any_goals (first | assumption | wp_step))
 exact h _ _ hx'.keeps
theorem zc8:entryFor table "dict.update.loop" = some Builtin.«dict.update.loop»:=entryFor_of_tree (by kernel_rfl)
theorem za0:plainId "dict.update.loop" = true:=by decide +kernel
section
variable {prog:Program} {w:World} {A:Around} {s:Shared} {R:Result->Shared->Prop}
theorem zaT {h h':Heap} {d:Addr} {kvs:List (Int × Value)} (x:h.DictOf (intKind prog w) d kvs) (k:∀ o,h.get? d=some o->h'.get? d=some o):h'.DictOf (intKind prog w) d kvs:=by
 obtain ⟨o,es,ep,e,r⟩:=x
 exact ⟨o,es,ep,k o e,r⟩
theorem zwk {d it p:Addr} {its:List Value} {l:List (Int × Int)} {h₁:Heap} (hh:A.handled=none) (ndi:d≠it) (ndp:d≠p) (nip:it≠p) (len:its.length=l.length) (h64:its.length<64)
  (hR:∀ h' tk kvs,(∀ b o,b≠d->b≠it->h₁.get? b=some o->h'.get? b=some o)->h'.DictOf (intKind prog w) d kvs->KR kvs (zcD l)->R (.ok (.ret .none)) { s with heap:=h',toks:=tk }) :
  ∀ (k i:Nat) (h:Heap) (tk:Nat) (kvs:List (Int × Value)),its.length-i=k->i<=its.length->h.IsListIter it p i->h.IsList p its.toArray->(∀ j,j<its.length->SortT.zby h (its.getD j .none) (l.getD j (0,0))) ->
   h.DictOf (intKind prog w) d kvs->KR kvs ((l.take i).foldl (fun acc s=>zav acc s.1 s.2) [])->(∀ b o,b≠d->b≠it->h₁.get? b=some o->h.get? b=some o) ->
   codeAny (model prog w) A (.builtin "dict.update.loop" ⟨[.ref d,.ref it,rawInt i,.none],[]⟩) R { s with heap:=h,toks:=tk }:=by
 intro k
 induction k with
 | zero =>
  intro i h tk kvs hk hi hit hl hp hd hkr hkeep
  have hin:i=its.length:=by ac_rfl
  refine codeAny_builtin zc8 ?_
  rw[Around.under_plainId za0 _]
  show wpAny _ A.in1 (pyNext (.ref it) >>= _) _ _ _
  refine wpAny_bind (wpAny_pyNext_list_end (s:={ s with heap:=h,toks:=tk }) (A:=A.in1) hh hit hl (by simp;ac_rfl) fun h' he=>?_)
  show wpAny _ _ (Builtin.Dict.addKeywords d [] >>= _) _ _ _
  refine wpAny_bind (wpAny_pure (wpAny_pure ?_))
  refine hR h' tk kvs (fun b o b1 b2 e=>he b o b2 (hkeep b o b1 b2 e)) (zaT hd fun o e=>he d o ndi e) ?_
  rw[hin,len,yci] at hkr
  exact hkr
 | succ k ih =>
  intro i h tk kvs hk hi hit hl hp hd hkr hkeep
  have hlt:i<its.length:=by ac_rfl
  obtain ⟨a,oa,n,t,u,ea,eo,oc,odt⟩:=hp i hlt
  have hx:its[i]?=some (.ref a):=by
   rw[yad,yaa hlt] at ea
   rw[yaa hlt]
   exact congrArg some ea
  refine codeAny_builtin zc8 ?_
  rw[Around.under_plainId za0 _]
  show wpAny _ A.in1 (pyNext (.ref it) >>= _) _ _ _
  refine wpAny_bind (wpAny_pyNext_list_item (s:={ s with heap:=h,toks:=tk }) (A:=A.in1) hit hl (x:=.ref a) (by simpa using hx) fun h' hit' sb=>?_)
  have ait:a≠it:=fun z=>by
   obtain ⟨o,ho,hc,_⟩:=hit
   rw[z,ho] at eo
   cases eo
   rw[hc] at oc
   exact absurd oc (by decide)
  have ad:a≠d:=fun z=>by
   obtain ⟨o,es,ep,ho,hc,_⟩:=id hd
   rw[z,ho] at eo
   cases eo
   have:=hc.1
   rw[this] at oc
   exact absurd oc (by decide)
  have eo':h'.get? a=some oa:=(sb.2 a ait).trans eo
  have hT:({ s with heap:=h',toks:=tk }:Shared).TypeIs (.ref a) "tuple" := ⟨oa,eo',oc⟩
  have hd':h'.DictOf (intKind prog w) d kvs:=zaT hd fun o e=>(sb.2 d ndi).trans e
  show wpAny _ _ (holding [Value.ref a] _ >>= _) _ _ _
  refine wpAny_bind (wpAny_holding ?_)
  refine wpAny_bind (wpAny_tryCatch ?_)
  unfold Builtin.Dict.pairItems
  refine wpAny_bind (wpAny_typeOf hT ?_)
  rw[if_pos (by decide)]
  refine wpAny_bind (wpAny_seqItems eo' odt ?_)
  refine wpAny_pure ?_
  show wpAny _ _ (holding [Value.int (l.getD i (0,0)).1 t,Value.int (l.getD i (0,0)).2 u] (dictSet d (Value.int (l.getD i (0,0)).1 t) (Value.int (l.getD i (0,0)).2 u))) _ _ _
  refine wpAny_holding ?_
  have kl:=hkr.length
  have fl:=zmv (l.take i) []
  rw[yaz] at fl
  refine wpAny_dictSet_pairs (knd:=intKind prog w) (k:=(l.getD i (0,0)).1) (by first | exact Value.isInt_int _ _ | (simp[intKind,Value.isInt];done) | exact beq_self_eq_true _) hd' (fun h2 hd2 sb2=>?_) (by rw[sizeLine_eq];simp at fl;ac_rfl)
  refine wpAny_pure ⟨plainId_quiet za0 _,?_⟩
  have k2:∀ b o,b≠d->b≠it->h.get? b=some o->h2.get? b=some o:=fun b o b1 b2 e=>(sb2.2 b b1).trans ((sb.2 b b2).trans e)
  refine ih (i+1) h2 _ _ (by ac_rfl) (by ac_rfl) (hit'.at fun o e=>(sb2.2 it ndi.symm).trans e) ?_ (fun j hj=>(hp j hj).keep fun b o eb e=>k2 b o ?_ ?_ e) hd2 ?_ fun b o b1 b2 e=>k2 b o b1 b2 (hkeep b o b1 b2 e)
  ·obtain ⟨o,e,r⟩:=hl
   exact ⟨o,k2 p o ndp.symm nip.symm e,r⟩
  ·intro z
   obtain ⟨b',o',n',t',u',e1,e2,e3,_⟩:=hp j hj
   rw[eb] at e1
   cases e1
   obtain ⟨od,es,ep,ho,hc,_⟩:=id hd
   rw[z,ho] at e2
   cases e2
   rw[hc.1] at e3
   exact absurd e3 (by decide)
  ·intro z
   obtain ⟨b',o',n',t',u',e1,e2,e3,_⟩:=hp j hj
   rw[eb] at e1
   cases e1
   obtain ⟨oi,ho,hc,_⟩:=id hit
   rw[z,ho] at e2
   cases e2
   rw[hc] at e3
   exact absurd e3 (by decide)
  ·have tk:l.take (i+1)=l.take i++[l.getD i (0,0)]:=by
    rw[ybc,yaa (by ac_rfl),yad,yaa (by ac_rfl)]
    rfl
   rw[tk,ycu]
   exact hkr.stored
theorem zpP {E:Value->Shared->Prop} {p:Addr} {its:List Value} {n:Nat} {l:List (Int × Int)} {Q:Value->Shared->Prop} (hh:A.handled=none) (hl:s.heap.get? p=some { cls:=.type "list", dict:=none,data:=.seq its.toArray n,slots:=#[] }) (len:its.length=l.length) (h64:its.length<64)
  (hp:∀ j,j<its.length->SortT.zby s.heap (its.getD j .none) (l.getD j (0,0)))
  (h:∀ h' tk kvs,(∀ b o,s.heap.get? b=some o->h'.get? b=some o)->h'.DictOf (intKind prog w) s.heap.objs.size kvs->KR kvs (zcD l)->Q (.ref s.heap.objs.size) { s with heap:=h',toks:=tk }) :
  wpAny (model prog w) A (call (.type "dict") [.ref p]) Q E s:=by
 have hlt:p<s.heap.objs.size:=ydn hl
 refine callType_codes (Q₁:=fun obj s₁=>obj=.ref s.heap.objs.size/\s₁={ s with heap:=s.heap.push { cls:=.type "dict", data:=.dict #[] } }) F.kt_called_dict (F.kt_typeCall_dict_1 _) F.entry_dict_init (kt_code_dict_new _ ⟨rfl,rfl⟩) ?_
 rintro obj s₁ ⟨rfl,rfl⟩
 have hnew:(s.heap.push { cls:=.type "dict", data:=.dict #[] }).DictOf (intKind prog w) s.heap.objs.size []:=Heap.DictOf.new s.heap
 have hl1:(s.heap.push { cls:=.type "dict", data:=.dict #[] }).get? p=some { cls:=.type "list", dict:=none,data:=.seq its.toArray n,slots:=#[] }:=ydm _ hl
 refine ⟨hnew.typeIs,F.args_dict_init_2 _ _,?_⟩
 unfold Builtin.«dict.__init__»
 refine wpAny_bind ?_
 unfold Builtin.Dict.selfAndRest
 refine wpAny_bind (wpAny_notOrdered_dict hnew.typeIs ?_)
 show wpAny _ _ (pure (s.heap.objs.size,[Value.ref p])) _ _ _
 refine wpAny_pure ?_
 show wpAny _ _ (Builtin.Dict.updateFrom "dict.__init__" s.heap.objs.size (.ref p) [] .none) _ _ _
 unfold Builtin.Dict.updateFrom
 refine wpAny_bind (wpAny_typeOf (T:="list") ⟨_,hl1,rfl⟩ ?_)
 rw[if_pos (by decide)]
 refine wpAny_bind (zlo (s:={ s with heap:=s.heap.push { cls:=.type "dict", data:=.dict #[] } }) hl1 hh fun h2 tk2 k2=>?_)
 rw[if_pos (show (none:Option Value).isNone=true from rfl)]
 refine wpAny_bind (wpAny_rule ?_)
 have hl2:=k2 p _ hl1
 have hd2:=zaT (h':=h2) hnew fun o e=>k2 _ o e
 have lt2:s.heap.objs.size<h2.objs.size:=by
  obtain ⟨o,es,ep,e,_⟩:=hd2
  exact ydn e
 have hlL:h2.IsList p its.toArray:=⟨_,hl2,rfl,n,rfl⟩
 refine wpAny_bind (wpAny_pyIter_list hlL ?_)
 refine wpAny_pure ⟨plainId_quiet za0 _,?_⟩
 refine zwk (s:=s) (A:=A.in1) (h₁:=h2) (d:=s.heap.objs.size) (it:=h2.objs.size) (p:=p) (its:=its) (l:=l) hh (ycy lt2) (ydi hlt) (ydi (ydh hlt lt2)) len h64 (fun h' tk kvs kp hd' hkr=>?_)
  its.length 0 _ tk2 [] (Nat.sub_zero _) (yda _) ⟨_,ydo _ rfl,rfl,rfl⟩ (hlL.push _) (fun j hj=>(hp j hj).keep fun a o _ e=>ydm _ (k2 a o (ydm _ e))) (zaT hd2 fun o e=>ydm _ e) .nil fun b o b1 b2 e=>ydm _ e
 refine ⟨rfl,h h' tk kvs (fun b o e=>kp b o (ycy (ydn e)) (ycy (ydh (ydn e) lt2)) (k2 b o (ydm _ e))) hd' hkr⟩
end
noncomputable def zb1 (P:Program) (w:World) (d:Addr) (l:List (Int × Int)):HO:=.ext fun h=>(d == sysModules)=false/\∃ kvs,h.DictOf (intKind P w) d kvs/\KR kvs l
noncomputable def ztT (v d:Addr):HO:=.ext fun h=>h.IsItemsView v d
section
variable {X:Cx} {pins:List (Addr × Obj)} {σ:St} {H:Hp} {s:Shared}
theorem zu5 (I:Inv X pins σ H s) (hp:SqL X.K H p vs) (hR:zH X.K H vs l):∃ its,Vals vs its/\s.heap.IsList p its.toArray/\its.length=l.length/\∀ i,i<its.length->SortT.zby s.heap (its.getD i .none) (l.getD i (0,0)):=by
 obtain ⟨its,rv,pl,hz⟩:=I.list hp
 have vl:=hR.length
 refine ⟨its,rv,pl.isList,by rw[<-rv.length,vl],fun i hi=>?_⟩
 have len:its.length=l.length:=by rw[<-rv.length,vl]
 have ev:vs[i]?=some (vs[i]'(by ac_rfl)):=yaa (by ac_rfl)
 obtain ⟨a,x,e1,e2,e3⟩:=hR.get ev
 obtain ⟨w,hw,rw'⟩:=rv.get ev
 rw[e1] at rw'
 cases rw'
 obtain ⟨ts,tv,tp,_⟩:=I.tuple (SqT.of e3)
 cases tv with
 | cons t1 tv =>
  cases tv with
  | cons t2 tv =>
   cases tv
   obtain ⟨t,rfl⟩:=t1
   obtain ⟨t',rfl⟩:=t2
   obtain ⟨o,eo,oc,n,od⟩:=(show s.heap.IsTuple a _ from tp)
   refine ⟨a,o,n,t,t',?_,eo,oc,?_⟩
   ·rw[yad,hw];rfl
   ·rw[od,show l.getD i (0,0)=x by rw[yad,e2];rfl]
theorem zc5 (hc:X.calm=true):zbG X (.type "dict") (fun xs H Q=>∃ (p:Addr) (vs:List V) (l:List (Int × Int)),xs=[.ref p]/\H p=some (.lst vs)/\zH X.K H vs l/\l.length<64 /\
  ∀ (d:Addr) (H':Hp),H d=none->Same H H'->H' d=some (zb1 X.prog X.w d (zcD l))->Q (.ref d) H'):=by
 intro pins s σ H xs us Q I r h
 obtain ⟨p,vs,l,rfl,hp,hR,hl,q⟩:=h
 obtain ⟨u,rfl,rx⟩:=vals1 r
 cases rx
 obtain ⟨its,rv,pl,len,pr⟩:=zu5 I (SqL.of hp) hR
 obtain ⟨z,its',n',rv',e'⟩:=(show zar X.prog X.w H s.heap p (.lst vs) from I.hok p _ hp)
 obtain ⟨o,eo,oc,n,od⟩:=pl
 have ei:its=its':=by
  rw[e'] at eo
  cases eo
  have:=od
  simpa using (Data.seq.inj this).1.symm
 subst ei
 have big:sysModules<s.heap.objs.size:=ydh (by decide) (show mainGlobals<s.heap.objs.size from (I.mod.glob.keeps I.bk).lt)
 have lo:(s.heap.objs.size == sysModules)=false:=beq_eq_false_iff_ne.mpr (Ne.symm (ycy big))
 refine zpP (I.ok.hd hc) e' len (by ac_rfl) pr fun h' tk kvs kp hd hkr=>?_
 refine ⟨.ref s.heap.objs.size,_,I.laid (o:=zb1 X.prog X.w s.heap.objs.size (zcD l)) kp (ycx _) ⟨⟨lo,kvs,hd,hkr⟩,(let ⟨o,_,_,e,_⟩:=hd;⟨o,e⟩),fun h1 h2 ⟨lo',kv,x,y⟩ e=>⟨lo',kv,zaT x e,y⟩⟩,rfl,q _ _ (I.hok.fresh (ycx _)) (zf (I.hok.fresh (ycx _)) _) zh⟩
def zyt (P:Program) (w:World) (to:TE):TE:=fun σ H Q=>to σ H fun x H1=>∃ (d:Addr) (l:List (Int × Int)),x=.ref d/\H1 d=some (zb1 P w d l)/\∀ (v:Addr) (H':Hp),H1 v=none->Same H1 H'->H' v=some (ztT v d)->Q (.ref v) H'
theorem zqX (ho:PE X o to)
  (hbase:attributeBase o "items" X.env (eval o X.env)=eval o X.env:=by rfl) (hline:(apos.endLine == cpos.line)=true:=by rfl):PE X (.Call (.Attribute o "items" apos) [] [] cpos) (zyt X.prog X.w to):=by
 intro pins s σ H Q I h
 refine wpAny_Call_method0_late hbase hline (thn (ho pins s σ H _ I h) fun v s1 ⟨x,H1,I1,r1,d,l,ex,hd,q1⟩=>?_)
 subst ex
 obtain rfl:v=Value.ref d:=r1
 obtain ⟨lo,kvs,hD,hkr⟩:=(I1.hok d _ hd).1
 refine ⟨"dict", "dict.items", F.plainAttrs_dict,F.slot_dict_items,F.type_dict_items,hD.typeIs,hD.mapOf.noDict,Calls.callWith_builtin rfl (PySem.evalArgs_none ?_)⟩
 refine call_meetsIn PySem.F.slot_dict_items hD.typeIs PySem.F.entry_dict_items (PySem.F.args_dict_items_1 _) (meets_dict_items (intKind X.prog X.w) d lo) ⟨⟨kvs,hD⟩,?_⟩
 exact ⟨.ref s1.heap.objs.size,_,I1.laid (t':=s1.toks) (o:=ztT s1.heap.objs.size d) (fun b ob q=>ydm _ q) (ycx _) ⟨⟨_,ydo _ rfl,rfl,rfl⟩,⟨_,ydo _ rfl⟩,fun h1 h2 ⟨o,e,r⟩ k=>⟨o,k o e,r⟩⟩,rfl,
  q1 _ _ (I1.hok.fresh (ycx _)) (zf (I1.hok.fresh (ycx _)) _) zh⟩
theorem znw (hex:X.ex=[]) (I:Inv X pins σ H s) (k:∀ b o,s.heap.get? b=some o->h'.get? b=some o):∀ (bs:List (Addr × (Int × Int))),(bs.map (·.1)).Nodup->(∀ b∈bs,s.heap.get? b.1=none/\SortT.zby h' (.ref b.1) b.2) ->
  ∃ H',Inv X pins σ H' { s with heap:=h',toks:=tk }/\Same H H'/\(∀ b∈bs,H' b.1=some (.tup [.int b.2.1,.int b.2.2]))/\∀ a,a ∉ bs.map (·.1)->H' a=H a
 | [],_,_=>⟨H,I.kept k,Same.refl _,(fun _ hb=>absurd hb (ybz)),fun _ _=>rfl⟩
 | b::bs,nd,hb=>by
  obtain ⟨H1,I1,s1,t1,o1⟩:=znw hex I k bs (ybj.mp nd).2 fun c hc=>hb c (yam _ hc)
  obtain ⟨hn,a,o,n,t,u,ea,eo,oc,od⟩:=hb b (yap ..)
  cases ea
  obtain ⟨f1,f2,f3,f4⟩:=I.zrV hn hex
  have nb:b.1 ∉ bs.map (·.1):=(ybj.mp nd).1
  have gone:H1 b.1=none:=by rw[o1 _ nb];exact I.hok.gone hn
  refine ⟨_,I1.track (o:=.tup [.int b.2.1,.int b.2.2]) gone f1 f2 f3 f4 ⟨by show 2<=sizeLine;rw[sizeLine_eq];ac_rfl,[.int b.2.1 t,.int b.2.2 u],.cons ⟨t,rfl⟩ (.cons ⟨u,rfl⟩ .nil),⟨o,eo,oc,n,od⟩⟩,s1.trans (zf gone _),fun c hc=>?_,fun c hc=>?_⟩
  ·rcases yal.mp hc with rfl | hc
   ·exact zh
   ·rw[zr (fun z=>nb (by rw[<-z];exact yag.mpr ⟨c,hc,rfl⟩))]
    exact t1 c hc
  ·rw[ybm,yal,not_or] at hc
   rw[zr hc.1]
   exact o1 c hc.2
theorem zlO (hc:X.calm=true) (hex:X.ex=[]:=by rfl):zbG X (.builtin "sorted") (fun xs H Q=>∃ (v d:Addr) (l:List (Int × Int)),xs=[.ref v]/\H v=some (ztT v d)/\H d=some (zb1 X.prog X.w d l)/\l.length<64 /\
  ∀ (q:Addr) (H':Hp) (ws:List V) (r:List (Int × Int)),H q=none->Same H H'->H' q=some (.lst ws)->zH X.K H' ws r->r.Perm l->(r.Pairwise fun s t=>s.1<=t.1)->Q (.ref q) H'):=by
 intro pins s σ H xs us Q I r h
 obtain ⟨v,d,l,rfl,hV,hD,hl,q⟩:=h
 obtain ⟨u,rfl,rx⟩:=vals1 r
 cases rx
 have hv:s.heap.IsItemsView v d:=(I.hok v _ hV).1
 obtain ⟨lo,kvs,hd,hkr⟩:=(I.hok d _ hD).1
 obtain ⟨od,es,ep,rd⟩:=hd
 have hat:s.heap.DictAt (intKind X.prog X.w) d kvs ep:=⟨od,es,rd⟩
 have kl:=hkr.length
 refine Calls.call_function_entry kind_sorted plain_sorted entry_sorted (args_sorted1 _) ?_
 unfold Builtin.«sorted»
 refine wpAny_bind (m:=checkCount "sorted" 1 1 _) (wpAny_pure ?_)
 refine wpAny_bind (PySem.W.kdx_collect (A:=X.A.in1) (knd:=intKind X.prog X.w) (kvs:=kvs) (ep:=ep) (I.ok.hd hc) hv hat (by rw[sizeLine_eq];ac_rfl) fun h1 tk as k1 al hG=>?_)
 refine wpAny_bind (wpAny_newList ?_ (by rw[yab,al,sizeLine_eq];ac_rfl))
 have an:as.length=l.length:=by ac_rfl
 have asl:∀ a∈as,a<h1.objs.size:=fun a ha=>hG.there ha
 have fresh:∀ a∈as,s.heap.get? a=none:=fun a ha=>yds (ydk (hG.above a ha))
 have pr:∀ i,i<as.length->SortT.zby h1 ((as.map Value.ref).getD i .none) (l.getD i (0,0)):=fun i hi=>by
  obtain ⟨key,k,x,e1,e2,e3⟩:=hG.pairs i as[i] (yaa hi)
  obtain ⟨y,t,e4,rfl⟩:=hkr.get e1
  obtain ⟨t',rfl⟩:=Value.isInt_shape e2
  refine ⟨as[i],_,0,t',t,?_,e3,rfl,?_⟩
  ·rw[yad,yai,yaa hi];rfl
  ·rw[yad,e4];rfl
 have hoL:(h1.push (seqObj "list" (as.map Value.ref).toArray 0)).get? h1.objs.size=some (seqObj "list" (as.map Value.ref).toArray 0):=ydo _ rfl
 show wpAny _ _ _ _ _ { s with heap:=h1.push (seqObj "list" (as.map Value.ref).toArray 0),toks:=tk }
 refine wpAny_bind (wpAny_holding (wpAny_call_entry slot_list_sort ⟨_,hoL,rfl⟩ entry_list_sort (SortT.zmC (f:=fun i=>l.getD i (0,0)) hoL (by rw[yab];ac_rfl) (fun i hi=>(pr i (by rw[yab] at hi;exact hi)).keep fun a o _ e=>ydm _ e) fun P a1 a2 a3=>⟨_,rfl,?_⟩) (args_list_sort _)))
 refine wpAny_pure ⟨_,rfl,?_⟩
 rw[yab] at a1 a2 a3
 obtain ⟨out,hout⟩:∃ out,out=(P.toList.map fun i=>(as.map Value.ref).getD i Value.none):=⟨_,rfl⟩
 show EP X pins σ Q (Value.ref h1.objs.size) { s with heap:=sortedHeap (h1.push (seqObj "list" (as.map Value.ref).toArray 0)) h1.objs.size (as.map Value.ref) (ybn (P.toList.map fun i=>(as.map Value.ref).getD i Value.none)),toks:=tk }
 rw[<-hout]
 have keep3:∀ b o,h1.get? b=some o->(sortedHeap (h1.push (seqObj "list" (as.map Value.ref).toArray 0)) h1.objs.size (as.map Value.ref) out.toArray).get? b=some o:=fun b o e =>
  (sortedHeap_old (ycy (ydn e)) (by rw[ydq];exact ydg (ydn e))).trans (ydm _ e)
 obtain ⟨n3,at3⟩:=sortedHeap_at (out:=out.toArray) hoL
 generalize sortedHeap (h1.push (seqObj "list" (as.map Value.ref).toArray 0)) h1.objs.size (as.map Value.ref) out.toArray=h3 at keep3 at3 ⊢
 have zm:(as.zip l).map (·.1)=as:=List.map_fst_zip (by ac_rfl)
 have nd:((as.zip l).map (·.1)).Nodup:=by
  rw[zm]
  exact hG.rise.imp fun {a b} z=>ycy z
 have zin:∀ i,i<as.length->(as.getD i 0,l.getD i (0,0))∈as.zip l:=fun i hi=>by
  refine yah (i:=i) ?_
  rw[ycl]
  have hi2:i<l.length:=by ac_rfl
  have g1:as.getD i 0=as[i]:=by rw[yad,yaa hi];rfl
  have g2:l.getD i (0,0)=l[i]:=by rw[yad,yaa hi2];rfl
  rw[g1,g2]
  exact ⟨yaa hi,yaa hi2⟩
 obtain ⟨H1,I1,s1,t1,o1⟩:=znw (h':=h3) (tk:=tk) hex I (fun b o e=>keep3 b o (k1 b o e)) (as.zip l) nd fun b hb=>by
  obtain ⟨i,hi⟩:=ybi.mp hb
  rw[ycl] at hi
  have hlt:i<as.length:=(yac.mp hi.1).1
  refine ⟨fresh _ (yah hi.1),?_⟩
  have:=(pr i hlt).keep (h':=h3) fun a o _ e=>keep3 a o e
  rw[yad,yai,hi.1,yad,hi.2] at this
  exact this
 have hnL:s.heap.get? h1.objs.size=none:=by
  cases e:s.heap.get? h1.objs.size with
  | none=>rfl
  | some o=>exact absurd (ydn (k1 _ o e)) (ydd _)
 obtain ⟨f1,f2,f3,f4⟩:=I.zrV hnL hex
 have nLa:h1.objs.size ∉ (as.zip l).map (·.1):=by
  rw[zm]
  exact fun z=>ydd _ (asl _ z)
 have goneL:H1 h1.objs.size=none:=by rw[o1 _ nLa];exact I.hok.gone hnL
 have pin:∀ i∈P.toList,i<as.length:=fun i hi=>by
  obtain ⟨j,hj,rfl⟩:=yax.mp hi
  have hj':j<as.length:=by rw[<-a1.1];simpa using hj
  have:=a1.2 j hj'
  rw[yea,ydz (by rw[a1.1];exact hj')] at this
  simpa using this
 have plen:P.toList.length=as.length:=by rw[ydy,a1.1]
 have vl':Vals (P.toList.map fun i=>V.ref (as.getD i 0)) out:=by
  rw[hout]
  refine zm5 _ fun i hi=>?_
  have hi':=pin i hi
  rw[yad,yad,yai,yaa hi']
  rfl
 have I2:=I1.track (o:=.lst (P.toList.map fun i=>V.ref (as.getD i 0))) goneL f1 f2 f3 f4 ⟨by rw[yab,plen,sizeLine_eq];ac_rfl,out,n3,vl',by simpa [seqObj] using at3⟩
 have sm:Same H (upd H1 h1.objs.size (.lst (P.toList.map fun i=>V.ref (as.getD i 0)))):=s1.trans (zf goneL _)
 refine ⟨.ref h1.objs.size,_,I2,rfl,q _ _ _ (P.toList.map fun i=>l.getD i (0,0)) (I.hok.gone hnL) sm zh (zmh (by rw[yab,yab]) fun j v x e1 e2=>?_) ?_ ?_⟩
 ·rw[yai] at e1 e2
  obtain ⟨i,hi,rfl⟩:=Option.map_eq_some_iff.mp e1
  rw[hi] at e2
  have e2':l.getD i (0,0)=x:=Option.some.inj e2
  have hi':=pin i (yah hi)
  refine ⟨_,rfl,?_⟩
  rw[<-e2',zr (fun z=>nLa (by rw[zm,<-z,yad,yaa hi'];exact ycq hi'))]
  exact t1 _ (zin i hi')
 ·have pp:P.toList.Perm (yba l.length):=by
   have:=Array.perm_iff_toList_perm.mp a2
   rw[an] at this
   exact this
  have:=pp.map fun i=>l.getD i (0,0)
  rw[map_getD] at this
  exact this
 ·refine ybb.mpr fun i j hi hj lt=>?_
  rw[yab] at hi hj
  have up:=a3 i j (ydk lt) (by ac_rfl)
  have gi:∀ m (h:m<P.toList.length),P.getD m 0=P.toList[m]:=fun m h=>by
   rw[yea,ydz (by simpa using h)]
   simp
  rw[gi i hi,gi j hj] at up
  have:=of_decide_eq_false up
  rw[ycv,ycv]
  ac_rfl
end
end L2
namespace Dbt
noncomputable def mx (a b:Int):Int:=if b > a then b else a
noncomputable def mn (a b:Int):Int:=if b<a then b else a
theorem zkc {a b:Int}:a<=mx a b/\b<=mx a b/\(mx a b=a\/mx a b=b):=by unfold mx;split <;> ac_rfl
theorem ztQ {a b:Int}:mn a b<=a/\mn a b<=b/\(mn a b=a\/mn a b=b):=by unfold mn;split <;> ac_rfl
inductive Wd where
 | lend | fee | turn | take | grow
noncomputable def step (u:Int) (w:Wd) (x m n:Int):Int × Int :=
 match w with
 | .lend=>(mn (m+x) (mx 0 ((n+u*x) / u)),n+u*x)
 | .fee=>(mn m (mx 0 ((n+u*x) / u)),n+u*x)
 | .take=>(mn m (mx 0 ((n+u * -x) / u)),n+u * -x)
 | .turn=>(mx 0 (n / u),n)
 | .grow=>(m,n+x)
noncomputable def Okd:Wd->Int->Prop
 | .lend,x=>0<=x
 | .grow,x=>0<=x
 | _,_=>True
def Good (u m n:Int):Prop:=0<=m/\m<=mx 0 (n / u)
theorem good0 (u:Int):Good u 0 0:=⟨ydv _,zkc.1⟩
theorem zdV {u:Int} {w:Wd} {x m n:Int} (hu:0<u) (ok:Okd w x) (g:Good u m n):Good u (step u w x m n).1 (step u w x m n).2:=by
 obtain ⟨g0,g1⟩:=g
 cases w with
 | lend =>
  have h0:0<=x:=ok
  have:=zkc (a:=0) (b:=(n+u*x) / u)
  have:=ztQ (a:=m+x) (b:=mx 0 ((n+u*x) / u))
  show 0<=mn (m+x) (mx 0 ((n+u*x) / u))/\mn (m+x) (mx 0 ((n+u*x) / u))<=mx 0 ((n+u*x) / u)
  ac_rfl
 | fee =>
  have:=zkc (a:=0) (b:=(n+u*x) / u)
  have:=ztQ (a:=m) (b:=mx 0 ((n+u*x) / u))
  show 0<=mn m (mx 0 ((n+u*x) / u))/\mn m (mx 0 ((n+u*x) / u))<=mx 0 ((n+u*x) / u)
  ac_rfl
 | take =>
  have:=zkc (a:=0) (b:=(n+u * -x) / u)
  have:=ztQ (a:=m) (b:=mx 0 ((n+u * -x) / u))
  show 0<=mn m (mx 0 ((n+u * -x) / u))/\mn m (mx 0 ((n+u * -x) / u))<=mx 0 ((n+u * -x) / u)
  ac_rfl
 | turn =>
  have:=zkc (a:=0) (b:=n / u)
  show 0<=mx 0 (n / u)/\mx 0 (n / u)<=mx 0 (n / u)
  ac_rfl
 | grow =>
  have h0:0<=x:=ok
  have h1:n / u<=(n+x) / u:=Int.ediv_le_ediv hu (by ac_rfl)
  have:=zkc (a:=0) (b:=n / u)
  have:=zkc (a:=0) (b:=(n+x) / u)
  show 0<=m/\m<=mx 0 ((n+x) / u)
  ac_rfl
variable {u s0 s1 m1 n1 m2 n2 x y:Int}
noncomputable def t1 (s1:Int):Option (Wd × Int)->Wd × Int->Int
 | some (.fee,x),(.fee,y)=>s1+y-x
 | _,_=>s1
end Dbt
namespace L2
open PySem PySem.Spec PyProof.Rows
def zw3 (i j:Int):Prop:=0<j/\j<1152921504606846976
section
variable {X:Cx}
theorem zcU:OpR X (binaryOp .FloorDiv) (rI zw3 fun i j=>.int (i / j)):=opI fun i j _ _ _ _ _ hc q=>by
 have h1:(0:Int)<j:=hc.1
 have h2:j<1152921504606846976:=hc.2
 refine floordiv_int (by ac_rfl) (by rw[Int.fdiv_eq_ediv_of_nonneg i (by ac_rfl)];exact q) (.inl (PyProof.noPylong_of_log2 ?_))
 have h0:j.natAbs≠0:=by ac_rfl
 have:j.natAbs.log2<60:=(Nat.log2_lt h0).mpr (show j.natAbs<1152921504606846976 by ac_rfl)
 ac_rfl
end
structure MkI (K:W.Frag) (C:Addr):Prop where
 makes:PySem.W.makesIn K C=true
 kp:PySem.W.keepIn K (.ref C)=true
def zy1 (C:Addr) (f:Str) (ta:TE):TE:=fun σ H Q=>ta σ H fun x H1=>∃ a dx fs v,x=.ref a/\H1 a=some (.ins C dx fs)/\fs.lookup f=some v/\Q v H1
def zzh (C:Addr) (f:Str) (ta tv:TE):TS:=fun D σ H=>tv σ H fun y H1=>ta σ H1 fun x H2=>∃ a dx fs,x=.ref a/\H2 a=some (.ins C dx fs)/\fs.length<1000/\D.nx σ (upd H2 a (.ins C dx (zaY f y fs)))
section
variable {X:Cx} {C:Addr} {x m f:Str} {p pos pos' apos:Pos} {e o value:Expr} {es:List Expr} {ta tv:TE} {t:TA} {j k:Nat} {ps:List Str} {sp:Sp}
theorem zZ (hc:Cls X.K C) (hn:zac X.K C f) (he:PE X e ta) (hb:attributeBase e f X.env (eval e X.env)=eval e X.env:=by rfl):PE X (.Attribute e f pos) (zy1 C f ta):=by
 intro pins s σ H Q I h
 refine ztm hb (thn (he pins s σ H _ I h) fun u s1 ⟨x,H1,I1,rx,a,dx,fs,v,ex,ea,l,q⟩=>?_)
 subst ex
 obtain rfl:u=Value.ref a:=rx
 exact znG I1 ea hc hn l fun u' s2 I2 ru=>⟨v,H1,I2,ru,q⟩
theorem zaG (hc:Cls X.K C) (hn:zac X.K C f) (ha:PE X o ta) (hv:PE X value tv) (hs:swapsWith value (some (.Attribute o f pos')) pos.line X.env=pure false:=by rfl):PS X (.Assign [.Attribute o f pos'] value pos) (zzh C f ta tv):=by
 intro pins s σ H D I h
 refine plainObj_wpAny_Assign_Attribute (thn (hv pins s σ H _ I h) fun u s1 ⟨y,H1,I1,ry,q⟩=>thn (ha pins s1 σ H1 _ I1 q) fun ov s2 ⟨x,H2,I2,rx,a,dx,fs,ex,ea,l,q2⟩=>?_) hs
 subst ex
 obtain rfl:ov=Value.ref a:=rx
 exact zn6 I2 ea hc hn l ry fun s3 I3=>⟨σ,_,I3,q2⟩
theorem zcK (D:zu X.prog X.w X.K X.mg X.base j C m ps sp) (hc:Cls X.K C) (hr:Room k X.A) (he:PE X o ta) (ha:PA X (e::es) t) (hj:j<=k:=by decide)
  (hst:starEach (e::es) X.env=(false,eval e X.env)::starEach es X.env:=by rfl) (hpl:(backTo pos (starEach es X.env)).any (·.1)=false:=by rfl)
  (ht:eval (.Call (.Attribute o m apos) (e::es) [] pos) X.env=(do
   let ov <-eval o X.env
   standAt apos.atName
   let (f,first) <-holding [ov] (getMethod ov m pl)
   callWith pos f first (backTo pos (starEach (e::es) X.env)) (backToKw pos (keywordEach [] X.env))):=by rfl) :
  PE X (.Call (.Attribute o m apos) (e::es) [] pos) (zqh C m sp [] E0 ta t):=by
 obtain ⟨f,fd,F,hm,hb⟩:=D.ex
 exact zxC (pl:=pl) he hc hm F (hr.mono hj) (.all hb) .nil zir ha hst hpl ht
theorem zK (D:zu X.prog X.w X.K X.mg X.base j C m ps sp) (hc:Cls X.K C) (hr:Room k X.A) (he:PE X o ta) (hj:j<=k:=by decide)
  (ht:eval (.Call (.Attribute o m apos) [] [] pos) X.env=(do
   let ov <-eval o X.env
   standAt apos.atName
   let (f,first) <-holding [ov] (getMethod ov m pl)
   callWith pos f first (backTo pos (starEach [] X.env)) (backToKw pos (keywordEach [] X.env))):=by rfl) :
  PE X (.Call (.Attribute o m apos) [] [] pos) (zqh C m sp [] E0 ta zo1):=by
 obtain ⟨f,fd,F,hm,hb⟩:=D.ex
 exact zwt (pl:=pl) he hc hm F (hr.mono hj) (.all hb) .nil zir ht
theorem zbb (M:MkI X.K C) (D:zu X.prog X.w X.K X.mg X.base j C "__init__" ps sp) (hr:Room k X.A) (hm:X.mg x=some (.ref C)) (ha:PA X (e::es) t) (hj:j+1<=k:=by decide) (hg:Gl X x:=by rfl)
  (hdb:(x == ("__debug__" : Str))=false:=by decide) (he:starEach (e::es) X.env=(false,eval e X.env)::starEach es X.env:=by rfl) (hpl:(backTo pos (starEach es X.env)).any (·.1)=false:=by rfl) :
  PE X (.Call (.Name x p) (e::es) [] pos) (zwM C sp [] E0 t):=by
 obtain ⟨f,fd,F,hme,hb⟩:=D.ex
 exact zxT ⟨M.makes,hme.at_,hme.fn,M.kp⟩ F (hr.mono hj) hg hm (.all hb) .nil zir ha hdb he hpl
end
section
variable {K:W.Frag} {x:Str} {C f:Addr}
theorem zdo (a:PySem.W.nsIn K mainGlobals x=some (some (.ref C))) (h1:PySem.W.makesIn K C=true) (h3:PySem.W.keepIn K (.ref C)=true):MkI K (cA K x):=by
 rw[zeS a];exact ⟨h1,h3⟩
end
noncomputable def zaz (u m n:Int):List (Str × V):=[("cent_units", .int u),("principal_cents", .int m),("owed_units", .int n)]
abbrev Deb (K:W.Frag) (H:Hp) (p dx:Addr) (u m n:Int):Prop:=H p=some (.ins (cA K "Debt") dx (zaz u m n))
theorem zt8:zaY "owed_units" (.int x) (zaz u m n)=zaz u m x:=by rfl
theorem zqi:zaY "principal_cents" (.int x) (zaz u m n)=zaz u x n:=by rfl
theorem zbT:(zaz u m n).length<1000:=by show 3<1000;decide
theorem Deb.same {K:W.Frag} {H H':Hp} {p dx:Addr} {u m n:Int} (e:Deb K H p dx u m n) (s:Same H H'):Deb K H' p dx u m n:=s _ _ e
theorem zka {K:W.Frag} {H:Hp} {p q C dx:Addr} {fs:List (Str × V)} {o:HO} {xs:List V} (e:H p=some (.ins C dx fs)) (h:H q=some (.tup xs)):(upd H p o) q=some (.tup xs):=by
 rw[zr (zae h e (by intro z;cases z))];exact h
theorem zG (o:HO) (_h:H p=none):(upd H p o) p=some o:=zh
section
variable {H H':Hp} {xs ys zs:List V} {l r:List (Dbt.Wd × Int)} {p:Addr} {d:Dbt.Wd × Int}
end
theorem Deb.putL {K:W.Frag} {H:Hp} {p dx s:Addr} {u m n:Int} {xs:List V} {o:HO} (e:Deb K H p dx u m n) (h:H s=some (.lst xs)):Deb K (upd H s o) p dx u m n:=by
 show (upd H s o) p=_
 rw[zr (zae e h (by intro z;cases z))]
 exact e
theorem zfY:zbG X (.type "int") (fun xs H Q=>∃ k,xs=[.bl k]/\∀ t:Int,t=(if k then 1 else 0)->(0<=t/\t<=1)->Q (.int t) H):=by
 intro pins s σ H xs us Q I r h
 obtain ⟨k,e,q⟩:=h
 exact zf0 pins s σ H xs us Q I r (.inr ⟨k,e,q _ rfl (by cases k <;> decide)⟩)
structure zwi (K:W.Frag) (C:Addr):Prop where
 ha:PySem.W.findIn K (.ref C) "__class__" = some (some (.builtin "object.__class__"))
 hn:PySem.W.specialIn K (.builtin "object.__class__") "__get__" = some (some (.builtin "getset_descriptor.__get__"))
 htk:PySem.W.takesIn K (.builtin "object.__class__")=some true
 hm:PySem.W.mroIn K C (.type "object")=some true
theorem zl5 {K:W.Frag} {x:Str} {C:Addr} (a:PySem.W.nsIn K mainGlobals x=some (some (.ref C))) (h1:PySem.W.findIn K (.ref C) "__class__" = some (some (.builtin "object.__class__")))
  (h2:PySem.W.specialIn K (.builtin "object.__class__") "__get__" = some (some (.builtin "getset_descriptor.__get__"))) (h3:PySem.W.takesIn K (.builtin "object.__class__")=some true) (h4:PySem.W.mroIn K C (.type "object")=some true):zwi K (cA K x):=by
 rw[zeS a];exact ⟨h1,h2,h3,h4⟩
theorem zvm:zbG X (.builtin "isinstance") (fun xs H Q=>∃ x t D b,xs=[x,.ref D]/\zcG X.K H x t/\PySem.W.kitOne X.K t (.ref D)=some b/\Q (.bl b) H):=by
 intro pins s σ H xs us Q I r h
 obtain ⟨x,t,D,b,rfl,ty,e,q⟩:=h
 obtain ⟨u,w',rfl,rx,rn⟩:=vals2 r
 cases rn
 exact zpp I rx ty e fun tk=>⟨.bl b,H,I.tok tk,rfl,q⟩
theorem zzF {s:Str} {A B:Prop} (h:A):if decide (V.str s=V.str s)=true then A else B:=by rw[if_pos (by simp)];exact h
theorem zz2 {s t:Str} {A B:Prop} (ne:s≠t) (h:B):if decide (V.str s=V.str t)=true then A else B:=by rw[if_neg (by simpa using ne)];exact h
structure zqs (K:W.Frag) (C:Addr) (m qual:Str) (st:Stmt) (ps:List Str):Prop where
 ex:∃ (f:Addr) (fd:FuncData),Fun K m qual st f fd/\(PySem.W.specialIn K (.ref C) "__getattribute__" = some (some (.builtin "type.__getattribute__"))/\PySem.W.readsIn K C (.type "type")=true /\
  PySem.W.findCls K (.ref C) (.type "type") m=some (.val (.ref f))/\PySem.W.handedIn (.ref f)=true)/\∀ us:List Value,us.length=ps.length->bindArgs fd ⟨us,[]⟩=pure (ps.zip us)
structure zou (P:Program) (w:World) (K:W.Frag) (mg:Str->Option Value) (base:Heap) (k:Nat) (C:Addr) (m:Str) (ps:List Str) (sp:Sp):Prop where
 ex:∃ (f:Addr) (fd:FuncData),zcC P w K mg base CX0 k f fd ps sp/\(PySem.W.specialIn K (.ref C) "__getattribute__" = some (some (.builtin "type.__getattribute__"))/\PySem.W.readsIn K C (.type "type")=true /\
  PySem.W.findCls K (.ref C) (.type "type") m=some (.val (.ref f))/\PySem.W.handedIn (.ref f)=true)/\PySem.W.keepIn K (.ref f)=true/\∀ us:List Value,us.length=ps.length->bindArgs fd ⟨us,[]⟩=pure (ps.zip us)
theorem zqs.ok {P:Program} {w:World} {K:W.Frag} {mg:Str->Option Value} {base:Heap} {C:Addr} {m qual:Str} {st:Stmt} {N ps:List Str} {k:Nat} {sp:Sp} (S:zqs K C m qual st ps) (sc:zk N ps (zg st)) (len:∀ vs H Q E,sp vs H Q E->vs.length=ps.length)
  (hbody:∀ (f:Addr) (cdv:Value) (A:Around) (outer:List Env) (s:Shared) (H:Hp) (vs:List V) (Q:VK) (E:XK),Room k (A.deeper (envOfC qual (zg st) s.heap.objs.size f cdv))->sp vs H Q E ->
   ∃ t,PSs (zg8 CX0 P w K mg base N qual (zg st) f cdv A outer s H E).nox (za8 st) t/\t { nx:=fun _ H'=>Q .non H',rt:=Q } (start N vs) H):zou P w K mg base (k+1) C m ps sp:=by
 obtain ⟨f,fd,F,hm,hb⟩:=S.ex
 exact ⟨f,fd,F.ok sc len (fun cdv=>hbody f cdv),hm,F.kp,hb⟩
section
variable {X:Cx} {C:Addr} {x m:Str} {p pos apos:Pos} {e o:Expr} {es:List Expr} {t:TA} {j k:Nat} {ps:List Str} {sp:Sp}
theorem zrr (D:zou X.prog X.w X.K X.mg X.base j C m ps sp) (he:PE X o (tC (.ref C))) (hr:Room k X.A) (ha:PA X (e::es) t) (hj:j<=k:=by decide)
  (hst:starEach (e::es) X.env=(false,eval e X.env)::starEach es X.env:=by rfl) (hpl:(backTo pos (starEach es X.env)).any (·.1)=false:=by rfl)
  (ht:eval (.Call (.Attribute o m apos) (e::es) [] pos) X.env=(do
   let ov <-eval o X.env
   standAt apos.atName
   let (f,first) <-holding [ov] (getMethod ov m pl)
   callWith pos f first (backTo pos (starEach (e::es) X.env)) (backToKw pos (keywordEach [] X.env))):=by rfl) :
  PE X (.Call (.Attribute o m apos) (e::es) [] pos) (zt1 sp [] E0 t):=by
 intro pins s σ H Q I h
 obtain ⟨f,fd,F,⟨h1,h2,h3,h4⟩,kp,hb⟩:=D.ex
 refine PySem.W.methodCall_KW (pl:=pl) (thn (he pins s σ H (fun v H1=>v=.ref C/\H1=H) I ⟨rfl,rfl⟩) fun u s1 ⟨y,H1,I1,ry,e1,e2⟩=>?_) ht
 subst e1 e2
 obtain rfl:u=Value.ref C:=ry
 refine PySem.W.method_cls I1.kIn h1 (PySem.W.cls_value I1.kIn h2 h3 h4 ?_)
 have I2:=I1.tok (s1.toks+1)
 refine PySem.W.callWith_K (first:=[]) (h₀:=X.base) I.ok.mod.kin kp (thn (ha pos pins _ σ _ _ I2 h) fun us s2 ⟨vs,H2,I3,r,q2⟩=>⟨I3.kIn,?_⟩) hst hpl
 exact zhc (us:=us) (vs:=vs) (dvs:=[]) (ds:=[]) F (hr.mono hj) (.all hb) .nil zir I3 r q2
end
theorem zkL:∀ {bs:List Bool} {us:List Value},Vals (bs.map V.bl) us->LSm.BoolsAre us bs
 | [],_,.nil=>.nil
 | b::bs,_,.cons r rs=>by
  cases r
  exact .cons b (zkL rs)
theorem zpg (hc:X.calm=true):zbG X (.builtin "all") (fun xs H Q=>∃ (p:Addr) (bs:List Bool),xs=[.ref p]/\SqL X.K H p (bs.map V.bl)/\Q (.bl (bs.all id)) H):=by
 intro pins s σ H xs us Q I r h
 obtain ⟨p,bs,rfl,hq,q⟩:=h
 obtain ⟨u,rfl,rx⟩:=vals1 r
 cases rx
 obtain ⟨vs,rv,pl,hz⟩:=I.list hq
 have hb:=zkL rv
 have hl:=pl.isList
 have hlt:p<s.heap.objs.size:=by obtain ⟨_,e,_⟩:=hl;exact ydn e
 refine PySem.call_all_walk (wpAny_pyIter_list hl ?_)
 refine ⟨s.heap.objs.size,[s.heap.objs.size,p],[s.heap.objs.size],vs.toArray.size,_,_,fun i=>(bs[i]?).getD true,rfl,Walks.list (A:=X.A.in1) (I.ok.hd hc) _ p (ycy hlt) vs.toArray,
  ⟨⟨_,ydo _ rfl,rfl,rfl⟩,hl.push _⟩,fun i v s' Q' E' hP hQ=>?_,fun h' tk hk=>?_⟩
 ·obtain ⟨b,e,rfl⟩:=hb.get i v (by simpa using hP)
  simp only[e,Option.getD_some] at hQ
  exact wpAny_truthy_bool hQ
 ·have e:((yba vs.toArray.size).all fun i=>(bs[i]?).getD true)=bs.all id:=by
   rw[<-LSm.range_all,yak,hb.length]
  rw[e]
  exact ⟨.bl _,H,I.kept (LSm.kept_iter hk),rfl,q⟩
inductive Ek where
 | out | fee | pay | due | turn | rate | late | still | base
noncomputable def Ek.cls:Ek->Str
 | .out => "Out"
 | .fee => "Fee"
 | .pay => "Pay"
 | .due => "Due"
 | .turn => "Turn"
 | .rate => "Rate"
 | .late => "Late"
 | .still => "Still"
 | .base => "Entry"
noncomputable def Ek.word:Ek->Str
 | .out => "out"
 | .fee => "fee"
 | .pay => "pay"
 | .due => "due"
 | .turn => "turn"
 | .rate => "rate"
 | .late => "late"
 | .still => "still"
 | .base => ""
noncomputable def znf:Ek->Int->Int->List (Str × V)
 | .turn,d,_=>[("day", .int d)]
 | .base,d,_=>[("day", .int d)]
 | .rate,d,x=>[("day", .int d),("rate", .int x)]
 | .late,d,x=>[("day", .int d),("rate", .int x)]
 | .still,d,x=>[("day", .int d),("until", .int x)]
 | .out,d,x=>[("day", .int d),("amount", .int x)]
 | .fee,d,x=>[("day", .int d),("amount", .int x)]
 | .pay,d,x=>[("day", .int d),("amount", .int x)]
 | .due,d,x=>[("day", .int d),("amount", .int x)]
noncomputable def zm7:Ek->Int->Int->List V
 | .turn,d,_=>[.str "turn", .int d]
 | .base,d,_=>[.str "", .int d]
 | k,d,x=>[.str k.word,.int d,.int x]
abbrev zeO (K:W.Frag) (H:Hp) (a dx:Addr) (k:Ek) (d x:Int):Prop:=H a=some (.ins (cA K k.cls) dx (znf k d x))
theorem zhY (k:Ek) (d x:Int):yby ("day" : Str) (znf k d x)=some (V.int d):=by cases k <;> rfl
theorem zaZ (k:Ek) (d x:Int):yby ("word" : Str) (znf k d x)=none:=by cases k <;> rfl
theorem zwd (k:Ek) (d x:Int):yby ("row" : Str) (znf k d x)=none:=by cases k <;> rfl
noncomputable def zxb:Ek->Int->Int->Prop
 | .fee,_,x => -1000000000000<=x/\x<=1000000000000
 | .rate,_,x=>0<=x/\x<=1000000
 | .late,_,x=>0<=x/\x<=1000000
 | .still,d,x=>d+1<=x/\x<=1000000
 | .turn,_,_=>True
 | .base,_,_=>False
 | .out,_,x=>1<=x/\x<=1000000000000
 | .pay,_,x=>1<=x/\x<=1000000000000
 | .due,_,x=>1<=x/\x<=1000000000000
noncomputable def zgQ:Ek->Int->Int->List PyData
 | .turn,d,_=>[.str "turn", .int d]
 | .base,d,_=>[.str "", .int d]
 | k,d,x=>[.str k.word,.int d,.int x]
theorem zyC {K:W.Frag} {H:Hp} (k:Ek) (d x:Int):zcS K H (zm7 k d x) (zgQ k d x):=by
 cases k with
 | turn=>exact .cons (.str _) (.cons (.int _) .nil)
 | base=>exact .cons (.str _) (.cons (.int _) .nil)
 | _=>exact .cons (.str _) (.cons (.int _) (.cons (.int _) .nil))
theorem zw8 (k:Ek) (d x:Int):PyData.eqv (.tuple (zgQ k d x)) (.tuple (zgQ k d x))=true:=by
 cases k <;> simp[zgQ,PyData.eqv,PyData.eqvAll]
theorem trues (hl:ys.length=n) (p:∀ (j:Nat) v,ys[j]?=some v->v=.bl true):ys=(yat n true).map V.bl:=by
 apply ybw
 intro j
 rw[yai]
 by_cases hj:j<ys.length
 ·rw[yaa hj,p j _ (yaa hj),ycc,if_pos (by ac_rfl)]
  rfl
 ·rw[yaq (by ac_rfl),ycc,if_neg (by ac_rfl)]
  rfl
def zvx (K:W.Frag) (m:Str) (sp:Ek->Sp) (ta:TE) (t:TA):TE:=fun σ H Q=>ta σ H fun x H1=>∃ (k:Ek) (a dx:Addr) (fs:List (Str × V)),x=.ref a/\H1 a=some (.ins (cA K k.cls) dx fs)/\fs.lookup m=none/\t σ H1 fun vs H2=>sp k (x::vs) H2 Q E0
section
variable {X:Cx} {C:Addr} {x m:Str} {p pos apos:Pos} {e o:Expr} {es:List Expr} {ta:TE} {t:TA} {j k:Nat} {ps:List Str}
theorem zfT (D:∀ k:Ek,zu X.prog X.w X.K X.mg X.base j (cA X.K k.cls) m ps (sp k)) (hc:∀ k:Ek,Cls X.K (cA X.K k.cls)) (hr:Room k X.A) (he:PE X o ta) (hj:j<=k:=by decide)
  (ht:eval (.Call (.Attribute o m apos) [] [] pos) X.env=(do
   let ov <-eval o X.env
   standAt apos.atName
   let (f,first) <-holding [ov] (getMethod ov m pl)
   callWith pos f first (backTo pos (starEach [] X.env)) (backToKw pos (keywordEach [] X.env))):=by rfl) :
  PE X (.Call (.Attribute o m apos) [] [] pos) (zvx X.K m sp ta zo1):=by
 intro pins s σ H Q I h
 refine PySem.W.methodCall_KW (pl:=pl) (thn (he pins s σ H _ I h) fun u s1 ⟨x,H1,I1,rx,kd,a,dx,fs,ex,ea,l,q⟩=>?_) ht
 subst ex
 obtain rfl:u=Value.ref a:=rx
 obtain ⟨f,fd,F,hm,hb⟩:=(D kd).ex
 refine zee I1 ea (hc kd) hm l ?_
 exact PySem.W.callWith_K0 (first:=[.ref a]) I1.kIn hm.kp (zhc (us:=[.ref a]) (vs:=[.ref a]) (dvs:=[]) (ds:=[]) F (hr.mono hj) (.all hb) .nil zir I1 (.cons rfl .nil) q)
end
section
variable {K:W.Frag} {x:Str} {C f:Addr}
theorem zx7 {m qual:Str} {st:Stmt} {ps:List Str} {oc:Value} {od an:Option Addr} {osl:Array (Option Value)} {kV doc pm cdv ct:Value} (a:PySem.W.nsIn K mainGlobals x=some (some (.ref C))) (h1:PySem.W.specialIn K (.ref C) "__getattribute__" = some (some (.builtin "type.__getattribute__")))
  (h2:PySem.W.readsIn K C (.type "type")=true) (h3:PySem.W.findCls K (.ref C) (.type "type") m=some (.val (.ref f))) (h4:PySem.W.handedIn (.ref f)=true)
  (fk:PySem.W.keepIn K (.ref f)=true) (fl:K.lookup f=some ⟨oc,od,.func (PySem.W.fnOf m qual (zdf st) (za8 st) (zg st) .none kV doc pm an cdv ct),osl⟩) (fc:PySem.W.codeIn K cdv qual=true)
  (hb:∀ us:List Value,us.length=ps.length->bindArgs (PySem.W.fnOf m qual (zdf st) (za8 st) (zg st) .none kV doc pm an cdv ct) ⟨us,[]⟩=pure (ps.zip us)):zqs K (cA K x) m qual st ps:=by
 rw[zeS a];exact ⟨f,_,zr2 fl fc fk,⟨h1,h2,h3,h4⟩,hb⟩
end
section
variable {X:Cx}
end
end L2
namespace L2
open PySem
end L2
namespace L2
noncomputable def eqK:Kd->Kd->Bool
 | .plain,.plain=>true
 | .bank,.bank=>true
 | .thirty,.thirty=>true
 | .exact,.exact=>true
 | _,_=>false
noncomputable def zx2 (k:Kd):Kd->Bool
 | .plain=>true
 | .bank=>eqK k .bank
 | .thirty=>eqK k .thirty
 | .exact=>eqK k .exact
end L2
namespace L2
open PySem PySem.Spec PyProof.Rows
section
variable {M:Model} {A:Around} {E:Value->Shared->Prop} {s:Shared} {B:Heap} {v:Env} {out:List Env} {L e d:Addr} {Q:Unit->Shared->Prop}
end
section
variable {X:Cx} {pins:List (Addr × Obj)} {σ:St} {H:Hp} {s:Shared} {e:Addr} {φ:Heap->Prop}
end
section
variable {P:Program} {w:World} {K:W.Frag} {mg:Str->Option Value} {base:Heap} {N:List Str} {qual:Str} {scope:Scope} {f:Addr} {cd:Value} {A:Around} {outer:List Env} {s₀:Shared} {H₀:Hp} {E:XK}
end
section
variable {M:Model} {A:Around} {E:Value->Shared->Prop} {env:Env} {nm q:Str} {C N:Addr} {bs bm:List Value} {hdct:Bool} {sn:List Str} {sub:List Value} {ab:Bool} {col:Option Bool} {dd:Option Addr} {k0 k1 k2 k3 k5:Option Value} {newId:String}
end
section
variable {X:Cx} {x:Str} {np pos:Pos} {e0:Expr} {t:TA} {C f:Addr} {fd:FuncData} {ps:List Str} {name:Str} {j k:Nat}
end
section
variable {X:Cx} {x:Str} {np cpos pos:Pos} {e0:Expr} {t:TA} {name:Str} {j k:Nat} {E:XK}
end
section
variable {X:Cx} {o value:Expr} {name:Str} {pos pos':Pos} {ta tv:TE} {C:Addr}
end
inductive LL {α:Type} (R:V->α->Prop):List V->List α->Prop
 | nil:LL R [] []
 | cons {v:V} {e:α} {vs:List V} {es:List α}:R v e->LL R vs es->LL R (v::vs) (e::es)
section
variable {α:Type} {R S:V->α->Prop} {vs ws:List V} {es fs:List α}
theorem LL.length (h:LL R vs es):vs.length=es.length:=by
 induction h with
 | nil=>rfl
 | cons _ _ ih=>simp[ih]
theorem LL.imp (f:∀ v e,R v e->S v e) (h:LL R vs es):LL S vs es:=by
 induction h with
 | nil=>exact .nil
 | cons h _ ih=>exact .cons (f _ _ h) ih
theorem LL.append (h:LL R vs es) (k:LL R ws fs):LL R (vs++ws) (es++fs):=by
 induction h with
 | nil=>exact k
 | cons h _ ih=>exact .cons h ih
theorem LL.push (h:LL R vs es) (k:R v e):LL R (vs++[v]) (es++[e]):=h.append (.cons k .nil)
theorem LL.get (h:LL R vs es):∀ {i:Nat} {v:V},vs[i]?=some v->∃ e,es[i]?=some e/\R v e:=by
 induction h with
 | nil=>intro i v e;simp at e
 | cons h _ ih =>
  intro i v e
  cases i with
  | zero=>cases e;exact ⟨_,rfl,h⟩
  | succ i=>exact ih e
theorem LL.eqm (h:LL (fun v e=>v=g e) vs es):vs=es.map g:=by
 induction h with
 | nil=>rfl
 | cons h _ ih=>rw[h,ih];rfl
end
theorem zeU (Y:zjJ J H xs) (hl:H l=none) (hz:xs.length<=sizeLine) (es:List α) (len:es.length=xs.length)
  (f:α->Bool) (P:Hp->V->α->Prop) (mono:∀ v e H1 H2,Same H1 H2->P H1 v e->P H2 v e) (put:∀ v e H1 ys zs,H1 l=some (.lst ys)->P H1 v e->P (upd H1 l (.lst zs)) v e)
  (ht:∀ (i:Nat) x e H' Q',xs[i]?=some x->es[i]?=some e->Same H H'->Q' (f e) H'->tt (some x::capts σ ix) H' Q')
  (he:∀ (i:Nat) x e H' Q',xs[i]?=some x->es[i]?=some e->f e=true->Same H H'->(∀ v H2,Same H' H2->P H2 v e->Q' v H2)->te (some x::capts σ ix) H' Q')
  (fin:∀ ys H',Same H H'->H' l=some (.lst ys)->LL (P H') ys (es.filter f)->R H') :
  ∃ W:Nat->Nat->List V->Hp->Prop,(∃ m,W 0 m [] (upd H l (.lst [])))/\zmg ix tt te σ J l R W:=by
 refine ⟨fun i m ys H'=>m=xs.length-i/\i<=xs.length/\LL (P H') ys ((es.take i).filter f)/\Same H H'/\H' l=some (.lst ys),⟨xs.length,by simp,yda _,by simp;exact .nil,zf hl _,zh⟩,?_⟩
 rintro i m ys H' ⟨rfl,hi,hy,sH,hL⟩
 refine ⟨hL,?_⟩
 by_cases hlt:i<xs.length
 ·have yl:ys.length<=i:=by
   rw[hy.length]
   exact ydc (yay _ _) (by rw[yaz];ac_rfl)
  have eP:es[i]?=some (es[i]'(by ac_rfl)):=yaa (by ac_rfl)
  generalize es[i]'(by ac_rfl)=e at eP
  have tk:es.take (i+1)=es.take i++[e]:=by rw[ybc,eP];rfl
  refine .inr ⟨Y.go i H' sH hlt,by ac_rfl,fun x H2 y=>?_⟩
  obtain ⟨rfl,e2⟩:=Y.yld i H' x H2 sH y
  refine ht i x e _ _ e2 eP sH ?_
  cases b:f e with
  | true =>
   rw[if_pos rfl]
   refine he i x e _ _ e2 eP b sH fun v H3 s3 pv=>?_
   have hL3:=s3 _ _ hL
   refine ⟨hL3,xs.length-(i+1),by ac_rfl,rfl,hlt,?_,zJ (sH.trans s3) hl,zh⟩
   rw[tk,ybd,yau b]
   exact ((hy.imp fun v e q=>put v e H3 ys _ hL3 (mono v e _ _ s3 q)).push (put v e H3 ys _ hL3 pv))
  | false =>
   rw[if_neg Bool.false_ne_true]
   refine ⟨xs.length-(i+1),by ac_rfl,rfl,hlt,?_,sH,hL⟩
   rw[tk,ybd,yav (by rw[b];decide)]
   simpa using hy
 ·rw[yaw (by ac_rfl)] at hy
  exact .inl ⟨Y.stop i H' sH (by ac_rfl),fin ys H' sH hL hy⟩
theorem isI:(intKind P w).is k (.int k t)=true:=by first | (simp[intKind,Value.isInt];done) | exact beq_self_eq_true _
noncomputable def lkI (l:List (Int × Int)) (k:Int):Option Int:=(l.find? fun p=>p.1=k).map (·.2)
theorem KR.look (rv:RelV v u) (h:KR r l):RelV (((lkI l k).map V.int).getD v) ((valueAt r k).getD u):=by
 induction h with
 | nil=>exact rv
 | @cons k' y t r l _ ih =>
  unfold lkI PySem.valueAt at *
  by_cases e:k'=k
  ·rw[yas (by simpa using e),yas (by simpa using e)]
   exact ⟨t,rfl⟩
  ·rw[yan (by simpa using e),yan (by simpa using e)]
   exact ih
section
variable {X:Cx} {pins:List (Addr × Obj)} {σ:St} {H:Hp} {s:Shared} {o i e f value:Expr} {pos pos' apos cpos:Pos} {td ty tx tv:TE}
theorem zqB (lo:(d == sysModules)=false) (hd:h.DictOf (intKind P w) d kvs) (hk:KR kvs l):zar P w H h d (zb1 P w d l) :=
 ⟨⟨lo,kvs,hd,hk⟩,(let ⟨o,_,_,e,_⟩:=hd;⟨o,e⟩),fun h1 h2 ⟨lo',kv,x,y⟩ e=>⟨lo',kv,zaT x e,y⟩⟩
def zxY (P:Program) (w:World):TE:=fun _ H Q=>∀ p,H p=none->Q (.ref p) (upd H p (zb1 P w p []))
theorem zvO:PE X (.Dict [] [] pos) (zxY X.prog X.w):=fun pins s σ H Q I h=>by
 have big:sysModules<s.heap.objs.size:=ydh (by decide) (show mainGlobals<s.heap.objs.size from (I.mod.glob.keeps I.bk).lt)
 have new:zar X.prog X.w (upd H s.heap.objs.size (zb1 X.prog X.w s.heap.objs.size [])) (s.heap.push { cls:=.type "dict", data:=.dict #[] }) s.heap.objs.size (zb1 X.prog X.w s.heap.objs.size []) :=
  zqB (beq_eq_false_iff_ne.mpr (Ne.symm (ycy big))) (Heap.DictOf.new s.heap) .nil
 exact wpAny_Dict_empty ⟨.ref s.heap.objs.size,_,I.laid (t':=s.toks) (fun _ _ q=>ydm _ q) (ycx _) new,rfl,h _ (I.hok.fresh (ycx _))⟩
def zw0 (P:Program) (w:World) (td ty tx:TE):TE:=fun σ H Q=>td σ H fun x H1=>∃ (d:Addr) (l:List (Int × Int)),x=.ref d/\H1 d=some (zb1 P w d l)/\ty σ H1 fun y H2=>tx σ H2 fun z H3=>∃ (k:Int),y=.int k/\H3 d=some (zb1 P w d l)/\Q (((lkI l k).map V.int).getD z) H3
theorem zml (ho:PE X o td) (he:PE X e ty) (hf:PE X f tx) (hb:attributeBase o "get" X.env (eval o X.env)=eval o X.env:=by rfl)
  (few:((backTo cpos (starEach [e,f] X.env)).all (fun x=>!x.1) && (backToKw cpos (keywordEach [] X.env)).all (fun x=>x.1.isSome)
   && decide (([e,f]:List Expr).length+([]:List Keyword).length+(if ([]:List Keyword).isEmpty then 0 else 1)<30))=true:=by rfl)
  (line:(apos.endLine == cpos.line)=true:=by rfl) (trees:backTo cpos (starEach [e,f] X.env)=[(false,eval e X.env),(false,eval f X.env)]:=by rfl):PE X (.Call (.Attribute o "get" apos) [e,f] [] cpos) (zw0 X.prog X.w td ty tx):=by
 intro pins s σ H Q I h
 refine wpAny_Call_method hb few line PySem.F.plainAttrs_dict PySem.F.slot_dict_get PySem.F.type_dict_get (thn (ho pins s σ H _ I h) fun u s1 ⟨x,H1,I1,rx,d,l,ex,hd,q1⟩=>?_)
 subst ex
 obtain rfl:u=Value.ref d:=rx
 obtain ⟨lo,kvs,hD,hk⟩:=(I1.hok d _ hd).1
 refine ⟨hD.typeIs,hD.mapOf.noDict,?_⟩
 rw[trees]
 refine Calls.callWith_builtin rfl (Calls.evalArgs_plain (Calls.spliced_cons (thn (he pins s1 σ H1 _ I1 q1) fun iv s2 ⟨y,H2,I2,ry,q2⟩ =>
  Calls.spliced_cons (thn (hf pins s2 σ H2 _ I2 q2) fun fv s3 ⟨z,H3,I3,rz,k,ek,hd3,q3⟩=>Calls.spliced_nil ?_))))
 subst ek
 obtain ⟨t,rfl⟩:=ry
 obtain ⟨lo3,kvs3,hD3,hk3⟩:=(I3.hok d _ hd3).1
 exact call_meetsIn PySem.F.slot_dict_get hD3.typeIs PySem.F.entry_dict_get (PySem.F.args_dict_get_3 _ _ _) (meets_dict_get_default (intKind X.prog X.w) d isI lo3 fv) ⟨_,hD3.mapOf,_,H3,I3.tok _,hk3.look rz,q3⟩
def zzt (P:Program) (w:World) (td ty tv:TE):TS:=fun D σ H=>tv σ H fun v H1=>td σ H1 fun x H2=>ty σ H2 fun y H3=>∃ (d:Addr) (l:List (Int × Int)) (k n:Int),x=.ref d/\y=.int k/\v=.int n/\H3 d=some (zb1 P w d l)/\l.length<=1000/\D.nx σ (upd H3 d (zb1 P w d (zav l k n)))
theorem zxs (ho:PE X o td) (hi:PE X i ty) (hv:PE X value tv) (hs:swapsWith value (some (.Subscript o i pos')) pos.line X.env=pure false:=by rfl):PS X (.Assign [.Subscript o i pos'] value pos) (zzt X.prog X.w td ty tv):=by
 intro pins s σ H D I h
 refine wpAny_Assign_Subscript (thn (hv pins s σ H _ I h) fun r s1 ⟨v,H1,I1,rv,q1⟩=>thn (ho pins s1 σ H1 _ I1 q1) fun u s2 ⟨x,H2,I2,rx,q2⟩=>thn (hi pins s2 σ H2 _ I2 q2) fun iv s3 ⟨y,H3,I3,ry,d,l,k,n,ex,ey,ev,hd,hl,q3⟩=>?_) hs
 subst ex ey ev
 obtain rfl:u=Value.ref d:=rx
 obtain ⟨t,rfl⟩:=ry
 obtain ⟨t',rfl⟩:=rv
 obtain ⟨lo,kvs,hD,hk⟩:=(I3.hok d _ hd).1
 have sz:=sizeLine_eq
 refine wpAny_setItem_pairs (knd:=intKind X.prog X.w) (k:=k) (hsz:=by rw[hk.length];ac_rfl) isI hD fun h' hD' hs'=>?_
 have he:∃ q,h'.get? d=some q:=let ⟨q,_,_,hq,_⟩:=hD';⟨q,hq⟩
 exact ⟨σ,_,I3.write (x:=d) (e:=d) (by rw[hd];exact True.intro) (.inl rfl) (fun b q hb z=>(hs'.2 b hb).trans z) he (zqB lo hD' hk.stored),q3⟩
end
section
variable {X:Cx} {m f:Str} {pos apos:Pos} {o e:Expr} {ta:TE} {j k:Nat} {ps:List Str}
theorem zde (K:W.Frag) (he:PE X e ta) (hb:attributeBase e f X.env (eval e X.env)=eval e X.env) (hK:X.K=K:=by rfl):PE X (.Attribute e f pos) (zyj K ta f):=by
 subst hK
 exact zfR he hb
theorem zeK (K:W.Frag) (D:∀ k:Ek,zu X.prog X.w X.K X.mg X.base j (cA X.K k.cls) m ps (sp k)) (hc:∀ k:Ek,Cls X.K (cA X.K k.cls)) (hr:Room k X.A) (he:PE X o ta) (hj:j<=k:=by decide)
  (ht:eval (.Call (.Attribute o m apos) [] [] pos) X.env=(do
   let ov <-eval o X.env
   standAt apos.atName
   let (f,first) <-holding [ov] (getMethod ov m pl)
   callWith pos f first (backTo pos (starEach [] X.env)) (backToKw pos (keywordEach [] X.env))):=by rfl) (hK:X.K=K:=by rfl) :
  PE X (.Call (.Attribute o m apos) [] [] pos) (zvx K m sp ta zo1):=by
 subst hK
 exact zfT (pl:=pl) D hc hr he hj ht
end
noncomputable def za2 (l:List (Int × V)) (k:Int) (y:V):List (Int × V):=if l.any (fun p=>p.1=k) then l.map (fun p=>if p.1=k then (p.1,y) else p) else l++[(k,y)]
noncomputable def ztL (l:List (Int × V)):List (Int × V):=l.foldl (fun acc s=>za2 acc s.1 s.2) []
noncomputable def lkV (l:List (Int × V)) (k:Int):Option V:=(l.find? fun p=>p.1=k).map (·.2)
inductive KU:List (Int × Value)->List (Int × V)->Prop
 | nil:KU [] []
 | cons {k:Int} {v:V} {u:Value} {r:List (Int × Value)} {l:List (Int × V)}:RelV v u->KU r l->KU ((k,u)::r) ((k,v)::l)
theorem KU.length (h:KU r l):r.length=l.length:=by
 induction h with
 | nil=>rfl
 | cons _ _ ih=>simp[ih]
theorem KU.any (h:KU r l):r.any (fun kv=>kv.1=k)=l.any (fun p=>p.1=k):=by
 induction h with
 | nil=>rfl
 | cons _ _ ih=>rw[ycj,ycj,ih]
theorem KU.snoc (h:KU r l) (rv:RelV v u):KU (r++[(k,u)]) (l++[(k,v)]):=by
 induction h with
 | nil=>exact .cons rv .nil
 | cons r' _ ih=>exact .cons r' ih
theorem KU.map (h:KU r l) (rv:RelV v u):KU (r.map fun kv=>if kv.1=k then (kv.1,u) else kv) (l.map fun p=>if p.1=k then (p.1,v) else p):=by
 induction h with
 | nil=>exact .nil
 | @cons k' v' u' r l r' _ ih =>
  rw[ybm,ybm]
  by_cases e:k'=k
  ·rw[if_pos e,if_pos e];exact .cons rv ih
  ·rw[if_neg e,if_neg e];exact .cons r' ih
theorem KU.stored (h:KU r l) (rv:RelV v u):KU (stored r k u) (za2 l k v):=by
 unfold PySem.stored za2
 rw[h.any]
 split
 ·exact h.map rv
 ·exact h.snoc rv
theorem KU.look (rv:RelV v u) (h:KU r l):RelV ((lkV l k).getD v) ((valueAt r k).getD u):=by
 induction h with
 | nil=>exact rv
 | @cons k' v' u' r l r' _ ih =>
  unfold lkV PySem.valueAt at *
  by_cases e:k'=k
  ·rw[yas (by simpa using e),yas (by simpa using e)]
   exact r'
  ·rw[yan (by simpa using e),yan (by simpa using e)]
   exact ih
theorem KU.zyS (h:KU r l) (e:lkV l k=some v):∃ u,valueAt r k=some u/\RelV v u:=by
 induction h with
 | nil=>cases e
 | @cons k' v' u' r l r' _ ih =>
  unfold lkV PySem.valueAt at *
  by_cases c:k'=k
  ·rw[yas (by simpa using c)] at e ⊢
   cases e
   exact ⟨_,rfl,r'⟩
  ·rw[yan (by simpa using c)] at e ⊢
   exact ih e
theorem KU.zza (h:KU r l):(valueAt r k).isSome=(lkV l k).isSome:=by
 induction h with
 | nil=>rfl
 | @cons k' v' u' r l r' _ ih =>
  unfold lkV PySem.valueAt at *
  by_cases c:k'=k
  ·rw[yas (by simpa using c),yas (by simpa using c)];rfl
  ·rw[yan (by simpa using c),yan (by simpa using c)]
   exact ih
theorem zjK (l:List (Int × V)) (k:Int) (y:V):(za2 l k y).length<=l.length+1:=by
 unfold za2
 split
 ·rw[yab];ac_rfl
 ·simp
theorem zjZ (l:List (Int × V)) (k j:Int) (y:V):lkV (za2 l k y) j=if j=k then some y else lkV l j:=by
 unfold za2 lkV
 induction l with
 | nil =>
  by_cases c:j=k
  ·subst c;simp
  ·have c':¬ k=j:=fun z=>c z.symm
   simp[c,c']
 | cons p l ih =>
  by_cases a:p.1=k
  ·have h1:(p::l).any (fun p=>decide (p.1=k))=true:=by rw[ycj,decide_eq_true a];rfl
   rw[if_pos h1,ybm,if_pos a]
   by_cases c:j=k
   ·rw[if_pos c,yas (by simp;ac_rfl)];rfl
   ·rw[if_neg c,yan (by simp;ac_rfl),yan (by simp;ac_rfl)]
    congr 1
    clear ih h1
    induction l with
    | nil=>rfl
    | cons q l ih2 =>
     rw[ybm]
     by_cases e:q.1=k
     ·rw[if_pos e,yan (by simp;ac_rfl),yan (by simp;ac_rfl)];exact ih2
     ·rw[if_neg e]
      by_cases e2:q.1=j
      ·rw[yas (by simpa using e2),yas (by simpa using e2)]
      ·rw[yan (by simpa using e2),yan (by simpa using e2)];exact ih2
  ·have h1:(p::l).any (fun p=>decide (p.1=k))=l.any (fun p=>decide (p.1=k)):=by rw[ycj,decide_eq_false a];rfl
   rw[h1]
   have st:(if l.any (fun p=>decide (p.1=k))=true then (p::l).map (fun p=>if p.1=k then (p.1,y) else p) else p::l++[(k,y)])=p::(if l.any (fun p=>decide (p.1=k))=true then l.map (fun p=>if p.1=k then (p.1,y) else p) else l++[(k,y)]):=by
    split
    ·rw[ybm,if_neg a]
    ·rfl
   rw[st]
   by_cases e:p.1=j
   ·rw[yas (by simpa using e),yas (by simpa using e),if_neg (by ac_rfl)]
   ·rw[yan (by simpa using e),yan (by simpa using e)]
    exact ih
noncomputable def zaV (P:Program) (w:World) (d:Addr) (l:List (Int × V)):HO:=.ext fun h=>(d == sysModules)=false/\∃ kvs,h.DictOf (intKind P w) d kvs/\KU kvs l
section
variable {X:Cx} {pins:List (Addr × Obj)} {σ:St} {H:Hp} {s:Shared} {o i e f value:Expr} {pos pos' apos cpos:Pos} {td ty tx tv:TE}
theorem zm2 (lo:(d == sysModules)=false) (hd:h.DictOf (intKind P w) d kvs) (hk:KU kvs l):zar P w H h d (zaV P w d l) :=
 ⟨⟨lo,kvs,hd,hk⟩,(let ⟨o,_,_,e,_⟩:=hd;⟨o,e⟩),fun h1 h2 ⟨lo',kv,x,y⟩ e=>⟨lo',kv,zaT x e,y⟩⟩
def zyO (P:Program) (w:World):TE:=fun _ H Q=>∀ p,H p=none->Q (.ref p) (upd H p (zaV P w p []))
theorem zrP:PE X (.Dict [] [] pos) (zyO X.prog X.w):=fun pins s σ H Q I h=>by
 have big:sysModules<s.heap.objs.size:=ydh (by decide) (show mainGlobals<s.heap.objs.size from (I.mod.glob.keeps I.bk).lt)
 have new:zar X.prog X.w (upd H s.heap.objs.size (zaV X.prog X.w s.heap.objs.size [])) (s.heap.push { cls:=.type "dict", data:=.dict #[] }) s.heap.objs.size (zaV X.prog X.w s.heap.objs.size []) :=
  zm2 (beq_eq_false_iff_ne.mpr (Ne.symm (ycy big))) (Heap.DictOf.new s.heap) .nil
 exact wpAny_Dict_empty ⟨.ref s.heap.objs.size,_,I.laid (t':=s.toks) (fun _ _ q=>ydm _ q) (ycx _) new,rfl,h _ (I.hok.fresh (ycx _))⟩
def zyY (P:Program) (w:World) (td ty tx:TE):TE:=fun σ H Q=>td σ H fun x H1=>∃ (d:Addr) (l:List (Int × V)),x=.ref d/\H1 d=some (zaV P w d l)/\ty σ H1 fun y H2=>tx σ H2 fun z H3=>∃ (k:Int),y=.int k/\H3 d=some (zaV P w d l)/\Q ((lkV l k).getD z) H3
theorem zw7 (ho:PE X o td) (he:PE X e ty) (hf:PE X f tx) (hb:attributeBase o "get" X.env (eval o X.env)=eval o X.env:=by rfl)
  (few:((backTo cpos (starEach [e,f] X.env)).all (fun x=>!x.1) && (backToKw cpos (keywordEach [] X.env)).all (fun x=>x.1.isSome)
   && decide (([e,f]:List Expr).length+([]:List Keyword).length+(if ([]:List Keyword).isEmpty then 0 else 1)<30))=true:=by rfl)
  (line:(apos.endLine == cpos.line)=true:=by rfl) (trees:backTo cpos (starEach [e,f] X.env)=[(false,eval e X.env),(false,eval f X.env)]:=by rfl):PE X (.Call (.Attribute o "get" apos) [e,f] [] cpos) (zyY X.prog X.w td ty tx):=by
 intro pins s σ H Q I h
 refine wpAny_Call_method hb few line PySem.F.plainAttrs_dict PySem.F.slot_dict_get PySem.F.type_dict_get (thn (ho pins s σ H _ I h) fun u s1 ⟨x,H1,I1,rx,d,l,ex,hd,q1⟩=>?_)
 subst ex
 obtain rfl:u=Value.ref d:=rx
 obtain ⟨lo,kvs,hD,hk⟩:=(I1.hok d _ hd).1
 refine ⟨hD.typeIs,hD.mapOf.noDict,?_⟩
 rw[trees]
 refine Calls.callWith_builtin rfl (Calls.evalArgs_plain (Calls.spliced_cons (thn (he pins s1 σ H1 _ I1 q1) fun iv s2 ⟨y,H2,I2,ry,q2⟩ =>
  Calls.spliced_cons (thn (hf pins s2 σ H2 _ I2 q2) fun fv s3 ⟨z,H3,I3,rz,k,ek,hd3,q3⟩=>Calls.spliced_nil ?_))))
 subst ek
 obtain ⟨t,rfl⟩:=ry
 obtain ⟨lo3,kvs3,hD3,hk3⟩:=(I3.hok d _ hd3).1
 exact call_meetsIn PySem.F.slot_dict_get hD3.typeIs PySem.F.entry_dict_get (PySem.F.args_dict_get_3 _ _ _) (meets_dict_get_default (intKind X.prog X.w) d isI lo3 fv) ⟨_,hD3.mapOf,_,H3,I3.tok _,hk3.look rz,q3⟩
def zzs (P:Program) (w:World) (td ty tv:TE):TS:=fun D σ H=>tv σ H fun v H1=>td σ H1 fun x H2=>ty σ H2 fun y H3=>∃ (d:Addr) (l:List (Int × V)) (k:Int),x=.ref d/\y=.int k/\H3 d=some (zaV P w d l)/\l.length<=1000/\D.nx σ (upd H3 d (zaV P w d (za2 l k v)))
theorem ztC (ho:PE X o td) (hi:PE X i ty) (hv:PE X value tv) (hs:swapsWith value (some (.Subscript o i pos')) pos.line X.env=pure false:=by rfl):PS X (.Assign [.Subscript o i pos'] value pos) (zzs X.prog X.w td ty tv):=by
 intro pins s σ H D I h
 refine wpAny_Assign_Subscript (thn (hv pins s σ H _ I h) fun r s1 ⟨v,H1,I1,rv,q1⟩=>thn (ho pins s1 σ H1 _ I1 q1) fun u s2 ⟨x,H2,I2,rx,q2⟩=>thn (hi pins s2 σ H2 _ I2 q2) fun iv s3 ⟨y,H3,I3,ry,d,l,k,ex,ey,hd,hl,q3⟩=>?_) hs
 subst ex ey
 obtain rfl:u=Value.ref d:=rx
 obtain ⟨t,rfl⟩:=ry
 obtain ⟨lo,kvs,hD,hk⟩:=(I3.hok d _ hd).1
 have sz:=sizeLine_eq
 refine wpAny_setItem_pairs (knd:=intKind X.prog X.w) (k:=k) (hsz:=by rw[hk.length];ac_rfl) isI hD fun h' hD' hs'=>?_
 have he:∃ q,h'.get? d=some q:=let ⟨q,_,_,hq,_⟩:=hD';⟨q,hq⟩
 exact ⟨σ,_,I3.write (x:=d) (e:=d) (by rw[hd];exact True.intro) (.inl rfl) (fun b q hb z=>(hs'.2 b hb).trans z) he (zm2 lo hD' (hk.stored rv)),q3⟩
def zyR (P:Program) (w:World):R2:=fun x y H Q=>∃ d l k v,x=.ref d/\y=.int k/\H d=some (zaV P w d l)/\lkV l k=some v/\Q v H
theorem zqH:IxR X (zyR X.prog X.w):=by
 intro value slice pins s σ H x y v u Q I rx ry h hs
 obtain ⟨d,l,k,z,rfl,rfl,hd,hl,q⟩:=h
 obtain rfl:v=Value.ref d:=rx
 obtain ⟨t,rfl⟩:=ry
 obtain ⟨lo,kvs,hD,hk⟩:=(I.hok d _ hd).1
 obtain ⟨u',e,ru⟩:=hk.zyS hl
 exact subscriptTail_builtinR (x:=u') hD.typeIs slot_dict_getitem.lookup
  (wpAny_getItem_of (Q:=fun r s'=>r=u'/\EP X pins σ Q r s') (knd:=intKind X.prog X.w) (k:=k) isI hD.mapOf e ⟨rfl,z,H,I.tok _,ru,q⟩) hs
theorem zuN (P:Program) (w:World) (hP:X.prog=P:=by rfl) (hw:X.w=w:=by rfl):IxR X (zyR P w):=by subst hP hw;exact zqH
def zz3 (P:Program) (w:World):R2:=fun x y H Q=>∃ d l k,x=.int k/\y=.ref d/\H d=some (zaV P w d l)/\Q (.bl (lkV l k).isSome) H
theorem zsu:OpR X (compareOp .In) (zz3 X.prog X.w):=by
 intro pins s σ H x y v u Q I rx ry h
 obtain ⟨d,l,k,rfl,rfl,hd,q⟩:=h
 cases ry
 obtain ⟨t,rfl⟩:=rx
 obtain ⟨lo,kvs,hD,hk⟩:=(I.hok d _ hd).1
 refine wpAny_in_of (knd:=intKind X.prog X.w) isI lo hD.mapOf ⟨.bl _,H,I.tok _,rfl,?_⟩
 rw[hk.zza]
 exact q
end
def zl4 (h:Heap) (v:Value) (x:Int × Value):Prop:=∃ a o n t,v=.ref a/\h.get? a=some o/\o.cls=.type "tuple" /\ o.data=.seq #[.int x.1 t,x.2] n
theorem zl4.keep (p:zl4 h v x) (k:∀ a o,v=.ref a->h.get? a=some o->h'.get? a=some o):zl4 h' v x:=by
 obtain ⟨a,o,n,t,rfl,e,r⟩:=p
 exact ⟨a,o,n,t,rfl,k a o rfl e,r⟩
noncomputable def zif (l:List (Int × Value)):List (Int × Value):=l.foldl (fun acc s=>stored acc s.1 s.2) []
theorem zpx (l:List (Int × Value)) (k:Int) (y:Value):(stored l k y).length<=l.length+1:=by
 unfold PySem.stored
 split
 ·rw[yab];ac_rfl
 ·simp
theorem zrx (l acc:List (Int × Value)):(l.foldl (fun acc s=>stored acc s.1 s.2) acc).length<=acc.length+l.length:=by
 induction l generalizing acc with
 | nil=>simp
 | cons s l ih =>
  rw[ybx]
  have:=ih (stored acc s.1 s.2)
  have:=zpx acc s.1 s.2
  rw[ybh]
  ac_rfl
section
variable {prog:Program} {w:World} {A:Around} {s:Shared} {R:Result->Shared->Prop}
theorem zuM {d it p:Addr} {its:List Value} {l:List (Int × Value)} {h₁:Heap} (hh:A.handled=none) (ndi:d≠it) (ndp:d≠p) (nip:it≠p) (len:its.length=l.length) (h64:its.length<1000)
  (hR:∀ h' tk,(∀ b o,b≠d->b≠it->h₁.get? b=some o->h'.get? b=some o)->h'.DictOf (intKind prog w) d (zif l)->R (.ok (.ret .none)) { s with heap:=h',toks:=tk }) :
  ∀ (k i:Nat) (h:Heap) (tk:Nat),its.length-i=k->i<=its.length->h.IsListIter it p i->h.IsList p its.toArray->(∀ j,j<its.length->zl4 h (its.getD j .none) (l.getD j (0,.none))) ->
   h.DictOf (intKind prog w) d (zif (l.take i))->(∀ b o,b≠d->b≠it->h₁.get? b=some o->h.get? b=some o) ->
   codeAny (model prog w) A (.builtin "dict.update.loop" ⟨[.ref d,.ref it,rawInt i,.none],[]⟩) R { s with heap:=h,toks:=tk }:=by
 intro k
 induction k with
 | zero =>
  intro i h tk hk hi hit hl hp hd hkeep
  have hin:i=its.length:=by ac_rfl
  refine codeAny_builtin zc8 ?_
  rw[Around.under_plainId za0 _]
  show wpAny _ A.in1 (pyNext (.ref it) >>= _) _ _ _
  refine wpAny_bind (wpAny_pyNext_list_end (s:={ s with heap:=h,toks:=tk }) (A:=A.in1) hh hit hl (by simp;ac_rfl) fun h' he=>?_)
  show wpAny _ _ (Builtin.Dict.addKeywords d [] >>= _) _ _ _
  refine wpAny_bind (wpAny_pure (wpAny_pure ?_))
  rw[hin,len,yci] at hd
  exact hR h' tk (fun b o b1 b2 e=>he b o b2 (hkeep b o b1 b2 e)) (zaT hd fun o e=>he d o ndi e)
 | succ k ih =>
  intro i h tk hk hi hit hl hp hd hkeep
  have hlt:i<its.length:=by ac_rfl
  obtain ⟨a,oa,n,t,ea,eo,oc,odt⟩:=hp i hlt
  have hx:its[i]?=some (.ref a):=by
   rw[yad,yaa hlt] at ea
   rw[yaa hlt]
   exact congrArg some ea
  refine codeAny_builtin zc8 ?_
  rw[Around.under_plainId za0 _]
  show wpAny _ A.in1 (pyNext (.ref it) >>= _) _ _ _
  refine wpAny_bind (wpAny_pyNext_list_item (s:={ s with heap:=h,toks:=tk }) (A:=A.in1) hit hl (x:=.ref a) (by simpa using hx) fun h' hit' sb=>?_)
  have ait:a≠it:=fun z=>by
   obtain ⟨o,ho,hc,_⟩:=hit
   rw[z,ho] at eo
   cases eo
   rw[hc] at oc
   exact absurd oc (by decide)
  have eo':h'.get? a=some oa:=(sb.2 a ait).trans eo
  have hT:({ s with heap:=h',toks:=tk }:Shared).TypeIs (.ref a) "tuple" := ⟨oa,eo',oc⟩
  have hd':h'.DictOf (intKind prog w) d (zif (l.take i)):=zaT hd fun o e=>(sb.2 d ndi).trans e
  show wpAny _ _ (holding [Value.ref a] _ >>= _) _ _ _
  refine wpAny_bind (wpAny_holding ?_)
  refine wpAny_bind (wpAny_tryCatch ?_)
  unfold Builtin.Dict.pairItems
  refine wpAny_bind (wpAny_typeOf hT ?_)
  rw[if_pos (by decide)]
  refine wpAny_bind (wpAny_seqItems eo' odt ?_)
  refine wpAny_pure ?_
  show wpAny _ _ (holding [Value.int (l.getD i (0,.none)).1 t,(l.getD i (0,.none)).2] (dictSet d (Value.int (l.getD i (0,.none)).1 t) (l.getD i (0,.none)).2)) _ _ _
  refine wpAny_holding ?_
  have fl:=zrx (l.take i) []
  rw[yaz] at fl
  refine wpAny_dictSet_pairs (knd:=intKind prog w) (k:=(l.getD i (0,.none)).1) (by first | exact Value.isInt_int _ _ | (simp[intKind,Value.isInt];done) | exact beq_self_eq_true _) hd' (fun h2 hd2 sb2=>?_) (by rw[sizeLine_eq];unfold zif;simp at fl;ac_rfl)
  refine wpAny_pure ⟨plainId_quiet za0 _,?_⟩
  have k2:∀ b o,b≠d->b≠it->h.get? b=some o->h2.get? b=some o:=fun b o b1 b2 e=>(sb2.2 b b1).trans ((sb.2 b b2).trans e)
  refine ih (i+1) h2 _ (by ac_rfl) (by ac_rfl) (hit'.at fun o e=>(sb2.2 it ndi.symm).trans e) ?_ (fun j hj=>(hp j hj).keep fun b o eb e=>k2 b o ?_ ?_ e) ?_ fun b o b1 b2 e=>k2 b o b1 b2 (hkeep b o b1 b2 e)
  ·obtain ⟨o,e,r⟩:=hl
   exact ⟨o,k2 p o ndp.symm nip.symm e,r⟩
  ·intro z
   obtain ⟨b',o',n',t',e1,e2,e3,_⟩:=hp j hj
   rw[eb] at e1
   cases e1
   obtain ⟨od,es,ep,ho,hc,_⟩:=id hd
   rw[z,ho] at e2
   cases e2
   rw[hc.1] at e3
   exact absurd e3 (by decide)
  ·intro z
   obtain ⟨b',o',n',t',e1,e2,e3,_⟩:=hp j hj
   rw[eb] at e1
   cases e1
   obtain ⟨oi,ho,hc,_⟩:=id hit
   rw[z,ho] at e2
   cases e2
   rw[hc] at e3
   exact absurd e3 (by decide)
  ·have tk:l.take (i+1)=l.take i++[l.getD i (0,.none)]:=by
    rw[ybc,yaa (by ac_rfl),yad,yaa (by ac_rfl)]
    rfl
   have:zif (l.take (i+1))=stored (zif (l.take i)) (l.getD i (0,.none)).1 (l.getD i (0,.none)).2:=by
    unfold zif
    rw[tk,ycu]
    rfl
   rw[this]
   exact hd2
theorem zob {E:Value->Shared->Prop} {p:Addr} {its:List Value} {n:Nat} {l:List (Int × Value)} {Q:Value->Shared->Prop} (hh:A.handled=none) (hl:s.heap.get? p=some { cls:=.type "list", dict:=none,data:=.seq its.toArray n,slots:=#[] }) (len:its.length=l.length) (h64:its.length<1000)
  (hp:∀ j,j<its.length->zl4 s.heap (its.getD j .none) (l.getD j (0,.none)))
  (h:∀ h' tk,(∀ b o,s.heap.get? b=some o->h'.get? b=some o)->h'.DictOf (intKind prog w) s.heap.objs.size (zif l)->Q (.ref s.heap.objs.size) { s with heap:=h',toks:=tk }) :
  wpAny (model prog w) A (call (.type "dict") [.ref p]) Q E s:=by
 have hlt:p<s.heap.objs.size:=ydn hl
 refine callType_codes (Q₁:=fun obj s₁=>obj=.ref s.heap.objs.size/\s₁={ s with heap:=s.heap.push { cls:=.type "dict", data:=.dict #[] } }) F.kt_called_dict (F.kt_typeCall_dict_1 _) F.entry_dict_init (kt_code_dict_new _ ⟨rfl,rfl⟩) ?_
 rintro obj s₁ ⟨rfl,rfl⟩
 have hnew:(s.heap.push { cls:=.type "dict", data:=.dict #[] }).DictOf (intKind prog w) s.heap.objs.size []:=Heap.DictOf.new s.heap
 have hl1:(s.heap.push { cls:=.type "dict", data:=.dict #[] }).get? p=some { cls:=.type "list", dict:=none,data:=.seq its.toArray n,slots:=#[] }:=ydm _ hl
 refine ⟨hnew.typeIs,F.args_dict_init_2 _ _,?_⟩
 unfold Builtin.«dict.__init__»
 refine wpAny_bind ?_
 unfold Builtin.Dict.selfAndRest
 refine wpAny_bind (wpAny_notOrdered_dict hnew.typeIs ?_)
 show wpAny _ _ (pure (s.heap.objs.size,[Value.ref p])) _ _ _
 refine wpAny_pure ?_
 show wpAny _ _ (Builtin.Dict.updateFrom "dict.__init__" s.heap.objs.size (.ref p) [] .none) _ _ _
 unfold Builtin.Dict.updateFrom
 refine wpAny_bind (wpAny_typeOf (T:="list") ⟨_,hl1,rfl⟩ ?_)
 rw[if_pos (by decide)]
 refine wpAny_bind (zlo (s:={ s with heap:=s.heap.push { cls:=.type "dict", data:=.dict #[] } }) hl1 hh fun h2 tk2 k2=>?_)
 rw[if_pos (show (none:Option Value).isNone=true from rfl)]
 refine wpAny_bind (wpAny_rule ?_)
 have hl2:=k2 p _ hl1
 have hd2:=zaT (h':=h2) hnew fun o e=>k2 _ o e
 have lt2:s.heap.objs.size<h2.objs.size:=by
  obtain ⟨o,es,ep,e,_⟩:=hd2
  exact ydn e
 have hlL:h2.IsList p its.toArray:=⟨_,hl2,rfl,n,rfl⟩
 refine wpAny_bind (wpAny_pyIter_list hlL ?_)
 refine wpAny_pure ⟨plainId_quiet za0 _,?_⟩
 refine zuM (s:=s) (A:=A.in1) (h₁:=h2) (d:=s.heap.objs.size) (it:=h2.objs.size) (p:=p) (its:=its) (l:=l) hh (ycy lt2) (ydi hlt) (ydi (ydh hlt lt2)) len h64 (fun h' tk kp hd'=>?_)
  its.length 0 _ tk2 (Nat.sub_zero _) (yda _) ⟨_,ydo _ rfl,rfl,rfl⟩ (hlL.push _) (fun j hj=>(hp j hj).keep fun a o _ e=>ydm _ (k2 a o (ydm _ e))) (zaT hd2 fun o e=>ydm _ e) fun b o b1 b2 e=>ydm _ e
 refine ⟨rfl,h h' tk (fun b o e=>kp b o (ycy (ydn e)) (ycy (ydh (ydn e) lt2)) (k2 b o (ydm _ e))) hd'⟩
end
noncomputable def zwU (K:W.Frag) (H:Hp):List V->List (Int × V)->Prop:=LL fun v s=>∃ t,v=.ref t/\H t=some (.tup [.int s.1,s.2])
theorem KU.fold (h:KU us l):∀ {acc:List (Int × Value)} {acl:List (Int × V)},KU acc acl->KU (us.foldl (fun acc s=>PySem.stored acc s.1 s.2) acc) (l.foldl (fun acc s=>za2 acc s.1 s.2) acl):=by
 induction h with
 | nil=>exact fun h=>h
 | cons r _ ih=>exact fun h=>ih (h.stored r)
section
variable {X:Cx} {pins:List (Addr × Obj)} {σ:St} {H:Hp} {s:Shared}
theorem znS (I:Inv X pins σ H s):∀ {vs:List V} {l:List (Int × V)} {its:List Value},zwU X.K H vs l->Vals vs its->∃ us:List (Int × Value),KU us l/\its.length=us.length/\∀ i,i<its.length->zl4 s.heap (its.getD i .none) (us.getD i (0,.none))
 | _,_,_,.nil,.nil=>⟨[],.nil,rfl,fun i hi=>absurd hi (Nat.not_lt_zero _)⟩
 | _,_,_,.cons (e:=e) h t,.cons r rs=>by
  obtain ⟨us,k,len,hp⟩:=znS I t rs
  obtain ⟨a,rfl,ea⟩:=h
  cases r
  obtain ⟨ts,tv,tp,_⟩:=I.tuple (SqT.of ea)
  cases tv with
  | cons t1 tv =>
   cases tv with
   | @cons _ u2 _ _ t2 tv =>
    cases tv
    obtain ⟨t,rfl⟩:=t1
    obtain ⟨o,eo,oc,n,od⟩:=(show s.heap.IsTuple a _ from tp)
    refine ⟨(e.1,u2)::us,.cons t2 k,by simp[len],fun i hi=>?_⟩
    cases i with
    | zero=>exact ⟨a,o,n,t,rfl,eo,oc,od⟩
    | succ i =>
     have:=hp i (by simpa using hi)
     simpa using this
theorem zsw (hc:X.calm=true):zbG X (.type "dict") (fun xs H Q=>∃ (p:Addr) (vs:List V) (l:List (Int × V)),xs=[.ref p]/\H p=some (.lst vs)/\zwU X.K H vs l/\l.length<1000 /\
  ∀ (d:Addr),H d=none->Q (.ref d) (upd H d (zaV X.prog X.w d (ztL l)))):=by
 intro pins s σ H xs us Q I r h
 obtain ⟨p,vs,l,rfl,hp,hR,hl,q⟩:=h
 obtain ⟨u,rfl,rx⟩:=vals1 r
 cases rx
 obtain ⟨z,its,n,rv,e'⟩:=(show zar X.prog X.w H s.heap p (.lst vs) from I.hok p _ hp)
 obtain ⟨us,ku,len,pr⟩:=znS I hR rv
 have kl:=ku.length
 have big:sysModules<s.heap.objs.size:=ydh (by decide) (show mainGlobals<s.heap.objs.size from (I.mod.glob.keeps I.bk).lt)
 have lo:(s.heap.objs.size == sysModules)=false:=beq_eq_false_iff_ne.mpr (Ne.symm (ycy big))
 refine zob (I.ok.hd hc) e' len (by ac_rfl) pr fun h' tk kp hd=>?_
 exact ⟨.ref s.heap.objs.size,_,I.laid (o:=zaV X.prog X.w s.heap.objs.size (ztL l)) kp (ycx _) (zm2 lo hd (ku.fold .nil)),rfl,q _ (I.hok.fresh (ycx _))⟩
end
section
variable {X:Cx} {o e f:Expr} {apos cpos:Pos} {td ty tx:TE}
theorem zkn (P:Program) (w:World) (ho:PE X o td) (he:PE X e ty) (hf:PE X f tx) (hb:attributeBase o "get" X.env (eval o X.env)=eval o X.env:=by rfl)
  (few:((backTo cpos (starEach [e,f] X.env)).all (fun x=>!x.1) && (backToKw cpos (keywordEach [] X.env)).all (fun x=>x.1.isSome)
   && decide (([e,f]:List Expr).length+([]:List Keyword).length+(if ([]:List Keyword).isEmpty then 0 else 1)<30))=true:=by rfl)
  (line:(apos.endLine == cpos.line)=true:=by rfl) (trees:backTo cpos (starEach [e,f] X.env)=[(false,eval e X.env),(false,eval f X.env)]:=by rfl) (hP:X.prog=P:=by rfl) (hw:X.w=w:=by rfl):PE X (.Call (.Attribute o "get" apos) [e,f] [] cpos) (zw0 P w td ty tx):=by
 subst hP hw
 exact zml ho he hf hb few line trees
end
section
variable {X:Cx} {e k:Expr} {te:TE} {p2 pos:Pos} {lo hi:Option Expr} {tl th:TO}
end
noncomputable def zch (P:Program) (w:World) (d:Addr) (l:List (Int × Int)) (ep:Nat):HO:=.ext fun h=>(d == sysModules)=false/\∃ kvs,h.DictAt (intKind P w) d kvs ep/\KR kvs l
section
variable {X:Cx} {pins:List (Addr × Obj)} {σ:St} {H:Hp} {s:Shared} {o i e f value:Expr} {pos pos' apos cpos:Pos} {td ty tx tv:TE}
theorem zq1 (lo:(d == sysModules)=false) (hd:h.DictAt (intKind P w) d kvs ep) (hk:KR kvs l):zar P w H h d (zch P w d l ep) :=
 ⟨⟨lo,kvs,hd,hk⟩,(let ⟨o,_,e,_⟩:=hd;⟨o,e⟩),fun h1 h2 ⟨lo',kv,x,y⟩ e=>⟨lo',kv,Heap.DictAt.at' x e,y⟩⟩
def zyp (P:Program) (w:World):TE:=fun _ H Q=>∀ p ep,H p=none->Q (.ref p) (upd H p (zch P w p [] ep))
theorem zwx:PE X (.Dict [] [] pos) (zyp X.prog X.w):=fun pins s σ H Q I h=>by
 have big:sysModules<s.heap.objs.size:=ydh (by decide) (show mainGlobals<s.heap.objs.size from (I.mod.glob.keeps I.bk).lt)
 obtain ⟨ep,hd⟩:=(Heap.DictOf.new (knd:=intKind X.prog X.w) s.heap).dictAt
 have new:zar X.prog X.w (upd H s.heap.objs.size (zch X.prog X.w s.heap.objs.size [] ep)) (s.heap.push { cls:=.type "dict", data:=.dict #[] }) s.heap.objs.size (zch X.prog X.w s.heap.objs.size [] ep) :=
  zq1 (beq_eq_false_iff_ne.mpr (Ne.symm (ycy big))) hd .nil
 exact wpAny_Dict_empty ⟨.ref s.heap.objs.size,_,I.laid (t':=s.toks) (fun _ _ q=>ydm _ q) (ycx _) new,rfl,h _ _ (I.hok.fresh (ycx _))⟩
def zyV (P:Program) (w:World) (td ty tx:TE):TE:=fun σ H Q=>td σ H fun x H1=>∃ (d:Addr) (l:List (Int × Int)) (ep:Nat),x=.ref d/\H1 d=some (zch P w d l ep)/\ty σ H1 fun y H2=>tx σ H2 fun z H3=>∃ (k:Int),y=.int k/\H3 d=some (zch P w d l ep)/\Q (((lkI l k).map V.int).getD z) H3
theorem zjE (ho:PE X o td) (he:PE X e ty) (hf:PE X f tx) (hb:attributeBase o "get" X.env (eval o X.env)=eval o X.env:=by rfl)
  (few:((backTo cpos (starEach [e,f] X.env)).all (fun x=>!x.1) && (backToKw cpos (keywordEach [] X.env)).all (fun x=>x.1.isSome)
   && decide (([e,f]:List Expr).length+([]:List Keyword).length+(if ([]:List Keyword).isEmpty then 0 else 1)<30))=true:=by rfl)
  (line:(apos.endLine == cpos.line)=true:=by rfl) (trees:backTo cpos (starEach [e,f] X.env)=[(false,eval e X.env),(false,eval f X.env)]:=by rfl):PE X (.Call (.Attribute o "get" apos) [e,f] [] cpos) (zyV X.prog X.w td ty tx):=by
 intro pins s σ H Q I h
 refine wpAny_Call_method hb few line PySem.F.plainAttrs_dict PySem.F.slot_dict_get PySem.F.type_dict_get (thn (ho pins s σ H _ I h) fun u s1 ⟨x,H1,I1,rx,d,l,ep,ex,hd,q1⟩=>?_)
 subst ex
 obtain rfl:u=Value.ref d:=rx
 obtain ⟨lo,kvs,hD,hk⟩:=(I1.hok d _ hd).1
 refine ⟨hD.dictOf.typeIs,hD.dictOf.mapOf.noDict,?_⟩
 rw[trees]
 refine Calls.callWith_builtin rfl (Calls.evalArgs_plain (Calls.spliced_cons (thn (he pins s1 σ H1 _ I1 q1) fun iv s2 ⟨y,H2,I2,ry,q2⟩ =>
  Calls.spliced_cons (thn (hf pins s2 σ H2 _ I2 q2) fun fv s3 ⟨z,H3,I3,rz,k,ek,hd3,q3⟩=>Calls.spliced_nil ?_))))
 subst ek
 obtain ⟨t,rfl⟩:=ry
 obtain ⟨lo3,kvs3,hD3,hk3⟩:=(I3.hok d _ hd3).1
 exact call_meetsIn PySem.F.slot_dict_get hD3.dictOf.typeIs PySem.F.entry_dict_get (PySem.F.args_dict_get_3 _ _ _) (meets_dict_get_default (intKind X.prog X.w) d isI lo3 fv) ⟨_,hD3.dictOf.mapOf,_,H3,I3.tok _,hk3.look rz,q3⟩
def zy6 (P:Program) (w:World) (td ty tv:TE):TS:=fun D σ H=>tv σ H fun v H1=>td σ H1 fun x H2=>ty σ H2 fun y H3=>∃ (d:Addr) (l:List (Int × Int)) (k n:Int) (ep:Nat),x=.ref d/\y=.int k/\v=.int n/\H3 d=some (zch P w d l ep)/\l.length<=1000/\∀ ep',D.nx σ (upd H3 d (zch P w d (zav l k n) ep'))
theorem zxU (ho:PE X o td) (hi:PE X i ty) (hv:PE X value tv) (hs:swapsWith value (some (.Subscript o i pos')) pos.line X.env=pure false:=by rfl):PS X (.Assign [.Subscript o i pos'] value pos) (zy6 X.prog X.w td ty tv):=by
 intro pins s σ H D I h
 refine wpAny_Assign_Subscript (thn (hv pins s σ H _ I h) fun r s1 ⟨v,H1,I1,rv,q1⟩=>thn (ho pins s1 σ H1 _ I1 q1) fun u s2 ⟨x,H2,I2,rx,q2⟩=>thn (hi pins s2 σ H2 _ I2 q2) fun iv s3 ⟨y,H3,I3,ry,d,l,k,n,ep,ex,ey,ev,hd,hl,q3⟩=>?_) hs
 subst ex ey ev
 obtain rfl:u=Value.ref d:=rx
 obtain ⟨t,rfl⟩:=ry
 obtain ⟨t',rfl⟩:=rv
 obtain ⟨lo,kvs,hD,hk⟩:=(I3.hok d _ hd).1
 have sz:=sizeLine_eq
 refine wpAny_setItem_pairs (knd:=intKind X.prog X.w) (k:=k) (hsz:=by rw[hk.length];ac_rfl) isI hD.dictOf fun h' hD' hs'=>?_
 obtain ⟨ep',hA'⟩:=hD'.dictAt
 have he:∃ q,h'.get? d=some q:=let ⟨q,_,hq,_⟩:=hA';⟨q,hq⟩
 exact ⟨σ,_,I3.write (x:=d) (e:=d) (by rw[hd];exact True.intro) (.inl rfl) (fun b q hb z=>(hs'.2 b hb).trans z) he (zq1 lo hA' hk.stored),q3 ep'⟩
end
section
variable {X:Cx}
end
noncomputable def Cx.zbD (X:Cx) (sc:Scope) (x y0 y1:Str) (ix:List Nat) (b:Blk):Cx where
 prog:=X.prog
 w:=X.w
 K:=X.K
 mg:=X.mg
 base:=X.base
 A:=X.A
 N:=x::y0::y1::ix.map fun i=>X.N.getD i x
 s₀:=b.s
 H₀:=b.H
 env:=compEnvC sc (zbF sc X.env) b.C X.env
 outer:=X.stack
 stack:=X.stack
 ex:=b.ex
 fn:=fun _=>false
 calm:=X.calm
 pn:=b.pn
 xe:=fun _ _=>False
structure zjN (X:Cx) (sc:Scope) (x y0 y1:Str) (ix:List Nat):Prop where
 clos:closureFor sc X.env=pure (zbF sc X.env)
 cell:∀ y∈sc.names,y.2≠.cell
 kind:sc.kind=.function
 names:∀ y∈sc.names,y.2=.local->sc.names.lookup y.1=some .local
 var:sc.names.lookup x=some .local
 var2:sc.names.lookup y0=some .local
 var3:sc.names.lookup y1=some .local
 nd:(x::y0::y1::ix.map fun i=>X.N.getD i x).Nodup
 cap:zjD X sc x ix
 sub:zl3 X.env.cells (zbF sc X.env)
 has:zmb (zbF sc X.env) (relabel sc X.env).names
section
variable {X:Cx} {pins:List (Addr × Obj)} {σ:St} {H:Hp} {s:Shared} {sc:Scope} {x y0 y1:Str} {ix:List Nat} {fp:List Addr}
theorem zuX (I:Inv X pins σ H s) (O:zjN X sc x y0 y1 ix) (hf:∀ b∈fp,zbr X pins H b) (hx:∀ b∈fp,∃ o,s.heap.get? b=some o):(X.zbD sc x y0 y1 ix ⟨s.heap.objs.size,s,H,X.pn++pins,fp⟩).Ok where
 mod:=I.ok.mod
 kind:=O.kind
 glob:=I.ok.glob
 blt:=I.ok.blt
 above:=ycx _
 inj:=fun y z c h1 h2=>I.ok.inj y z c (O.sub.get y c h1) (O.sub.get z c h2)
 has:=fun y h=>by
  have h':(relabel sc X.env).names.lookup y=some .cell\/(relabel sc X.env).names.lookup y=some .free:=h
  rcases h' with h' | h'
  ·exact O.has.get _ (PySem.mem_of_lookup h') (.inl rfl)
  ·exact O.has.get _ (PySem.mem_of_lookup h') (.inr rfl)
 cab:=fun _ _ h=>absurd (show false=true from h) Bool.false_ne_true
 hd:=I.ok.hd
 frames:=I.ok.frames
 stk:=.inl rfl
 exf:=fun b hb=>by
  obtain ⟨o,e⟩:=hx b hb
  exact ⟨ycy (ydn e),fun y c h=>(hf b hb).2.2.2.2.1 y c (O.sub.get y c h)⟩
 bs:=I.bs
 bsz:=ydc I.ok.bsz I.sz
 noex:=fun b o e hb=>by
  rcases (hf b hb).2.2.2.1 with z | z
  ·exact I.ok.noex b o e z
  ·exact absurd (ydb (ydn e) (ydc I.ok.bsz z)) (ydd _)
 exfs:=fun b hb z=>(yal.mp (I.zeL b z)).elim (hf b hb).2.1 (hf b hb).2.2.1
 funs:=I.stack
 frf:=I.zoC
theorem zuj (I:Inv X pins σ H s) (O:zjN X sc x y0 y1 ix) (hf:∀ b∈fp,zbr X pins H b) (hx:∀ b∈fp,∃ o,s.heap.get? b=some o)
  (hn:h₁.Ns s.heap.objs.size m) (keep:∀ b o,s.heap.get? b=some o->h₁.get? b=some o) :
  Inv (X.zbD sc x y0 y1 ix ⟨s.heap.objs.size,s,H,X.pn++pins,fp⟩) [] (none::none::none::capts σ ix) H { s with heap:=h₁,toks:=tk }:=by
 refine ⟨zuX I O hf hx,rfl,I.bare,Un.kept keep,⟨m,hn,fun i y v e1 e2 _=>?_⟩,fun y c h=>?_,I.hok.fresh (ycx _),fun y c h=>I.freeC y c (O.sub.get y c h),fun p hp=>?_,I.hok.kept keep,?_⟩
 ·cases i with
  | zero=>cases e2
  | succ j' =>
   cases j' with
   | zero=>cases e2
   | succ j'' =>
   cases j'' with
   | zero=>cases e2
   | succ j =>
   have e1':(ix.map fun i=>X.N.getD i x)[j]?=some y:=e1
   have e2':(capts σ ix)[j]?=some (some v):=e2
   unfold capts at e2'
   rw[yai] at e1' e2'
   cases q:ix[j]? with
   | none=>rw[q] at e1';cases e1'
   | some i =>
    rw[q] at e1' e2'
    have e3:X.N.getD i x=y:=Option.some.inj e1'
    have e4:σ.getD i none=some v:=Option.some.inj e2'
    obtain ⟨c1,c2,c3⟩:=O.cap.get i (yah q)
    rw[e3] at c1 c2 c3
    have e5:σ[i]?=some (some v):=by
     rw[yad] at e4
     cases z:σ[i]? with
     | none=>rw[z] at e4;cases e4
     | some a=>rw[z] at e4;exact congrArg some e4
    have hl:i<X.N.length:=by
     rw[<-I.len]
     exact (yac.mp e5).1
    have e6:X.N[i]?=some y:=by
     rw[yad,yaa hl] at e3
     rw[yaa hl]
     exact congrArg some e3
    obtain ⟨m0,_,l0⟩:=I.loc
    have vis:Vis X.env.scope y:=by
     rcases c1 with z | z
     ·exact .inr (.inl z)
     ·exact .inr (.inr z)
    obtain ⟨u,ru,lu⟩:=l0 i y v e6 e5 vis
    refine ⟨u,ru,?_⟩
    rcases lu with ⟨k,_⟩ | ⟨_,c,hc,o,ho,hd⟩
    ·rcases c1 with z | z
     ·rw[z] at k;cases k
     ·rw[z] at k;cases k
    ·exact .inr ⟨c2,c,c3.trans hc,o,keep c o ho,hd⟩
 ·obtain ⟨v,o,ho,hd⟩:=I.cell y c (O.sub.get y c h)
  exact ⟨v,o,keep c o ho,hd⟩
 ·have hp':p∈X.pn++pins:=by
   rcases yae.mp hp with z | z
   ·exact z
   ·cases z
  obtain ⟨e,n,ne,nf,d⟩:=I.pin p hp'
  exact ⟨keep _ _ e,n,ycy (ydn e),fun z=>(yal.mp (I.zeL _ z)).elim ne nf,d⟩
 ·show (none::none::none::capts σ ix).length=(x::y0::y1::ix.map fun i=>X.N.getD i x).length
  simp[capts]
theorem zs5 (I:Inv X pins σ H s) (hf:∀ b∈fp,zbr X pins H b) (J:Inv (X.zbD sc x y0 y1 ix ⟨s.heap.objs.size,s,H,X.pn++pins,fp⟩) pins' σ' H' s'):Inv X pins σ H' s' :=
 I.call' J.os J.base J.hok J.bare fun b hb=>⟨(hf b hb).2.2.2.1,(hf b hb).2.1,(hf b hb).2.2.2.2.1,(hf b hb).2.2.2.2.2⟩
end
def zns (K0:W.Frag) (ix:List Nat) (tt:TT) (te:TE) (σ:St) (J:It) (l:Addr) (R:Hp->Prop) (W:Nat->Nat->List V->Hp->Prop):Prop :=
 ∀ i m xs H',W i m xs H'->H' l=some (.lst xs)/\((J.stop i H'/\R H')\/(J.go i H'/\xs.length<sizeLine/\∀ x H2,J.yld i H' x H2->∃ p v1 v2 v3,x=.ref p/\SqT K0 H2 p [v1,v2,v3] /\
  tt (some v1::some v2::some v3::capts σ ix) H2 fun b H3=>if b=true then te (some v1::some v2::some v3::capts σ ix) H3 fun v H4=>H4 l=some (.lst xs)/\∃ m',m'<m/\W (i+1) m' (xs++[v]) (upd H4 l (.lst (xs++[v]))) else ∃ m',m'<m/\W (i+1) m' xs H3))
def zqn (K0:W.Frag) (ix:List Nat) (wi:TI) (tt:TT) (te:TE):TE:=fun σ H Q=>wi σ H fun J H1=>∀ l,H1 l=none->∃ W:Nat->Nat->List V->Hp->Prop,(∃ m,W 0 m [] (upd H1 l (.lst [])))/\zns K0 ix tt te σ J l (Q (.ref l)) W
section
variable {X:Cx} {pins:List (Addr × Obj)} {σ:St} {H:Hp} {s:Shared} {sc:Scope} {x y0 y1:Str} {ix:List Nat} {fp:List Addr} {elt iter c:Expr} {te:TE} {tt:TT} {wi:TI} {px py0 py1 pt0 pos:Pos} {kt0:Nat}
theorem zlt (O:zjN X sc x y0 y1 ix) (htt:∀ b,PT (X.zbD sc x y0 y1 ix b) c tt) (hel:∀ b,PE (X.zbD sc x y0 y1 ix b) elt te) (hc:X.calm=true)
  (I:Inv X pins σ H s) (T:Turn X.prog X.w X.K (.Tuple [.Name x px,.Name y0 py0,.Name y1 py1] kt0 pt0) J fp it tn) (st:tn 0 s.heap) (hf:∀ b∈fp,zbr X pins H b) (R:Addr->Hp->Prop)
  (h:∀ l,H l=none->∃ W:Nat->Nat->List V->Hp->Prop,(∃ m,W 0 m [] (upd H l (.lst [])))/\zns X.K ix tt te σ J l (R l) W)
  (fin:∀ l C m s' H',Inv X pins σ H' s'->s'.heap.Ns C m->zbr X pins H' C->R l H'->compPost (model X.prog X.w) X.A E use Q (.ref l) C (.ok .next) s') :
  wpAny (model X.prog X.w) X.A (newList []) (fun acc s₃=>wpAny (model X.prog X.w) X.A (newFunctionEnv sc X.env.globals (zbF sc X.env) [] X.env.qual none .none (some X.env)) (fun cenv s₄ =>
   codeAny (model X.prog X.w) X.A (.compStart (.ListComp elt [⟨.Tuple [.Name x px,.Name y0 py0,.Name y1 py1] kt0 pt0,iter,[c],0⟩] sc pos) 0 (.ref it) acc { cenv with scope:=relabel sc X.env }) (compPost (model X.prog X.w) X.A E use Q acc cenv.locals) s₄) E s₃) E s:=by
 refine wpAny_newObj_type (wpAny_newFunctionEnv O.cell (by intro y hy;simp at hy) (fun h₁ hns hsb=>?_) O.kind)
 dsimp only at hns hsb ⊢
 have hl0:H s.heap.objs.size=none:=I.hok.fresh (ycx _)
 obtain ⟨W,⟨m0,w0⟩,tr⟩:=h s.heap.objs.size hl0
 have I3:Inv X pins σ (upd H s.heap.objs.size (.lst [])) { s with heap:=s.heap.push { cls:=.type "list", dict:=none,data:=.seq ([]:List Value).toArray } } :=
  I.laid (t':=s.toks) (fun b o e=>ydm _ e) (ycx _) ⟨yda _,[],0,.nil,ydo _ rfl⟩
 have ofp:∀ b∈fp,∃ o,s.heap.get? b=some o:=fun b hb=>by
  obtain ⟨o,e,_⟩:=T.obj 0 _ st b hb
  exact ⟨o,e⟩
 generalize e3:s.heap.push { cls:=.type "list", dict:=none,data:=.seq ([]:List Value).toArray }=G at I3 hns hsb ⊢
 have ofp3:∀ b∈fp,∃ o,G.get? b=some o:=fun b hb=>by
  obtain ⟨o,e⟩:=ofp b hb
  exact ⟨o,by rw[<-e3];exact ydm _ e⟩
 have nl:∀ b∈fp,b≠s.heap.objs.size:=fun b hb=>by
  obtain ⟨o,e⟩:=ofp b hb
  exact ycy (ydn e)
 have hf3:∀ b∈fp,zbr X pins (upd H s.heap.objs.size (.lst [])) b:=fun b hb=>⟨by rw[zr (nl b hb)];exact (hf b hb).1,(hf b hb).2⟩
 have keep3:∀ b o,G.get? b=some o->h₁.get? b=some o:=fun b o e=>hsb.extBut b o (ycy (ydn e)) (ydm _ e)
 have stk:tn 0 h₁:=T.keep _ _ _ st fun b hb o e=>keep3 b o (by rw[<-e3];exact ydm _ e)
 have J0:=zuj (tk:=s.toks+([]:List (Str × Value)).length) I3 O hf3 ofp3 hns keep3
 have stat:∀ {H':Hp},(∀ b∈fp,H' b=none)->∀ b∈fp,zbr (X.zbD sc x y0 y1 ix ⟨G.objs.size,{ s with heap:=G },upd H s.heap.objs.size (.lst []),X.pn++pins,fp⟩) [] H' b:=fun hn b hb=>by
  obtain ⟨o,e⟩:=ofp3 b hb
  refine ⟨hn b hb,ycy (ydn e),fun z=>(yal.mp (I3.zeL _ z)).elim (hf b hb).2.1 (hf b hb).2.2.1,.inl hb,fun y c q=>(hf b hb).2.2.2.2.1 y c (O.sub.get y c q),fun p hp=>?_⟩
  have hp':p∈X.pn++pins:=by
   rcases yae.mp hp with z | z
   ·exact z
   ·cases z
  exact (hf b hb).2.2.2.2.2 p hp'
 have loop:∀ s4:Shared,s4={ s with heap:=h₁,toks:=s.toks+([]:List (Str × Value)).length } ->
   codeAny (model X.prog X.w) X.A (.compLoop (.ListComp elt [⟨.Tuple [.Name x px,.Name y0 py0,.Name y1 py1] kt0 pt0,iter,[c],0⟩] sc pos) 0 (.ref it) (.ref s.heap.objs.size) (compEnvC sc (zbF sc X.env) G.objs.size X.env))
    (compPost (model X.prog X.w) X.A E use Q (.ref s.heap.objs.size) G.objs.size) s4:=by
  rintro s4 rfl
  refine zlg (fun n s'=>∃ i xs H' z z' z'',Inv (X.zbD sc x y0 y1 ix ⟨G.objs.size,{ s with heap:=G },upd H s.heap.objs.size (.lst []),X.pn++pins,fp⟩) [] (z::z'::z''::capts σ ix) H' s'/\tn i s'.heap/\(∀ b∈fp,H' b=none)/\W i n xs H') ?_ m0
   ⟨0,[],_,none,none,none,J0,stk,fun b hb=>(hf3 b hb).1,w0⟩
  rintro n s5 ⟨i,xs,H5,z,z',z'',I5,st5,fr5,w5⟩
  obtain ⟨hl5,h5⟩:=tr i n xs H5 w5
  rcases h5 with ⟨stop,r5⟩ | ⟨go,hz,step⟩
  ·refine thn (T.done (X.zbD sc x y0 y1 ix ⟨G.objs.size,{ s with heap:=G },upd H s.heap.objs.size (.lst []),X.pn++pins,fp⟩) rfl rfl rfl hc i [] s5 _ H5 _ I5 (stat fr5) st5 stop) fun r s6 ⟨hr,I6⟩=>?_
   subst hr
   obtain ⟨m6,hn6,_⟩:=I6.loc
   refine fin _ _ m6 s6 H5 (zs5 I3 hf3 I6) hn6 ?_ r5
   exact I3.zrL (ycx _) I6.free
  ·refine thn (T.item (X.zbD sc x y0 y1 ix ⟨G.objs.size,{ s with heap:=G },upd H s.heap.objs.size (.lst []),X.pn++pins,fp⟩) rfl rfl rfl hc i [] s5 _ H5 _ I5 (stat fr5) st5 go) fun r s6 ⟨u,hr,h6⟩=>?_
   subst hr
   refine thn h6 fun _ s7 ⟨y,H7,I7,r7,y7,st7,fr7⟩=>?_
   have I7':=I7.pinned (stat fr7) (T.obj _ _ st7)
   have lx:(relabel sc X.env).names.lookup x=some .local:=lookup_relabel_local O.var
   have ly:(relabel sc X.env).names.lookup y0=some .local:=lookup_relabel_local O.var2
   have lz:(relabel sc X.env).names.lookup y1=some .local:=lookup_relabel_local O.var3
   obtain ⟨tp,v1,v2,v3,ey,hT,step⟩:=step y H7 y7
   refine thn ((zeh hc (zV (zI (i:=0) O.nd rfl (Or.inl lx) (Or.inr lx)) (zV (zI (i:=1) O.nd rfl (Or.inl ly) (Or.inr ly)) (zV (zI (i:=2) O.nd rfl (Or.inl lz) (Or.inr lz)) zc3))):PG (X.zbD sc x y0 y1 ix ⟨G.objs.size,{ s with heap:=G },upd H s.heap.objs.size (.lst []),X.pn++pins,fp⟩) (.Tuple [.Name x px,.Name y0 py0,.Name y1 py1] kt0 pt0) (zyq X.K 3 (zqg (zdh 0) (zqg (zdh 1) (zqg (zdh 2) zyd))))) _ s7 _ H7 y u (fun σ' H'=>σ'=some v1::some v2::some v3::capts σ ix/\H'=H7) I7' r7 ⟨tp,[v1,v2,v3],ey,hT,rfl,_,_,rfl,_,_,rfl,_,_,rfl,rfl,rfl,rfl⟩) fun _ s8 ⟨σ8,H8,I8,e8,e8'⟩=>?_
   subst e8 e8'
   refine thn (htt _ _ s8 _ H8 _ I8 step) fun b s9 ⟨H9,I9,q9⟩=>?_
   have kp:∀ {σ0:St} {H0:Hp} {s0:Shared},Inv (X.zbD sc x y0 y1 ix ⟨G.objs.size,{ s with heap:=G },upd H s.heap.objs.size (.lst []),X.pn++pins,fp⟩) ([]++zjz fp s7.heap) σ0 H0 s0->tn (i+1) s0.heap/\∀ b∈fp,H0 b=none:=fun {σ0 H0 s0} I0=>by
    refine ⟨T.keep _ _ _ st7 fun b hb o e=>(I0.pin (b,o) (yaj _ (yaj _ (zbQ hb e)))).1,fun b hb=>?_⟩
    obtain ⟨o,e,d⟩:=T.obj _ _ st7 b hb
    exact (I0.pin (b,o) (yaj _ (yaj _ (zbQ hb e)))).2.1
   cases b with
   | false =>
    rw[if_neg Bool.false_ne_true] at q9 ⊢
    obtain ⟨m',hm,w9⟩:=q9
    exact ⟨m',hm,i+1,xs,_,some v1,some v2,some v3,I9.unpinned,(kp I9).1,(kp I9).2,w9⟩
   | true =>
    rw[if_pos rfl] at q9 ⊢
    refine thn (hel _ _ s9 _ H9 _ I9 q9) fun v9 s10 ⟨v,H10,I10,r10,hl10,m',hm,w10⟩=>?_
    refine thn (zaJ _ s10 _ H10 (.ref s.heap.objs.size) [v] (.ref s.heap.objs.size) [v9] (fun _ H'=>H'=upd H10 s.heap.objs.size (.lst (xs++[v]))) I10 rfl (.cons r10 .nil) ⟨_,xs,v,rfl,rfl,hl10,hz,rfl⟩) fun _ s11 ⟨_,H11,I11,_,e11⟩=>?_
    subst e11
    exact ⟨m',hm,i+1,xs++[v],_,some v1,some v2,some v3,I11.unpinned,(kp I11).1,(kp I11).2,w10⟩
 exact codeAny_compStart_list (loop _ rfl) (T.self _ 0 _ _ _ stk (loop _ rfl))
theorem ztZ (O:zjN X sc x y0 y1 ix) (hi:PI X (.Tuple [.Name x px,.Name y0 py0,.Name y1 py1] kt0 pt0) iter wi) (htt:∀ b,PT (X.zbD sc x y0 y1 ix b) c tt) (hel:∀ b,PE (X.zbD sc x y0 y1 ix b) elt te) (hc:X.calm=true:=by rfl) (hs:∀ v,foldedSetIterable iter X.env v=pure v:=by intro _;rfl) :
  PE X (.ListComp elt [⟨.Tuple [.Name x px,.Name y0 py0,.Name y1 py1] kt0 pt0,iter,[c],0⟩] sc pos) (zqn X.K ix wi tt te):=by
 intro pins s σ H Q I h
 rw[eval_ListComp]
 refine wpAny_comprehension_free (use:=none) rfl hs O.clos O.kind O.names (thn (hi pins s σ H _ I h) fun xv s1 h1=>thn h1 fun itv s2 h2=>?_)
 obtain ⟨it,fp,tn,J,H2,e,I2,T,st2,f2,hq⟩:=h2
 subst e
 refine zlt O htt hel hc I2 T st2 f2 (fun l H'=>Q (.ref l) H') hq ?_
 intro l C m s' H' I' hn hf r
 refine ⟨m,hn,fun h' hb=>⟨.ref l,H',?_,rfl,r⟩⟩
 exact I'.turned (t':=s'.toks) (fun b o hne e=>hb.extBut b o hne e) hf.1 hf.2.1 hf.2.2.2.1 hf.2.2.2.2.1 hf.2.2.2.2.2
theorem znW (hN:X.N.Nodup) (hiy:X.N[i]?=some y) (hy:X.env.scope.names.lookup y=some .local) (O:zjN X sc x y0 y1 ix) (hi:PI X (.Tuple [.Name x px,.Name y0 py0,.Name y1 py1] kt0 pt0) iter wi) (htt:∀ b,PT (X.zbD sc x y0 y1 ix b) c tt) (hel:∀ b,PE (X.zbD sc x y0 y1 ix b) elt te)
  (hc:X.calm=true:=by rfl) (hs:∀ v,foldedSetIterable iter X.env v=pure v:=by intro _;rfl) (hsw:swapsWith (.ListComp elt [⟨.Tuple [.Name x px,.Name y0 py0,.Name y1 py1] kt0 pt0,iter,[c],0⟩] sc pos) (some (.Name y py)) spos.line X.env=pure true:=by rfl) :
  PS X (.Assign [.Name y py] (.ListComp elt [⟨.Tuple [.Name x px,.Name y0 py0,.Name y1 py1] kt0 pt0,iter,[c],0⟩] sc pos) spos) (zqU (zqn X.K ix wi tt te) (zdh i)):=by
 intro pins s σ H D I h
 rw[exec_Assign_Name_used _ _ _ _ hsw]
 refine wpAny_bind (wpAny_standAt (wpAny_bind ?_))
 show wpAny _ X.A (do let _ <-comprehension (.ListComp elt [⟨.Tuple [.Name x px,.Name y0 py0,.Name y1 py1] kt0 pt0,iter,[c],0⟩] sc pos) sc X.env _ (newList []) false (eval iter X.env) (some (assign (.Name y py) X.env))) _ _ s
 refine wpAny_bind (wpAny_mono (wpAny_comprehension_free (use:=some (assign (.Name y py) X.env)) (Q:=fun _ s'=>SP X pins D .next s') rfl hs O.clos O.kind O.names
  (thn (hi pins s σ H _ I h) fun xv s1 h1=>thn h1 fun itv s2 h2=>?_)) (fun _ s' hq=>wpAny_pure (wpAny_pure hq)) fun _ _ e=>e)
 obtain ⟨it,fp,tn,J,H2,e,I2,T,st2,f2,hq⟩:=h2
 subst e
 refine zlt O htt hel hc I2 T st2 f2 (fun l H'=>D.nx (σ.set i (some (.ref l))) H') hq ?_
 intro l C m s' H' I' hn hf r
 obtain ⟨o,es,ep,ho,hd,hr⟩:=id hn
 have Ip:=I'.addpin ho hf.1 hf.2.1 hf.2.2.1 (by intro v z;rw[hd] at z;cases z)
 refine thn ((zI (i:=i) hN hiy (Or.inl hy) (Or.inr hy):PG X (.Name y py) (zdh i)) _ s' σ H' (.ref l) (.ref l) (fun σ' H''=>σ'=σ.set i (some (.ref l))/\H''=H') Ip rfl ⟨rfl,rfl⟩) fun _ s'' ⟨σ'',H'',I'',e1,e2⟩=>?_
 subst e1 e2
 have pc:=(I''.pin (C,o) (yaj _ (yaj _ yap))).1
 refine ⟨m,⟨o,es,ep,pc,hd,hr⟩,fun h' hb=>⟨_,_,?_,r⟩⟩
 exact I''.unpinned.turned (t':=s''.toks) (fun b o hne e=>hb.extBut b o hne e) hf.1 hf.2.1 hf.2.2.2.1 hf.2.2.2.2.1 hf.2.2.2.2.2
end
theorem zlc (Y:zjJ J H xs) (hl:H l=none) (hz:xs.length<=sizeLine) (es:List α) (len:es.length=xs.length)
  (pr:α->V × V × V) (items:∀ (i:Nat) x e,xs[i]?=some x->es[i]?=some e->∃ p,x=.ref p/\H p=some (.tup [(pr e).1,(pr e).2.1,(pr e).2.2]))
  (f:α->Bool) (P:Hp->V->α->Prop) (mono:∀ v e H1 H2,Same H1 H2->P H1 v e->P H2 v e) (put:∀ v e H1 ys zs,H1 l=some (.lst ys)->P H1 v e->P (upd H1 l (.lst zs)) v e)
  (ht:∀ e H' Q',e∈es->Same H H'->(∀ H2,Same H' H2->Q' (f e) H2)->tt (some (pr e).1::some (pr e).2.1::some (pr e).2.2::capts σ ix) H' Q')
  (he:∀ e H' Q',e∈es->f e=true->Same H H'->(∀ v H2,Same H' H2->P H2 v e->Q' v H2)->te (some (pr e).1::some (pr e).2.1::some (pr e).2.2::capts σ ix) H' Q')
  (fin:∀ ys H',Same H H'->H' l=some (.lst ys)->LL (P H') ys (es.filter f)->R H') :
  ∃ W:Nat->Nat->List V->Hp->Prop,(∃ m,W 0 m [] (upd H l (.lst [])))/\zns K0 ix tt te σ J l R W:=by
 refine ⟨fun i m ys H'=>m=xs.length-i/\i<=xs.length/\LL (P H') ys ((es.take i).filter f)/\Same H H'/\H' l=some (.lst ys),⟨xs.length,by simp,yda _,by simp;exact .nil,zf hl _,zh⟩,?_⟩
 rintro i m ys H' ⟨rfl,hi,hy,sH,hL⟩
 refine ⟨hL,?_⟩
 by_cases hlt:i<xs.length
 ·have yl:ys.length<=i:=by
   rw[hy.length]
   exact ydc (yay _ _) (by rw[yaz];ac_rfl)
  have eP:es[i]?=some (es[i]'(by ac_rfl)):=yaa (by ac_rfl)
  generalize es[i]'(by ac_rfl)=e at eP
  have em:e∈es:=yah eP
  have tk:es.take (i+1)=es.take i++[e]:=by rw[ybc,eP];rfl
  refine .inr ⟨Y.go i H' sH hlt,by ac_rfl,fun x H2 y=>?_⟩
  obtain ⟨rfl,e2⟩:=Y.yld i H' x H2 sH y
  obtain ⟨p,rfl,hp⟩:=items i x e e2 eP
  refine ⟨p,_,_,_,rfl,SqT.of (sH _ _ hp),?_⟩
  refine ht e _ _ em sH fun H3 s3=>?_
  cases b:f e with
  | true =>
   rw[if_pos rfl]
   refine he e _ _ em b (sH.trans s3) fun v H4 s4 pv=>?_
   have hL4:=s4 _ _ (s3 _ _ hL)
   refine ⟨hL4,xs.length-(i+1),by ac_rfl,rfl,hlt,?_,zJ (sH.trans (s3.trans s4)) hl,zh⟩
   rw[tk,ybd,yau b]
   exact ((hy.imp fun v e q=>put v e H4 ys _ hL4 (mono v e _ _ (s3.trans s4) q)).push (put v e H4 ys _ hL4 pv))
  | false =>
   rw[if_neg Bool.false_ne_true]
   refine ⟨xs.length-(i+1),by ac_rfl,rfl,hlt,?_,sH.trans s3,s3 _ _ hL⟩
   rw[tk,ybd,yav (by rw[b];decide)]
   simpa using hy.imp fun v e q=>mono v e _ _ s3 q
 ·rw[yaw (by ac_rfl)] at hy
  exact .inl ⟨Y.stop i H' sH (by ac_rfl),fin ys H' sH hL hy⟩
end L2
namespace Sby
open L2
noncomputable abbrev Pl:=List (Int × Int)
noncomputable def sm (l:Pl) (k:Int):Int:=((l.filter fun p=>p.1=k).map (·.2)).sum
theorem zto (l:Pl) (k x j:Int):sm (l++[(k,x)]) j=sm l j+if k=j then x else 0:=by
 unfold sm
 rw[ybd,yar,List.sum_append]
 by_cases e:k=j
 ·rw[if_pos e,yau (by simpa using e)];simp
 ·rw[if_neg e,yav (by simpa using e)];simp
theorem ze1 (h:k ∉ l.map (·.1)):sm l k=0:=by
 unfold sm
 rw[ych.mpr]
 ·rfl
 ·intro p hp e
  exact h (yag.mpr ⟨p,hp,by simpa using e⟩)
structure Tot (acc l:Pl):Prop where
 nd:(acc.map (·.1)).Nodup
 mem:∀ k,k∈acc.map (·.1)↔k∈l.map (·.1)
 val:∀ p∈acc,p.2=sm l p.1
theorem Tot.nil:Tot [] []:=⟨.nil,fun k=>Iff.rfl,fun p hp=>by cases hp⟩
theorem Tot.look (T:Tot acc l) (k:Int):((lkI acc k).map V.int).getD (.int 0)=.int (sm l k):=by
 unfold lkI
 cases e:acc.find? (fun p=>p.1=k) with
 | none =>
  have:k ∉ acc.map (·.1):=fun hm=>by
   obtain ⟨p,hp,ep⟩:=yag.mp hm
   have:=ycr.mp e p hp
   exact this (by simpa using ep)
  rw[ze1 (fun z=>this ((T.mem k).mpr z))]
  rfl
 | some p =>
  have hp:=ycm e
  have ep:p.1=k:=by simpa using List.find?_some e
  have:=T.val p hp
  rw[ep] at this
  rw[<-this]
  rfl
theorem Tot.step (T:Tot acc l) (k x:Int):Tot (zav acc k (sm l k+x)) (l++[(k,x)]):=by
 have keys:∀ y:Int,(acc.map (fun p=>if p.1=k then (p.1,y) else p)).map (·.1)=acc.map (·.1):=fun y=>by
  rw[ybl]
  apply yco
  intro p _
  show (if p.1=k then (p.1,y) else p).1=p.1
  split <;> rfl
 have lk:∀ j,j∈(l++[(k,x)]).map (·.1)↔j∈l.map (·.1)\/j=k:=fun j=>by simp[eq_comm]
 unfold zav
 split
 ·rename_i ha
  have hk:k∈acc.map (·.1):=by
   obtain ⟨p,hp,e⟩:=yca.mp ha
   exact yag.mpr ⟨p,hp,by simpa using e⟩
  refine ⟨by rw[keys];exact T.nd,fun j=>?_,fun p hp=>?_⟩
  ·rw[keys,lk,T.mem]
   refine ⟨.inl,fun h=>h.elim id fun e=>?_⟩
   rw[e];exact (T.mem k).mp hk
  ·obtain ⟨q,hq,rfl⟩:=yag.mp hp
   have v:=T.val q hq
   rw[zto]
   by_cases e:q.1=k
   ·rw[if_pos e]
    show sm l k+x=sm l q.1+if k=q.1 then x else 0
    rw[if_pos e.symm,e]
   ·rw[if_neg e,if_neg (fun z=>e z.symm),v]
    ac_rfl
 ·rename_i ha
  have hk:k ∉ acc.map (·.1):=fun hm=>by
   obtain ⟨p,hp,e⟩:=yag.mp hm
   exact ha (yca.mpr ⟨p,hp,by simpa using e⟩)
  refine ⟨?_,fun j=>?_,fun p hp=>?_⟩
  ·rw[yar]
   refine ycd.mpr ⟨T.nd,by simp,?_⟩
   intro a ha' b hb
   have:b=k:=by simpa using hb
   intro z
   rw[z,this] at ha'
   exact hk ha'
  ·rw[lk,yar,yae,T.mem]
   simp
  ·rw[zto]
   rcases yae.mp hp with hp | hp
   ·have ne:k≠p.1:=fun z=>hk (by rw[z];exact yag.mpr ⟨p,hp,rfl⟩)
    rw[if_neg ne,T.val p hp]
    ac_rfl
   ·obtain rfl:p=(k,sm l k+x):=by simpa using hp
    rw[if_pos rfl]
structure Tab (r l:Pl):Prop where
 up:(r.map (·.1)).Pairwise (·<·)
 mem:∀ k,k∈r.map (·.1)↔k∈l.map (·.1)
 val:∀ p∈r,p.2=sm l p.1
theorem zub {ns:List Int} (nd:ns.Nodup) (up:ns.Pairwise (·<=·)):ns.Pairwise (·<·):=by
 induction ns with
 | nil=>exact .nil
 | cons n ns ih =>
  obtain ⟨n1,n2⟩:=ybr.mp nd
  obtain ⟨u1,u2⟩:=ybr.mp up
  refine ybr.mpr ⟨fun a ha=>?_,ih n2 u2⟩
  have:=u1 a ha
  have:=n1 a ha
  ac_rfl
theorem zem {ns:List Int} (up:ns.Pairwise (·<·)):ns.Nodup:=up.imp fun h=>by ac_rfl
theorem Tot.tab (T:Tot acc l) (P:r.Perm acc) (S:r.Pairwise fun s t=>s.1<=t.1):Tab r l:=by
 have pk:=P.map (·.1)
 refine ⟨zub (pk.nodup_iff.mpr T.nd) (ybp.mpr S),fun k=>(pk.mem_iff).trans (T.mem k),fun p hp=>T.val p (P.mem_iff.mp hp)⟩
end Sby
namespace L2
open PySem
noncomputable abbrev Er:=Ek × Int × Int
def isW (w:Str) (e:Er):Bool:=decide (V.str e.1.word=V.str w)
noncomputable def prs (w:Str) (es:List Er):List (Int × Int):=(es.filter (isW w)).map (·.2)
noncomputable def dys (w:Str) (es:List Er):List Int:=(es.filter (isW w)).map (·.2.1)
noncomputable def EL (K:W.Frag) (H:Hp):List V->List Er->Prop:=LL fun v e=>∃ a dx,v=.ref a/\zeO K H a dx e.1 e.2.1 e.2.2
noncomputable def RL (H:Hp):List V->List Er->Prop:=LL fun v e=>∃ t,v=.ref t/\H t=some (.tup (zm7 e.1 e.2.1 e.2.2))
theorem EL.same (h:EL K H vs es) (s:Same H H'):EL K H' vs es:=LL.imp (fun v e ⟨a,dx,e1,e2⟩=>⟨a,dx,e1,s _ _ e2⟩) h
theorem RL.same (h:RL H vs es) (s:Same H H'):RL H' vs es:=LL.imp (fun v e ⟨t,e1,e2⟩=>⟨t,e1,s _ _ e2⟩) h
def AmW (w:Str):Prop:=w = "out" \/ w = "fee" \/ w = "pay" \/ w = "due"
theorem amt {w:Str} {k:Ek} {d x:Int} (hw:AmW w) (h:isW w (k,d,x)=true):yby ("amount" : Str) (znf k d x)=some (V.int x)/\atI (zm7 k d x) 2=some (.int x):=by
 have e:k.word=w:=V.str.inj (of_decide_eq_true h)
 subst e
 rcases hw with hw | hw | hw | hw <;> (cases k <;> first | exact ⟨rfl,rfl⟩ | (exfalso;revert hw;decide))
theorem zmf {K:W.Frag} {H:Hp} {ys:List V} {gs:List Er} (h:LL (fun v e=>∃ t,v=.ref t/\H t=some (.tup [.int e.2.1,.int e.2.2])) ys gs):zH K H ys (gs.map (·.2)):=by
 induction h with
 | nil=>exact .nil
 | cons h _ ih =>
  obtain ⟨t,rfl,ht⟩:=h
  exact .cons ht ih
structure Days (ns ds:List Int):Prop where
 up:ns.Pairwise (·<·)
 mem:∀ d,d∈ns↔d∈ds
theorem Days.of (nd:ms.Nodup) (mem:∀ d,d∈ms↔d∈ds) (pm:ns.Perm ms) (up:ns.Pairwise (·<=·)):Days ns ds:=⟨Sby.zub (pm.nodup_iff.mpr nd) up,fun d=>pm.mem_iff.trans (mem d)⟩
theorem ztc:(dys w es).length<=es.length:=by
 unfold dys
 rw[yab]
 exact yay _ _
end L2
namespace L2
open PySem
theorem zyk {a b:Int} {r:Int} (h0:0<=r) (h1:r<2):∃ m,atI [V.int a,.int b] r=some (.int m)/\(m=a\/m=b):=by
 have:r=((0:Nat):Int)\/r=((1:Nat):Int):=by ac_rfl
 rcases this with rfl | rfl
 ·exact ⟨a,zaw rfl,.inl rfl⟩
 ·exact ⟨b,zaw rfl,.inr rfl⟩
end L2
namespace L2
open PySem
theorem zqN {a b c:Int} {r:Int} (h0:0<=r) (h1:r<3):∃ m,atI [V.int a,.int b,.int c] r=some (.int m)/\(m=a\/m=b\/m=c):=by
 have:r=((0:Nat):Int)\/r=((1:Nat):Int)\/r=((2:Nat):Int):=by ac_rfl
 rcases this with rfl | rfl | rfl
 ·exact ⟨a,zaw rfl,.inl rfl⟩
 ·exact ⟨b,zaw rfl,.inr (.inl rfl)⟩
 ·exact ⟨c,zaw rfl,.inr (.inr rfl)⟩
end L2
namespace L2
open PySem
end L2
namespace L2
open PySem
end L2
namespace L2
open PySem
theorem LL.of:∀ {vs:List V} {es:List α},vs.length=es.length->(∀ (j:Nat) v,vs[j]?=some v->∃ e,es[j]?=some e/\R v e)->LL R vs es
 | [],[],_,_=>.nil
 | [],_::_,h,_=>by simp at h
 | _::_,[],h,_=>by simp at h
 | v::vs,e::es,h,p=>by
  obtain ⟨e',he,hr⟩:=p 0 v rfl
  cases he
  exact .cons hr (LL.of (by simpa using h) fun j w hw=>p (j+1) w hw)
end L2
namespace Spans
noncomputable abbrev Sp:=List (Int × Int)
def Cov (l:Sp) (d:Int):Prop:=∃ s∈l,s.1<=d/\d<s.2
structure Joined (l:Sp):Prop where
 up:∀ s∈l,s.1<s.2
 apart:l.Pairwise fun s t=>s.2<t.1
theorem zlZ:¬ Cov [] d:=fun ⟨_,h,_⟩=>by cases h
theorem zrK:Cov (s::l) d↔(s.1<=d/\d<s.2)\/Cov l d:=by
 constructor
 ·rintro ⟨t,ht,h⟩
  rcases yal.mp ht with rfl | ht
  ·exact .inl h
  ·exact .inr ⟨t,ht,h⟩
 ·rintro (h | ⟨t,ht,h⟩)
  ·exact ⟨s,yap,h⟩
  ·exact ⟨t,yam _ ht,h⟩
theorem zce:Cov (a++b) d↔Cov a d\/Cov b d:=by
 constructor
 ·rintro ⟨t,ht,h⟩
  rcases yae.mp ht with ht | ht
  ·exact .inl ⟨t,ht,h⟩
  ·exact .inr ⟨t,ht,h⟩
 ·rintro (⟨t,ht,h⟩ | ⟨t,ht,h⟩)
  ·exact ⟨t,ybq _ ht,h⟩
  ·exact ⟨t,yaj _ ht,h⟩
def isIn (l:Sp) (d:Int):Bool:=l.any fun s=>decide (s.1<=d) && decide (d<s.2)
theorem za9:isIn l d=true↔Cov l d:=by
 unfold isIn
 rw[yca]
 constructor
 ·rintro ⟨s,hs,h⟩
  simp only[Bool.and_eq_true,decide_eq_true_eq] at h
  exact ⟨s,hs,h⟩
 ·rintro ⟨s,hs,h⟩
  exact ⟨s,hs,by simp only[Bool.and_eq_true,decide_eq_true_eq];exact h⟩
noncomputable def step (l:Sp) (st:Sp × Int) (e:Int):Sp × Int :=
 let f:=if isIn l e && !isIn l (e-1) then e else st.2
 (if isIn l e then st.1 else st.1++[(f,e)],f)
def least (l:Sp) (es:List Int):Sp:=(es.foldl (step l) ([],0)).1
structure Edges (l:Sp) (es:List Int):Prop where
 up:es.Pairwise (·<·)
 mem:∀ d,d∈es↔∃ s∈l,d=s.1\/d=s.2
theorem ztv (ab:a<=b) (h:∀ s∈l,∀ d,a<d->d<=b->d≠s.1/\d≠s.2):Cov l a↔Cov l b:=by
 constructor
 ·rintro ⟨s,hs,h1,h2⟩
  refine ⟨s,hs,by ac_rfl,?_⟩
  refine Int.not_le.mp fun le=>?_
  exact (h s hs s.2 h2 le).2 rfl
 ·rintro ⟨s,hs,h1,h2⟩
  refine ⟨s,hs,?_,by ac_rfl⟩
  refine Int.not_lt.mp fun lt=>?_
  exact (h s hs s.1 lt h1).1 rfl
structure Upto (l:Sp) (e:Int) (st:Sp × Int):Prop where
 j:Joined st.1
 out:¬ Cov l e->(∀ d,d<=e->(Cov st.1 d↔Cov l d))/\∀ s∈st.1,s.2<=e
 in_:Cov l e->(∀ d,Cov st.1 d↔Cov l d/\d<st.2)/\st.2<=e/\(∀ d,st.2<=d->d<=e->Cov l d)/\¬ Cov l (st.2-1)/\∀ s∈st.1,s.2<st.2
theorem zj5 (h:¬ Cov l d):isIn l d=false:=by
 cases q:isIn l d with
 | false=>rfl
 | true=>exact absurd (za9.mp q) h
theorem Upto.next (U:Upto l e st) (ok:∀ s∈l,s.1<s.2) (lt:e<e') (no:∀ s∈l,∀ d,e<d->d<e'->d≠s.1/\d≠s.2) (ed:∃ s∈l,e'=s.1\/e'=s.2):Upto l e' (step l st e'):=by
 have con:∀ d,e<=d->d<e'->(Cov l e↔Cov l d):=fun d h1 h2=>ztv h1 fun s hs d' g1 g2=>no s hs d' g1 (by ac_rfl)
 have bef:Cov l e↔Cov l (e'-1):=con _ (by ac_rfl) (by ac_rfl)
 unfold step
 dsimp only
 by_cases c':Cov l e'
 ·rw[za9.mpr c']
  by_cases c:Cov l e
  ·rw[za9.mpr (bef.mp c)]
   obtain ⟨h1,h2,h3,h4,h5⟩:=U.in_ c
   refine ⟨U.j,fun q=>absurd c' q,fun _=>⟨h1,by show st.2<=e';ac_rfl,fun d g1 g2=>?_,h4,h5⟩⟩
   by_cases q:d<=e
   ·exact h3 d g1 q
   ·by_cases z:d=e'
    ·rw[z];exact c'
    ·exact (con d (by ac_rfl) (by ac_rfl)).mp c
  ·rw[zj5 fun q=>c (bef.mpr q)]
   obtain ⟨h1,h2⟩:=U.out c
   refine ⟨U.j,fun q=>absurd c' q,fun _=>⟨fun d=>?_,ydv _,fun d g1 g2=>?_,fun q=>c (bef.mpr q),fun s hs=>?_⟩⟩
   ·show Cov st.1 d↔Cov l d/\d<e'
    by_cases q:d<=e
    ·rw[h1 d q]
     exact ⟨fun z=>⟨z,by ac_rfl⟩,fun z=>z.1⟩
    ·constructor
     ·rintro ⟨s,hs,_,g⟩
      have:=h2 s hs
      ac_rfl
     ·rintro ⟨g1,g2⟩
      exact absurd ((con d (by ac_rfl) g2).mpr g1) c
   ·have g1':e'<=d:=g1
    have:d=e':=by ac_rfl
    rw[this];exact c'
   ·have:=h2 s hs
    show s.2<e'
    ac_rfl
 ·rw[zj5 c']
  have c:Cov l e:=by
   obtain ⟨s,hs,q | q⟩:=ed
   ·exact absurd ⟨s,hs,by ac_rfl,by have:=ok s hs;ac_rfl⟩ c'
   ·exact bef.mpr ⟨s,hs,by have:=ok s hs;ac_rfl,by ac_rfl⟩
  obtain ⟨h1,h2,h3,h4,h5⟩:=U.in_ c
  simp only[Bool.false_and,Bool.false_eq_true,if_false]
  refine ⟨⟨fun s hs=>?_,?_⟩,fun _=>⟨fun d g=>?_,fun s hs=>?_⟩,fun q=>absurd q c'⟩
  ·rcases yae.mp hs with hs | hs
   ·exact U.j.up s hs
   ·have:s=(st.2,e'):=by simpa using hs
    rw[this]
    show st.2<e'
    ac_rfl
  ·refine ybe.mpr ⟨U.j.apart,ybo _ _,fun s hs t ht=>?_⟩
   have:t=(st.2,e'):=by simpa using ht
   rw[this]
   exact h5 s hs
  ·rw[zce,h1 d,zrK]
   constructor
   ·rintro (q | q | q)
    ·exact q.1
    ·have q1:st.2<=d:=q.1
     have q2:d<e':=q.2
     by_cases z:d<=e
     ·exact h3 d q1 z
     ·exact (con d (by ac_rfl) q2).mp c
    ·exact absurd q zlZ
   ·intro q
    have ne:d≠e':=fun z=>c' (z ▸ q)
    by_cases z:d<st.2
    ·exact .inl ⟨q,z⟩
    ·exact .inr (.inl ⟨by show st.2<=d;ac_rfl,by show d<e';ac_rfl⟩)
  ·rcases yae.mp hs with hs | hs
   ·have:=h5 s hs
    ac_rfl
   ·have:s=(st.2,e'):=by simpa using hs
    rw[this]
    exact ydv _
theorem zpe (ok:∀ s∈l,s.1<s.2):∀ (es:List Int) (e:Int) (st:Sp × Int),Upto l e st->es.Pairwise (·<·)->(∀ d∈es,e<d)->(∀ s∈l,∀ d,d=s.1\/d=s.2->e<d->d∈es)->(∀ d∈es,∃ s∈l,d=s.1\/d=s.2) ->
  ∃ e',Upto l e' (es.foldl (step l) st)/\∀ s∈l,s.1<=e'/\s.2<=e'
 | [],e,st,U,_,_,all,_=>⟨e,U,fun s hs=>⟨Int.not_lt.mp fun lt=>(by cases all s hs s.1 (.inl rfl) lt),Int.not_lt.mp fun lt=>(by cases all s hs s.2 (.inr rfl) lt)⟩⟩
 | x::es,e,st,U,up,ab,all,ed=>by
  obtain ⟨u1,u2⟩:=ybr.mp up
  refine zpe ok es x _ (U.next ok (ab x yap) (fun s hs d g1 g2=>?_) (ed x yap)) u2 u1 (fun s hs d q lt=>?_) fun d hd=>ed d (yam _ hd)
  ·have key:∀ d,(d=s.1\/d=s.2)->e<d->d<x->False:=fun d q g1 g2=>by
    rcases yal.mp (all s hs d q g1) with z | z
    ·ac_rfl
    ·have:=u1 d z;ac_rfl
   exact ⟨fun z=>key d (.inl z) g1 g2,fun z=>key d (.inr z) g1 g2⟩
  ·rcases yal.mp (all s hs d q (by have:=ab x yap;ac_rfl)) with z | z
   ·ac_rfl
   ·exact z
theorem zwF (ok:∀ s∈l,s.1<s.2) (E:Edges l es):Joined (least l es)/\∀ d,Cov (least l es) d↔Cov l d:=by
 have bot:∃ e:Int,∀ d∈es,e<d:=by
  cases es with
  | nil=>exact ⟨0,fun d hd=>by cases hd⟩
  | cons x r=>exact ⟨x-1,fun d hd=>by
    rcases yal.mp hd with rfl | hd
    ·ac_rfl
    ·have:=(ybr.mp E.up).1 d hd;ac_rfl⟩
 obtain ⟨e,he⟩:=bot
 have none_:∀ d,d<=e->¬ Cov l d:=fun d hd ⟨s,hs,h1,_⟩=>by
  have:=he s.1 ((E.mem _).mpr ⟨s,hs,.inl rfl⟩)
  ac_rfl
 have U0:Upto l e ([],0):=⟨⟨fun s hs=>(by cases hs),List.Pairwise.nil⟩,fun _=>⟨fun d hd=>⟨fun q=>absurd q zlZ,fun q=>absurd q (none_ d hd)⟩,fun s hs=>by cases hs⟩,fun q=>absurd q (none_ e (ydv _))⟩
 obtain ⟨e',U,top⟩:=zpe ok es e ([],0) U0 E.up he (fun s hs d q _=>(E.mem d).mpr ⟨s,hs,q⟩) fun d hd=>(E.mem d).mp hd
 have nc:¬ Cov l e':=fun ⟨s,hs,_,h2⟩=>by have:=(top s hs).2;ac_rfl
 obtain ⟨h1,h2⟩:=U.out nc
 refine ⟨U.j,fun d=>?_⟩
 by_cases q:d<=e'
 ·exact h1 d q
 ·constructor
  ·rintro ⟨s,hs,_,g⟩
   have:=h2 s hs
   ac_rfl
  ·rintro ⟨s,hs,_,g⟩
   have:=(top s hs).2
   ac_rfl
end Spans
namespace Sums
noncomputable def S (f:Int->Int) (a:Int):Nat->Int
 | 0=>0
 | n+1=>S f a n+f (a+n)
noncomputable def sum (f:Int->Int) (a b:Int):Int:=S f a (b-a).toNat
theorem zyE (h:b<=a):sum f a b=0:=by
 unfold sum
 rw[show (b-a).toNat=0 by ac_rfl]
 rfl
theorem zqq (f:Int->Int) (a:Int) (n:Nat):∀ m,S f a (n+m)=S f a n+S f (a+n) m
 | 0=>by simp[S]
 | m+1=>by
  show S f a (n+m)+f (a+((n+m:Nat):Int))=S f a n+(S f (a+n) m+f (a+n+m))
  rw[zqq f a n m,show a+((n+m:Nat):Int)=a+n+m by ac_rfl]
  ac_rfl
theorem sum_add (h1:a<=c) (h2:c<=b):sum f a b=sum f a c+sum f c b:=by
 unfold sum
 rw[show (b-a).toNat=(c-a).toNat+(b-c).toNat by ac_rfl,zqq,show a+((c-a).toNat:Int)=c by ac_rfl]
theorem ztA {f g:Int->Int} {a:Int}:∀ (n:Nat),(∀ d,a<=d->d<a+n->f d=g d)->S f a n=S g a n
 | 0,_=>rfl
 | n+1,h=>by
  show S f a n+f (a+n)=S g a n+g (a+n)
  rw[ztA n fun d h1 h2=>h d h1 (by ac_rfl),h (a+n) (by ac_rfl) (by ac_rfl)]
theorem zpa {f g:Int->Int} {a b:Int} (h:∀ d,a<=d->d<b->f d=g d):sum f a b=sum g a b:=ztA _ fun d h1 h2=>h d h1 (by ac_rfl)
theorem zw2 (c:Int) (f:Int->Int) (a:Int):∀ n,S (fun d=>c*f d) a n=c*S f a n
 | 0=>by simp[S]
 | n+1=>by
  show S (fun d=>c*f d) a n+c*f (a+n)=c*(S f a n+f (a+n))
  rw[zw2 c f a n,Int.mul_add]
theorem zxv (c:Int) (f:Int->Int) (a b:Int):sum (fun d=>c*f d) a b=c*sum f a b:=zw2 c f a _
theorem zuQ (a:Int):∀ n,S (fun _=>0) a n=0
 | 0=>rfl
 | n+1=>by show S (fun _=>0) a n+0=0;rw[zuQ a n];rfl
theorem zwS {U:Int->Int} {a:Int}:∀ n:Nat,S (fun d=>U (d+1)-U d) a n=U (a+n)-U a
 | 0=>by simp[S]
 | n+1=>by
  show S (fun d=>U (d+1)-U d) a n+(U (a+n+1)-U (a+n))=_
  rw[zwS n,show a+((n+1:Nat):Int)=a+n+1 by ac_rfl]
  ac_rfl
theorem zxe {U:Int->Int} {a b:Int} (h:a<=b):sum (fun d=>U (d+1)-U d) a b=U b-U a:=by
 unfold sum
 rw[zwS,show a+((b-a).toNat:Int)=b by ac_rfl]
theorem zwE {U v:Int->Int} {a b c:Int} (h:a<=b) (hv:∀ d,a<=d->d<b->v d=c):sum (fun d=>(U (d+1)-U d)*v d) a b=(U b-U a)*c:=by
 rw[zpa (g:=fun d=>c*(U (d+1)-U d)) fun d h1 h2=>by rw[hv d h1 h2,Int.mul_comm],zxv,zxe h,Int.mul_comm]
noncomputable abbrev Tab:=List (Int × Int)
def Val (t:Tab) (d v:Int):Prop:=(v=0/\∀ r∈t,d<r.1)\/∃ i:Nat,∃ b:Int,t[i]?=some (b,v)/\b<=d/\∀ (j:Nat) (r:Int × Int),t[j]?=some r->r.1<=d->r.1<b\/(r.1=b/\j<=i)
theorem Val.one (a:Val t d v) (b:Val t d u):v=u:=by
 rcases a with ⟨rfl,h⟩ | ⟨i,x,e,le,h⟩
 ·rcases b with ⟨rfl,_⟩ | ⟨j,y,e',le',_⟩
  ·rfl
  ·have:=h _ (yah e')
   dsimp only at this
   ac_rfl
 ·rcases b with ⟨rfl,g⟩ | ⟨j,y,e',le',g⟩
  ·have:=g _ (yah e)
   dsimp only at this
   ac_rfl
  ·have p:=h j _ e' le'
   have q:=g i _ e le
   dsimp only at p q
   have ij:i=j:=by ac_rfl
   subst ij
   rw[e] at e'
   cases e'
   rfl
noncomputable def vstep (d:Int) (st:Int × Int) (r:Int × Int):Int × Int:=if st.1<=r.1/\r.1<=d then r else st
noncomputable def valOf (t:Tab) (d:Int):Int:=(t.foldl (vstep d) (-1,0)).2
theorem zcO (h0:∀ r∈t,0<=r.1) (d:Int):Val t d (valOf t d):=by
 suffices q:∀ (pre rest:Tab) (st:Int × Int),pre++rest=t->((st=(-1,0)/\∀ r∈pre,d<r.1)\/∃ i:Nat,pre[i]?=some st/\st.1<=d/\∀ (j:Nat) (r:Int × Int),pre[j]?=some r->r.1<=d->r.1<st.1\/(r.1=st.1/\j<=i)) ->
   Val t d (rest.foldl (vstep d) st).2 from q [] t (-1,0) rfl (.inl ⟨rfl,fun r hr=>by cases hr⟩)
 intro pre rest
 induction rest generalizing pre with
 | nil =>
  intro st e h
  rw[ycs] at e
  subst e
  rcases h with ⟨rfl,h⟩ | ⟨i,e,le,h⟩
  ·exact .inl ⟨rfl,h⟩
  ·exact .inr ⟨i,st.1,e,le,h⟩
 | cons r rest ih =>
  intro st e h
  have hr:0<=r.1:=h0 r (by rw[<-e];simp)
  refine ih (pre++[r]) (vstep d st r) (by rw[yct];exact e) ?_
  have last:∀ (j:Nat) (x:Int × Int),(pre++[r])[j]?=some x->pre[j]?=some x\/(j=pre.length/\x=r):=fun j x hx=>by
   by_cases hj:j<pre.length
   ·rw[ybk hj] at hx
    exact .inl hx
   ·by_cases hj2:j=pre.length
    ·subst hj2
     rw[ybf (ycx _),ydl] at hx
     exact .inr ⟨rfl,(by cases hx;rfl)⟩
    ·rw[yaq (by rw[yaf,ybu];ac_rfl)] at hx
     cases hx
  unfold vstep
  by_cases c:st.1<=r.1/\r.1<=d
  ·rw[if_pos c]
   refine .inr ⟨pre.length,by rw[ybf (ycx _),ydl];rfl,c.2,fun j x hx hd=>?_⟩
   rcases last j x hx with hx | ⟨rfl,rfl⟩
   ·have hj:j<pre.length:=(yac.mp hx).1
    rcases h with ⟨_,h⟩ | ⟨i,_,_,h⟩
    ·have:=h x (yah hx)
     ac_rfl
    ·rcases h j x hx hd with z | z
     ·exact .inl (by ac_rfl)
     ·by_cases w:x.1=r.1
      ·exact .inr ⟨w,by ac_rfl⟩
      ·exact .inl (by ac_rfl)
   ·exact .inr ⟨rfl,ycx _⟩
  ·rw[if_neg c]
   rcases h with ⟨rfl,h⟩ | ⟨i,ei,le,h⟩
   ·refine .inl ⟨rfl,fun x hx=>?_⟩
    rcases yae.mp hx with hx | hx
    ·exact h x hx
    ·have:x=r:=by simpa using hx
     rw[this]
     exact Int.not_le.mp fun q=>c ⟨by show (-1:Int)<=r.1;ac_rfl,q⟩
   ·refine .inr ⟨i,?_,le,fun j x hx hd=>?_⟩
    ·rw[ybk (yac.mp ei).1];exact ei
    ·rcases last j x hx with hx | ⟨rfl,rfl⟩
     ·exact h j x hx hd
     ·exact .inl (Int.not_le.mp fun q=>c ⟨q,hd⟩)
end Sums
namespace Stills
open Spans Sums
theorem fold_same:∀ (t:Tab) (st:Int × Int),(∀ r∈t,(r.1<=x↔r.1<=y))->t.foldl (vstep x) st=t.foldl (vstep y) st
 | [],_,_=>rfl
 | r::t,st,h=>by
  have e:vstep x st r=vstep y st r:=by
   unfold vstep
   have:=h r (yap ..)
   by_cases c:st.1<=r.1/\r.1<=x
   ·rw[if_pos c,if_pos ⟨c.1,this.mp c.2⟩]
   ·rw[if_neg c,if_neg fun z=>c ⟨z.1,this.mpr z.2⟩]
  show t.foldl (vstep x) (vstep x st r)=t.foldl (vstep y) (vstep y st r)
  rw[e]
  exact fold_same t _ fun q hq=>h q (yam _ hq)
theorem zm0 (xy:x<=y) (h:∀ r∈t,¬ (x<r.1/\r.1<=y)):valOf t x=valOf t y:=by
 unfold valOf
 rw[fold_same (y:=y) t _ fun r hr=>by have:=h r hr;ac_rfl]
theorem zxi (c:∀ d,Cov r d↔Cov l d) (xy:x<=y) (h:∀ s∈r,∀ d,x<d->d<=y->d≠s.1/\d≠s.2):isIn l x=isIn l y:=by
 have e:Cov l x↔Cov l y:=by rw[<-c,<-c];exact ztv xy h
 cases p:isIn l x with
 | true=>exact (za9.mpr (e.mp (za9.mp p))).symm
 | false =>
  cases q:isIn l y with
  | false=>rfl
  | true=>rw[za9.mpr (e.mpr (za9.mp q))] at p;cases p
structure Begun (r:Sp) (day:Int) (n:Nat):Prop where
 le:n<=r.length
 lo:∀ i s,i<n->r[i]?=some s->s.1<=day
 hi:∀ i s,n<=i->r[i]?=some s->day<s.1
structure Free (r:Sp) (day m:Int):Prop where
 from_:day<=m
 out:¬ Cov r m
 all:∀ d,day<=d->d<m->Cov r d
theorem Free.one (a:Free r day m) (b:Free r day n):m=n:=by
 rcases ydw m n with h | h | h
 ·exact absurd (b.all m a.from_ h) a.out
 ·exact h
 ·exact absurd (a.all n b.from_ h) b.out
theorem Free.cov (a:Free r day m) (h:∀ d,Cov r d↔Cov l d):Free l day m:=⟨a.from_,fun z=>a.out ((h _).mpr z),fun d h1 h2=>(h d).mp (a.all d h1 h2)⟩
theorem Free.here (h:¬ Cov r day):Free r day day:=⟨ydv _,h,fun d h1 h2=>by ac_rfl⟩
theorem Free.gt (a:Free r day m):m > day↔Cov r day:=by
 constructor
 ·intro h
  exact a.all day (ydv _) h
 ·intro h
  have:=a.from_
  by_cases e:m=day
  ·rw[e] at a
   exact absurd h a.out
  ·ac_rfl
theorem zlW {r:Sp} (J:Joined r) {i j:Nat} {s t:Int × Int} (hi:r[i]?=some s) (hj:r[j]?=some t) (lt:i<j):s.2<t.1:=by
 obtain ⟨h1,rfl⟩:=yac.mp hi
 obtain ⟨h2,rfl⟩:=yac.mp hj
 exact ybb.mp J.apart i j h1 h2 lt
theorem ztM (B:Begun r day 0):Free r day day:=Free.here fun ⟨s,hs,h1,h2⟩=>by
 obtain ⟨j,hj,rfl⟩:=yax.mp hs
 have:=B.hi j _ (yda _) (yaa hj)
 ac_rfl
theorem zui {r:Sp} (J:Joined r) {day:Int} {n:Nat} {s:Int × Int} (B:Begun r day (n+1)) (e:r[n]?=some s):Free r day (if s.2 > day then s.2 else day):=by
 have up:=J.up s (yah e)
 have lo:=B.lo n s (yde _) e
 have other:∀ (t:Int × Int) (d:Int),t∈r->t.1<=d->d<t.2->day<=d->d<=s.2->t=s:=fun t d ht h1 h2 h3 h4=>by
  obtain ⟨j,hj,rfl⟩:=yax.mp ht
  have ej:=yaa hj
  rcases ydf j n with h | h | h
  ·have:=zlW J ej e h
   ac_rfl
  ·subst h
   rw[e] at ej
   cases ej
   rfl
  ·have:=zlW J e ej h
   ac_rfl
 by_cases c:s.2 > day
 ·rw[if_pos c]
  refine ⟨by ac_rfl,fun ⟨t,ht,h1,h2⟩=>?_,fun d h1 h2=>⟨s,yah e,by ac_rfl,h2⟩⟩
  have:=other t s.2 ht h1 h2 (by ac_rfl) (ydv _)
  rw[this] at h2
  ac_rfl
 ·rw[if_neg c]
  refine Free.here fun ⟨t,ht,h1,h2⟩=>?_
  obtain ⟨j,hj,rfl⟩:=yax.mp ht
  have ej:=yaa hj
  rcases ydf j n with h | h | h
  ·have:=zlW J ej e h
   ac_rfl
  ·subst h
   rw[e] at ej
   cases ej
   ac_rfl
  ·have:=B.hi j _ h ej
   ac_rfl
theorem zmH (day:Int):∃ m,Free l day m:=by
 obtain ⟨M,hM⟩:∃ M:Int,∀ s∈l,s.2<=M:=by
  clear day
  induction l with
  | nil=>exact ⟨0,fun s h=>by cases h⟩
  | cons s l ih =>
   obtain ⟨M,h⟩:=ih
   refine ⟨if M<=s.2 then s.2 else M,fun t ht=>?_⟩
   rcases yal.mp ht with rfl | ht
   ·split <;> ac_rfl
   ·have:=h t ht
    split <;> ac_rfl
 have fin:∀ n:Nat,∀ d:Int,M-d<=n->∃ m,Free l d m:=by
  intro n
  induction n with
  | zero =>
   intro d h
   refine ⟨d,Free.here fun ⟨s,hs,h1,h2⟩=>?_⟩
   have:=hM s hs
   ac_rfl
  | succ n ih =>
   intro d h
   by_cases c:Cov l d
   ·obtain ⟨m,F⟩:=ih (d+1) (by ac_rfl)
    refine ⟨m,by have:=F.from_;ac_rfl,F.out,fun x h1 h2=>?_⟩
    by_cases e:x=d
    ·rw[e];exact c
    ·exact F.all x (by ac_rfl) h2
   ·exact ⟨d,Free.here c⟩
 exact fin (M-day).toNat day (by ac_rfl)
end Stills
namespace Stills
open Spans Sums
theorem zkN:∀ (a b:List Int),a.Nodup->(∀ x∈a,x∈b)->a.length<=b.length
 | [],b,_,_=>yda _
 | x::a,b,nd,h=>by
  have hx:=h x (yap ..)
  have n:=ybj.mp nd
  have:=zkN a (b.erase x) n.2 fun y hy=>by
   have ne:y≠x:=fun e=>n.1 (e ▸ hy)
   exact (ycn ne).mpr (h y (yam _ hy))
  rw[ycb hx] at this
  have p:0<b.length:=ybv hx
  show a.length+1<=b.length
  ac_rfl
theorem zvz {r l:Sp} (J:Joined r) (C:∀ d,Cov r d↔Cov l d):r.length<=l.length:=by
 have nd:(r.map (·.1)).Nodup:=by
  unfold List.Nodup
  rw[ybp]
  refine (List.Pairwise.and_mem.mp J.apart).imp fun {s t} h=>?_
  have:=J.up s h.1
  have:=h.2.2
  ac_rfl
 have:=zkN (r.map (·.1)) (l.map (·.1)) nd fun x hx=>by
  obtain ⟨s,hs,rfl⟩:=yag.mp hx
  obtain ⟨t,ht,h1,h2⟩:=(C s.1).mp ⟨s,hs,ydv _,J.up s hs⟩
  have no:¬ Cov r (s.1-1):=by
   rintro ⟨u,hu,q1,q2⟩
   obtain ⟨i,hi,rfl⟩:=yax.mp hs
   obtain ⟨j,hj,rfl⟩:=yax.mp hu
   have ui:=J.up _ (ycq hi)
   rcases ydf i j with h | h | h
   ·have:=zlW J (yaa hi) (yaa hj) h
    ac_rfl
   ·subst h
    ac_rfl
   ·have:=zlW J (yaa hj) (yaa hi) h
    ac_rfl
  have e:t.1=s.1:=by
   by_cases lt:t.1<s.1
   ·exact absurd ((C _).mpr ⟨t,ht,by ac_rfl,by ac_rfl⟩) no
   ·ac_rfl
  exact yag.mpr ⟨t,ht,e⟩
 simpa using this
end Stills
namespace Stills
open Spans Sums
theorem zrW {l:Sp} (up:l.Pairwise fun s t=>s.1<t.1) {i j:Nat} {s t:Int × Int} (hi:l[i]?=some s) (hj:l[j]?=some t) (lt:i<j):s.1<t.1:=by
 obtain ⟨h1,rfl⟩:=yac.mp hi
 obtain ⟨h2,rfl⟩:=yac.mp hj
 exact ybb.mp up i j h1 h2 lt
theorem zvj (J:Joined l):l.Pairwise fun s t=>s.1<t.1:=by
 refine (List.Pairwise.and_mem.mp J.apart).imp fun {s t} h=>?_
 have:=J.up s h.1
 have:=h.2.2
 ac_rfl
theorem zwN {ns:List Int} (up:ns.Pairwise (·<·)) {i j:Nat} {x y:Int} (hi:ns[i]?=some x) (hj:ns[j]?=some y) (lt:i<j):x<y:=by
 obtain ⟨h1,rfl⟩:=yac.mp hi
 obtain ⟨h2,rfl⟩:=yac.mp hj
 exact ybb.mp up i j h1 h2 lt
end Stills
namespace Stills
open Spans Sums
theorem zrH (h:∀ d,Cov r d↔Cov l d) (d:Int):isIn r d=isIn l d:=by
 by_cases c:Cov r d
 ·rw[za9.mpr c,za9.mpr ((h d).mp c)]
 ·rw[zj5 c,zj5 fun z=>c ((h d).mpr z)]
end Stills
namespace Stills
open Spans Sums
theorem zwl (t0:∀ s∈t,0<=s.1) (B:Begun t d 0):valOf t d=0:=by
 refine Val.one (zcO t0 d) (.inl ⟨rfl,fun r hr=>?_⟩)
 obtain ⟨j,hj,rfl⟩:=yax.mp hr
 exact B.hi j _ (yda _) (yaa hj)
theorem zwK {t:Sp} {d:Int} (t0:∀ s∈t,0<=s.1) (up:t.Pairwise fun s u=>s.1<u.1) {n:Nat} {s:Int × Int} (B:Begun t d (n+1)) (e:t[n]?=some s):valOf t d=s.2:=by
 refine Val.one (zcO t0 d) (.inr ⟨n,s.1,e,B.lo n s (yde _) e,fun j r hj le=>?_⟩)
 rcases ydf j n with h | h | h
 ·exact .inl (zrW up hj e h)
 ·subst h
  rw[e] at hj
  cases hj
  exact .inr ⟨rfl,ycx _⟩
 ·have:=B.hi j r h hj
  ac_rfl
end Stills
namespace Stills
open Spans Sums
end Stills
namespace Stills
end Stills
namespace Stills
open Spans Sums
structure TabOf (t tb:Sp):Prop where
 up:tb.Pairwise fun s u=>s.1<u.1
 val:∀ d,valOf tb d=valOf t d
 days:∀ d,(∃ s∈tb,d=s.1)↔∃ s∈t,d=s.1
theorem TabOf.nn (T:TabOf t tb) (t0:∀ s∈t,0<=s.1):∀ s∈tb,0<=s.1:=fun s hs=>by
 obtain ⟨u,hu,e⟩:=(T.days s.1).mp ⟨s,hs,rfl⟩
 rw[e]
 exact t0 u hu
theorem tab_of {t:Sp} {ds:List Int} (t0:∀ s∈t,0<=s.1) (up:ds.Pairwise (·<·)) (mem:∀ d,d∈ds↔∃ s∈t,d=s.1):TabOf t (ds.map fun d=>(d,valOf t d)):=by
 have d0:∀ s∈ds.map fun d=>(d,valOf t d),0<=s.1:=fun s hs=>by
  obtain ⟨d,hd,rfl⟩:=yag.mp hs
  obtain ⟨u,hu,e⟩:=(mem d).mp hd
  show 0<=d
  rw[e]
  exact t0 u hu
 refine ⟨by rw[ybp];exact up,fun d=>?_,fun d=>?_⟩
 ·refine Val.one (zcO d0 d) ?_
  rcases zcO t0 d with ⟨e,h⟩ | ⟨i,b,e,le,h⟩
  ·rw[e]
   refine .inl ⟨rfl,fun r hr=>?_⟩
   obtain ⟨x,hx,rfl⟩:=yag.mp hr
   obtain ⟨u,hu,e'⟩:=(mem x).mp hx
   show d<x
   rw[e']
   exact h u hu
  ·have hb:b∈ds:=(mem b).mpr ⟨_,yah e,rfl⟩
   obtain ⟨j,hj,ej⟩:=yax.mp hb
   have vb:valOf t b=valOf t d:=Val.one (zcO t0 b) (.inr ⟨i,b,e,ydv _,fun k r hk hr=>h k r hk (by ac_rfl)⟩)
   refine .inr ⟨j,b,?_,le,fun k r hk hr=>?_⟩
   ·rw[yai,yaa hj,ej]
    show some (b,valOf t b)=_
    rw[vb]
   ·rw[yai] at hk
    obtain ⟨x,hx,rfl⟩:=Option.map_eq_some_iff.mp hk
    have ej':ds[j]?=some b:=by rw[yaa hj,ej]
    obtain ⟨u,hu,eu⟩:=(mem x).mp (yah hx)
    obtain ⟨n,hn,en⟩:=yax.mp hu
    have hxb:x<=b:=by
     have:=h n u (by rw[yaa hn,en]) (by rw[<-eu];exact hr)
     rw[<-eu] at this
     ac_rfl
    rcases ydf k j with c | c | c
    ·exact .inl (zwN up hx ej' c)
    ·subst c
     rw[ej'] at hx
     cases hx
     exact .inr ⟨rfl,ycx _⟩
    ·have:=zwN up ej' hx c
     ac_rfl
 ·constructor
  ·rintro ⟨s,hs,rfl⟩
   obtain ⟨x,hx,rfl⟩:=yag.mp hs
   exact (mem x).mp hx
  ·intro hd
   exact ⟨(d,valOf t d),yag.mpr ⟨d,(mem d).mpr hd,rfl⟩,rfl⟩
end Stills
namespace Stills
open Spans Sums
end Stills
namespace Stills
end Stills
namespace Stills
open Spans Sums
structure JInv (P acc:Sp):Prop where
 j:Joined acc
 c:∀ d,Cov acc d↔Cov P d
 f:∀ t∈acc,∃ s∈P,t.1=s.1
theorem zoa:Cov [s] d↔s.1<=d/\d<s.2:=by
 rw[zrK]
 exact ⟨fun h=>h.elim id fun z=>absurd z zlZ,.inl⟩
theorem JInv.nil:JInv [] []:=⟨⟨fun s h=>(by cases h),List.Pairwise.nil⟩,fun _=>Iff.rfl,fun t h=>(by cases h)⟩
theorem JInv.begin_ (J:JInv P []) (up:s.1<s.2):JInv (P++[s]) [s]:=by
 refine ⟨⟨fun t ht=>?_,ybo _ _⟩,fun d=>?_,fun t ht=>?_⟩
 ·have:t=s:=by simpa using ht
  rw[this];exact up
 ·rw[zce,<-J.c]
  exact ⟨.inr,fun h=>h.elim (fun z=>absurd z zlZ) id⟩
 ·have:t=s:=by simpa using ht
  exact ⟨s,by simp,by rw[this]⟩
theorem JInv.add (J:JInv P (acc++[t])) (up:s.1<s.2) (h:t.2<s.1):JInv (P++[s]) (acc++[t]++[s]):=by
 have jt:=J.j.up t (by simp)
 refine ⟨⟨fun u hu=>?_,ybe.mpr ⟨J.j.apart,ybo _ _,fun u hu v hv=>?_⟩⟩,fun d=>?_,fun u hu=>?_⟩
 ·rcases yae.mp hu with hu | hu
  ·exact J.j.up u hu
  ·have:u=s:=by simpa using hu
   rw[this];exact up
 ·have:v=s:=by simpa using hv
  subst this
  rcases yae.mp hu with hu' | hu'
  ·have:=(ybe.mp J.j.apart).2.2 u hu' t (by simp)
   ac_rfl
  ·have:u=t:=by simpa using hu'
   rw[this];exact h
 ·rw[zce (a:=acc++[t]),zce (a:=P),J.c]
 ·rcases yae.mp hu with hu | hu
  ·obtain ⟨x,hx,e⟩:=J.f u hu
   exact ⟨x,yae.mpr (.inl hx),e⟩
  ·have:u=s:=by simpa using hu
   exact ⟨s,by simp,by rw[this]⟩
theorem JInv.grow (J:JInv P (acc++[t])) (up:s.1<s.2) (h0:t.1<=s.1) (h:s.1<=t.2) (hm:m=if s.2 > t.2 then s.2 else t.2):JInv (P++[s]) (acc++[(t.1,m)]):=by
 have jt:=J.j.up t (by simp)
 have hm':t.2<=m/\s.2<=m/\(m=t.2\/m=s.2):=by rw[hm];split <;> ac_rfl
 obtain ⟨p1,p2,p3⟩:=ybe.mp J.j.apart
 refine ⟨⟨fun u hu=>?_,ybe.mpr ⟨p1,ybo _ _,fun u hu v hv=>?_⟩⟩,fun d=>?_,fun u hu=>?_⟩
 ·rcases yae.mp hu with hu | hu
  ·exact J.j.up u (yae.mpr (.inl hu))
  ·have:u=(t.1,m):=by simpa using hu
   rw[this]
   show t.1<m
   ac_rfl
 ·have:v=(t.1,m):=by simpa using hv
  rw[this]
  exact p3 u hu t (by simp)
 ·have a:=J.c d
  rw[zce,zoa] at a
  rw[zce,zce,<-a,zoa,zoa]
  show (Cov acc d\/(t.1<=d/\d<m))↔((Cov acc d\/(t.1<=d/\d<t.2))\/(s.1<=d/\d<s.2))
  constructor
  ·rintro (z | z)
   ·exact .inl (.inl z)
   ·by_cases c:d<t.2
    ·exact .inl (.inr ⟨z.1,c⟩)
    ·exact .inr (by ac_rfl)
  ·rintro ((z | z) | z)
   ·exact .inl z
   ·exact .inr (by ac_rfl)
   ·exact .inr (by ac_rfl)
 ·rcases yae.mp hu with hu | hu
  ·obtain ⟨x,hx,e⟩:=J.f u (yae.mpr (.inl hu))
   exact ⟨x,yae.mpr (.inl hx),e⟩
  ·have:u=(t.1,m):=by simpa using hu
   obtain ⟨x,hx,e⟩:=J.f t (by simp)
   exact ⟨x,yae.mpr (.inl hx),by rw[this];exact e⟩
theorem zxp (h:∀ s,s∈a↔s∈b) (d:Int):Cov a d↔Cov b d:=⟨fun ⟨s,hs,q⟩=>⟨s,(h s).mp hs,q⟩,fun ⟨s,hs,q⟩=>⟨s,(h s).mpr hs,q⟩⟩
end Stills
namespace Dct
open L2
def days (t:List (Int × Int)) (d:Int):Prop:=∃ s∈t,d=s.1
theorem zyb (h:-1<=d):∀ (t:List (Int × Int)) (st:Int × Int),st.1<=d->(t.foldl (Sums.vstep d) st).1<=d
 | [],st,hs=>hs
 | x::t,st,hs=>by
  rw[ybx]
  refine zyb h t _ ?_
  unfold Sums.vstep
  split
  ·rename_i q;exact q.2
  ·exact hs
theorem zvn:∀ (t:List (Int × Int)) (st:Int × Int),st.1=d->(t.foldl (Sums.vstep d) st).1=d
 | [],st,hs=>hs
 | x::t,st,hs=>by
  rw[ybx]
  refine zvn t _ ?_
  unfold Sums.vstep
  split
  ·rename_i q;ac_rfl
  ·exact hs
theorem zw4 (h:0<=d):∀ (t:List (Int × Int)) (st:Int × Int),st.1<=d->days t d->(t.foldl (Sums.vstep d) st).1=d
 | [],st,_,hd=>by obtain ⟨s,hs,_⟩:=hd;cases hs
 | x::t,st,hs,hd=>by
  rw[ybx]
  by_cases e:x.1=d
  ·refine zvn t _ ?_
   unfold Sums.vstep
   rw[if_pos ⟨by ac_rfl,by ac_rfl⟩]
   exact e
  ·refine zw4 h t _ ?_ ?_
   ·unfold Sums.vstep
    split
    ·rename_i q;exact q.2
    ·exact hs
   ·obtain ⟨s,m,q⟩:=hd
    rcases yal.mp m with rfl | m
    ·exact absurd q.symm e
    ·exact ⟨s,m,q⟩
theorem zvF (t:List (Int × Int)) (x:Int × Int):zcD (t++[x])=zav (zcD t) x.1 x.2:=by
 unfold zcD
 rw[ycu]
 rfl
theorem zoB (l:List (Int × Int)) (k:Int):l.any (fun p=>p.1=k)=true↔days l k:=by
 rw[yca]
 constructor
 ·rintro ⟨s,m,q⟩;exact ⟨s,m,(of_decide_eq_true q).symm⟩
 ·rintro ⟨s,m,q⟩;exact ⟨s,m,decide_eq_true q.symm⟩
theorem znF (h:s∈zav l k y):(s.1=k/\s.2=y)\/(s∈l/\s.1≠k):=by
 unfold zav at h
 split at h
 ·obtain ⟨u,m,e⟩:=yag.mp h
  by_cases q:u.1=k
  ·rw[if_pos q] at e;subst e;exact .inl ⟨q,rfl⟩
  ·rw[if_neg q] at e;subst e;exact .inr ⟨m,q⟩
 ·rename_i na
  rcases yae.mp h with m | m
  ·refine .inr ⟨m,fun q=>na ((zoB l k).mpr ⟨s,m,q.symm⟩)⟩
  ·obtain rfl:s=(k,y):=by simpa using m
   exact .inl ⟨rfl,rfl⟩
theorem zsK:days (zav l k y) d↔days l d\/d=k:=by
 constructor
 ·rintro ⟨s,m,q⟩
  rcases znF m with ⟨a,_⟩ | ⟨a,_⟩
  ·exact .inr (q.trans a)
  ·exact .inl ⟨s,a,q⟩
 ·intro h
  unfold zav
  split
  ·rename_i a
   have hd:days l d:=by
    rcases h with h | h
    ·exact h
    ·rw[h];exact (zoB l k).mp a
   obtain ⟨s,m,q⟩:=hd
   by_cases e:s.1=k
   ·exact ⟨(s.1,y),yag.mpr ⟨s,m,by rw[if_pos e]⟩,q⟩
   ·exact ⟨s,yag.mpr ⟨s,m,by rw[if_neg e]⟩,q⟩
  ·rcases h with ⟨s,m,q⟩ | h
   ·exact ⟨s,ybq _ m,q⟩
   ·exact ⟨(k,y),yaj _ (ybs.mpr rfl),h⟩
theorem zs2 (h:(l.map (·.1)).Nodup):((zav l k y).map (·.1)).Nodup:=by
 unfold zav
 split
 ·rw[ybl]
  have e:((fun x:Int × Int=>x.1) ∘ fun p:Int × Int=>if p.1=k then (p.1,y) else p)=fun x=>x.1:=by
   funext p
   show (if p.1=k then (p.1,y) else p).1=p.1
   split <;> rfl
  rw[e]
  exact h
 ·rename_i na
  rw[yar]
  refine ycd.mpr ⟨h,by simp,fun a ha b hb=>?_⟩
  have hb':b=k:=by simpa using hb
  obtain ⟨s,m,q⟩:=yag.mp ha
  rw[hb']
  intro z
  exact na ((zoB l k).mpr ⟨s,m,by rw[<-z];exact q.symm⟩)
structure Is (t l:List (Int × Int)):Prop where
 keys:(l.map (·.1)).Nodup
 days:∀ d,days l d↔days t d
 val:∀ s∈l,s.2=Sums.valOf t s.1
theorem dct_is:∀ (n:Nat) (t:List (Int × Int)),t.length=n->(∀ s∈t,0<=s.1)->Is t (zcD t)
 | 0,t,e,_=>by
  obtain rfl:t=[]:=List.eq_nil_of_length_eq_zero e
  exact ⟨List.nodup_nil,fun d=>Iff.rfl,fun s hs=>by cases hs⟩
 | n+1,t,e,h0=>by
  have ne:t≠[]:=fun z=>by rw[z] at e;cases e
  have et:t.dropLast++[t.getLast ne]=t:=List.dropLast_concat_getLast ne
  generalize t.dropLast=u at et
  generalize t.getLast ne=x at et
  subst et
  have ul:u.length=n:=by simpa using e
  have ih:=dct_is n u ul fun s hs=>h0 s (ybq _ hs)
  rw[zvF]
  refine ⟨zs2 ih.keys,fun d=>?_,fun s hs=>?_⟩
  ·rw[zsK,ih.days]
   constructor
   ·rintro (⟨s,m,q⟩ | q)
    ·exact ⟨s,ybq _ m,q⟩
    ·exact ⟨x,yaj _ (ybs.mpr rfl),q⟩
   ·rintro ⟨s,m,q⟩
    rcases yae.mp m with m | m
    ·exact .inl ⟨s,m,q⟩
    ·obtain rfl:s=x:=by simpa using m
     exact .inr q
  ·have x0:=h0 x (yaj _ (ybs.mpr rfl))
   have ev:∀ d,Sums.valOf (u++[x]) d=(Sums.vstep d (u.foldl (Sums.vstep d) (-1,0)) x).2:=fun d=>by
    unfold Sums.valOf
    rw[ycu]
    rfl
   rcases znF hs with ⟨a,b⟩ | ⟨a,b⟩
   ·rw[ev,b,a]
    unfold Sums.vstep
    rw[if_pos ⟨zyb (by ac_rfl) u (-1,0) (by show -1<=x.1;ac_rfl),ydv _⟩]
   ·rw[ev,ih.val s a]
    have d0:0<=s.1:=by
     obtain ⟨r,m,q⟩:=(ih.days s.1).mp ⟨s,a,rfl⟩
     rw[q]
     exact h0 r (ybq _ m)
    have b1:=zw4 d0 u (-1,0) (by show -1<=s.1;ac_rfl) ((ih.days s.1).mp ⟨s,a,rfl⟩)
    have st:Sums.vstep s.1 (u.foldl (Sums.vstep s.1) (-1,0)) x=u.foldl (Sums.vstep s.1) (-1,0):=if_neg (by rw[b1];ac_rfl)
    rw[st]
    rfl
theorem tab {t r:List (Int × Int)} (h0:∀ s∈t,0<=s.1) (p:r.Perm (zcD t)) (o:r.Pairwise fun s u=>s.1<=u.1):Stills.TabOf t r/\r=(r.map (·.1)).map fun d=>(d,Sums.valOf t d):=by
 have I:=dct_is t.length t rfl h0
 have nd:(r.map (·.1)).Nodup:=(p.map (·.1)).nodup_iff.mpr I.keys
 have up:(r.map (·.1)).Pairwise (·<·):=by
  have o':(r.map (·.1)).Pairwise (·<=·):=by
   rw[ybp]
   exact o
  refine (o'.and nd).imp fun {a b} h=>?_
  have:=h.1
  have:=h.2
  ac_rfl
 have e:r=(r.map (·.1)).map fun d=>(d,Sums.valOf t d):=by
  rw[ybl]
  conv=>lhs;rw[<-ycw r]
  refine yco fun s hs=>?_
  show s=(s.1,Sums.valOf t s.1)
  rw[<-I.val s (p.mem_iff.mp hs)]
 refine ⟨?_,e⟩
 rw[e]
 refine Stills.tab_of h0 up fun d=>?_
 constructor
 ·intro m
  obtain ⟨s,hs,rfl⟩:=yag.mp m
  exact (I.days s.1).mp ⟨s,p.mem_iff.mp hs,rfl⟩
 ·intro m
  obtain ⟨s,hs,q⟩:=(I.days d).mpr m
  exact yag.mpr ⟨s,p.mem_iff.mpr hs,q.symm⟩
end Dct
namespace L2
open PySem
noncomputable def bkF (c g e o f p t r l s d:V):List (Str × V):=[("own_count", c),("own_grace", g),("own_entries", e),("out_sums", o),("fee_sums", f),("pay_sums", p),("turn_days", t),("rate_rows", r),("late_rows", l),("spans", s),("due_sums", d)]
noncomputable def upto (l:List (Int × Int)) (d:Int):Int:=((l.filter fun s=>decide (s.1<=d)).map (·.2)).sum
structure BkT where
 (kd:Kd) (g:Int) (es:List Er) (outs fees pays:List (Int × Int)) (turns:List Int) (rates lates spans dues:List (Int × Int))
def LP (K:W.Frag) (H:Hp) (p:Addr) (l:List (Int × Int)):Prop:=∃ xs,H p=some (.lst xs)/\zH K H xs l/\l.length<=1000
theorem LP.same (h:LP K H p l) (s:Same H H'):LP K H' p l:=by
 obtain ⟨xs,e,r,n⟩:=h
 exact ⟨xs,s _ _ e,r.same s,n⟩
structure BkA where
 (dx c e o f p t r l s d:Addr)
noncomputable def BkA.fs (A:BkA) (g:Int):List (Str × V):=bkF (.ref A.c) (.int g) (.ref A.e) (.ref A.o) (.ref A.f) (.ref A.p) (.ref A.t) (.ref A.r) (.ref A.l) (.ref A.s) (.ref A.d)
structure zaK (K:W.Frag) (H:Hp) (a:Addr) (A:BkA) (b:BkT):Prop where
 ins:H a=some (.ins (cA K "Book") A.dx (A.fs b.g))
 cnt:zbR K H A.c b.kd
 ents:∃ xs,H A.e=some (.lst xs)/\EL K H xs b.es
 outs:LP K H A.o b.outs
 fees:LP K H A.f b.fees
 pays:LP K H A.p b.pays
 turns:H A.t=some (.lst (b.turns.map V.int))
 rates:LP K H A.r b.rates
 lates:LP K H A.l b.lates
 spans:LP K H A.s b.spans
 dues:LP K H A.d b.dues
theorem zaK.same (h:zaK K H a A b) (s:Same H H'):zaK K H' a A b :=
 ⟨s _ _ h.ins,h.cnt.same s,(let ⟨xs,e,r⟩:=h.ents;⟨xs,s _ _ e,r.same s⟩),h.outs.same s,h.fees.same s,h.pays.same s,s _ _ h.turns,h.rates.same s,h.lates.same s,h.spans.same s,h.dues.same s⟩
noncomputable def wo (H:Hp) (a:Addr):Hp:=fun b=>if b=a then none else H b
theorem zwY (h:b≠a):wo H a b=H b:=if_neg h
theorem zcv:Same (wo H a) H:=fun b o e=>by
 unfold wo at e
 split at e
 ·cases e
 ·exact e
theorem zxG (s:Same H H'):Same (wo H a) (wo H' a):=fun b o e=>by
 unfold wo at e ⊢
 split at e
 ·cases e
 ·rename_i n
  rw[if_neg n]
  exact s _ _ e
theorem zdn:wo (upd H a o) a=wo H a:=funext fun b=>by
 unfold wo
 split
 ·rfl
 ·rename_i n
  rw[zr n]
theorem zxV (h:zH K H xs l) (e:H a=some (.ins C dx fs)):zH K (wo H a) xs l:=by
 induction h with
 | nil=>exact .nil
 | cons h _ ih=>exact .cons (by rw[zwY (zae h e (by intro z;cases z))];exact h) ih
theorem zq0 (h:H p=some (.lst xs)) (e:H a=some (.ins C dx fs)):wo H a p=some (.lst xs):=by
 rw[zwY (zae h e (by intro z;cases z))];exact h
theorem LP.wo (h:LP K H p l) (e:H a=some (.ins C dx fs)):LP K (L2.wo H a) p l:=by
 obtain ⟨xs,h1,h2,h3⟩:=h
 exact ⟨xs,zq0 h1 e,zxV h2 e,h3⟩
theorem zcV (s:Same H H2):Same (wo H a) (wo (upd H2 a o) a):=by
 rw[zdn]
 exact zxG s
noncomputable def tot (q:Int->Bool) (l:List (Int × Int)):Int:=((l.filter fun s=>q s.1).map (·.2)).sum
theorem zeZ (q:Int->Bool) (s:Int × Int) (l:List (Int × Int)):tot q (s::l)=(if q s.1 then s.2 else 0)+tot q l:=by
 unfold tot
 by_cases h:q s.1=true
 ·rw[yau (by simpa using h),if_pos h];simp
 ·rw[yav (by simpa using h),if_neg h];simp
theorem zeV (s:Int × Int) (l:List (Int × Int)) (n:Int):Sby.sm (s::l) n=(if s.1=n then s.2 else 0)+Sby.sm l n:=by
 have:=zeZ (fun k=>decide (k=n)) s l
 simpa [tot,Sby.sm] using this
theorem zpn (q:Int->Bool) (n:Int):∀ l:List (Int × Int),tot q l=(if q n then Sby.sm l n else 0)+tot q (l.filter fun s=>decide (s.1≠n))
 | []=>by simp[tot,Sby.sm]
 | s::l=>by
  rw[zeZ,zpn q n l,zeV]
  by_cases e:s.1=n
  ·rw[yav (by simpa using e),if_pos e,e]
   split <;> ac_rfl
  ·rw[yau (by simpa using e),if_neg e,zeZ]
   split <;> split <;> ac_rfl
theorem zyh (h:d≠n) (l:List (Int × Int)):Sby.sm (l.filter fun s=>decide (s.1≠n)) d=Sby.sm l d:=by
 induction l with
 | nil=>rfl
 | cons s l ih =>
  by_cases e:s.1=n
  ·rw[yav (by simpa using e),zeV,if_neg (by ac_rfl),ih];ac_rfl
  ·rw[yau (by simpa using e),zeV,zeV,ih]
theorem zri (q:Int->Bool):∀ (ns:List Int) (l:List (Int × Int)),ns.Nodup->(∀ p∈l,p.1∈ns)->tot q (ns.map fun d=>(d,Sby.sm l d))=tot q l
 | [],l,_,h=>by
  cases l with
  | nil=>rfl
  | cons s l=>exact absurd (h s yap) (by simp)
 | n::ns,l,nd,h=>by
  obtain ⟨n1,n2⟩:=ybj.mp nd
  rw[ybm,zeZ,zpn q n l,<-zri q ns (l.filter fun s=>decide (s.1≠n)) n2 fun p hp=>?_]
  ·congr 2
   apply yco
   intro d hd
   rw[zyh (fun (e:d=n)=>n1 (by rw[<-e];exact hd))]
  ·obtain ⟨h1,h2⟩:=yao.mp hp
   rcases yal.mp (h p h1) with e | e
   ·exact absurd e (by simpa using h2)
   ·exact e
theorem zvM (T:Sby.Tab r l):r=(r.map (·.1)).map fun d=>(d,Sby.sm l d):=by
 rw[ybl]
 conv=>lhs;rw[<-ycw r]
 apply yco
 intro p hp
 show p=(p.1,Sby.sm l p.1)
 rw[<-T.val p hp]
theorem ztk (T:Sby.Tab r l) (q:Int->Bool):tot q r=tot q l:=by
 rw[zvM T]
 exact zri q _ l (Sby.zem T.up) fun p hp=>(T.mem p.1).mpr (ybg hp)
theorem zki (T:Sby.Tab r l) (d:Int):upto r d=upto l d:=ztk T fun k=>decide (k<=d)
noncomputable def mvp (f:Int->Int) (l:List (Int × Int)):List (Int × Int):=l.map fun s=>(f s.1,s.2)
theorem zuT (f:Int->Int) (l:List (Int × Int)) (k:Int):Sby.sm (mvp f l) k=tot (fun d=>decide (f d=k)) l:=by
 induction l with
 | nil=>rfl
 | cons s l ih =>
  show Sby.sm ((f s.1,s.2)::mvp f l) k=_
  rw[zeV,zeZ,ih]
  by_cases e:f s.1=k
  ·rw[if_pos e,if_pos (by simpa using e)]
  ·rw[if_neg e,if_neg (by simpa using e)]
theorem zxa (f:Int->Int) (T:Sby.Tab r l) (T2:Sby.Tab r2 (mvp f r)):Sby.Tab r2 (mvp f l):=by
 have k:∀ l:List (Int × Int),(mvp f l).map (·.1)=(l.map (·.1)).map f:=fun l=>by unfold mvp;rw[ybl,ybl];rfl
 refine ⟨T2.up,fun d=>(T2.mem d).trans ?_,fun p hp=>?_⟩
 ·rw[k,k]
  constructor
  ·intro h
   obtain ⟨x,hx,e⟩:=yag.mp h
   exact yag.mpr ⟨x,(T.mem x).mp hx,e⟩
  ·intro h
   obtain ⟨x,hx,e⟩:=yag.mp h
   exact yag.mpr ⟨x,(T.mem x).mpr hx,e⟩
 ·rw[T2.val p hp,zuT,zuT,ztk T]
noncomputable def mvd (l:List (Int × Int)) (d:Int):Int:=Classical.choose (Stills.zmH (l:=l) d)
theorem zn0 (l:List (Int × Int)) (d:Int):Stills.Free l d (mvd l d):=Classical.choose_spec (Stills.zmH (l:=l) d)
theorem zq9 {l:List (Int × Int)} {d m:Int} (h:Stills.Free l d m):m=mvd l d:=h.one (zn0 l d)
theorem zxM (h:∀ d,Spans.Cov l d↔Spans.Cov r d):mvd l=mvd r:=funext fun d=>zq9 ((zn0 l d).cov h)
structure zbj (b:BkT):Prop where
 outs:Sby.Tab b.outs (prs "out" b.es)
 fees:Sby.Tab b.fees (prs "fee" b.es)
 pays:Sby.Tab b.pays (prs "pay" b.es)
 turns:Days b.turns (dys "turn" b.es)
 rates:Stills.TabOf (prs "rate" b.es) b.rates/\b.rates=(b.rates.map (·.1)).map (fun d=>(d,Sums.valOf (prs "rate" b.es) d))
 lates:Stills.TabOf (prs "late" b.es) b.lates/\b.lates=(b.lates.map (·.1)).map (fun d=>(d,Sums.valOf (prs "late" b.es) d))
 spans:Spans.Joined b.spans/\∀ d,Spans.Cov b.spans d↔Spans.Cov (prs "still" b.es) d
 dues:Sby.Tab b.dues (mvp (mvd (prs "still" b.es)) (prs "due" b.es))
def RtW (w:Str):Prop:=w = "rate" \/ w = "late"
theorem rtl (hw:RtW w) (h:isW w (k,d,x)=true):yby ("rate" : Str) (znf k d x)=some (V.int x):=by
 have e:k.word=w:=V.str.inj (of_decide_eq_true h)
 subst e
 rcases hw with hw | hw <;> (cases k <;> first | rfl | (exfalso;revert hw;decide))
theorem stl (h:isW "still" (k,d,x)=true):yby ("until" : Str) (znf k d x)=some (V.int x):=by
 have e:k.word = "still" := V.str.inj (of_decide_eq_true h)
 cases k <;> first | rfl | (exfalso;revert e;decide)
theorem zvV (l:List (Int × Int)) (d:Int):Spans.Cov (l.filter fun s=>decide (s.1<s.2)) d↔Spans.Cov l d:=by
 constructor
 ·rintro ⟨s,hs,h⟩
  exact ⟨s,(yao.mp hs).1,h⟩
 ·rintro ⟨s,hs,h1,h2⟩
  exact ⟨s,yao.mpr ⟨hs,by simp;ac_rfl⟩,h1,h2⟩
theorem zgW {w:Str} {es:List Er}:(prs w es).length<=es.length:=by
 unfold prs
 rw[yab]
 exact yay _ _
theorem tyC (cl:Cls K (cA K kd.cls)) (I:zwi K (cA K kd.cls)) (h:zbR K H a kd):zcG K H (.ref a) (.ref (cA K kd.cls)):=by
 obtain ⟨dx,e⟩:=h
 exact .ins e cl I.ha I.hn I.htk I.hm
theorem comp_map (Y:zjJ J H xs) (hl:H l=none) (hz:xs.length<=sizeLine) (es:List α) (len:es.length=xs.length)
  (P:Hp->V->α->Prop) (mono:∀ v e H1 H2,Same H1 H2->P H1 v e->P H2 v e) (put:∀ v e H1 ys zs,H1 l=some (.lst ys)->P H1 v e->P (upd H1 l (.lst zs)) v e)
  (he:∀ (i:Nat) x e H' Q',xs[i]?=some x->es[i]?=some e->Same H H'->(∀ v H2,Same H' H2->P H2 v e->Q' v H2)->te (some x::capts σ ix) H' Q')
  (fin:∀ ys H',Same H H'->H' l=some (.lst ys)->LL (P H') ys es->R H') :
  ∃ W:Nat->Nat->List V->Hp->Prop,(∃ m,W 0 m [] (upd H l (.lst [])))/\Turns ix te σ J l R W:=by
 refine zwn Y hl hz (fun i v H'=>∃ e,es[i]?=some e/\P H' v e) (fun i v H1 H2 s ⟨e,e1,e2⟩=>⟨e,e1,mono v e _ _ s e2⟩) (fun i v H1 ys zs hL ⟨e,e1,e2⟩=>⟨e,e1,put v e _ _ _ hL e2⟩) ?_ ?_
 ·intro i x H' Q' hx sH hq
  have il:i<es.length:=by rw[len];exact (yac.mp hx).1
  have eP:es[i]?=some (es[i]'il):=yaa il
  exact he i x _ H' Q' hx eP sH fun v H2 s2 pv=>hq v H2 s2 ⟨_,eP,pv⟩
 ·intro ys H' sH eL yl hp
  exact fin ys H' sH eL (LL.of (by ac_rfl) hp)
theorem zvS (h:LL (fun v s=>∃ t,v=.ref t/\H t=some (.tup [.int (f s.1),.int s.2])) ys l):zH K H ys (mvp f l):=by
 induction h with
 | nil=>exact .nil
 | cons h _ ih =>
  obtain ⟨t,rfl,e⟩:=h
  exact .cons e ih
noncomputable def zcB (k:Ek) (d x:Int):List V:=[.str k.word,.int d,.int x]
noncomputable def RL3 (H:Hp):List V->List Er->Prop:=LL fun v e=>∃ t,v=.ref t/\H t=some (.tup (zcB e.1 e.2.1 e.2.2))
theorem RL3.same (h:RL3 H vs es) (s:Same H H'):RL3 H' vs es:=LL.imp (fun v e ⟨t,e1,e2⟩=>⟨t,e1,s _ _ e2⟩) h
theorem RL3.put (h:RL3 H vs es) (hp:H p=some (.lst ys)):RL3 (upd H p (.lst zs)) vs es:=LL.imp (fun v e ⟨t,e1,e2⟩=>⟨t,e1,by rw[zr (zae e2 hp (by intro z;cases z))];exact e2⟩) h
structure ztf (fl:List Bool) (b:Int) (l:List (Int × Int)):Prop where
 len:fl.length=250
 at_:∀ k:Nat,k<250->fl[k]?=some (Spans.isIn l (b+k))
 end_:∀ s∈l,s.2<=b+249
theorem zuY (l:List (Int × Int)) (s:Int × Int) (d:Int):Spans.isIn (l++[s]) d=(Spans.isIn l d || (decide (s.1<=d) && decide (d<s.2))):=by
 unfold Spans.isIn
 rw[List.any_append]
 simp
theorem zwL (n:Nat) (x:V):(yat n [x]).flatten=yat n x:=by
 induction n with
 | zero=>rfl
 | succ n ih=>rw[ybt,yck,ih,ybt];rfl
theorem zym {n:Nat} {i:Int} (h0:0<=i) (h1:i<n):ixN n i=some i.toNat:=by
 unfold ixN
 rw[if_pos h0,if_pos h1]
theorem zuw (fl:List Bool) (i:Nat) (b:Bool):(fl.map V.bl).set i (.bl b)=(fl.set i b).map V.bl:=by rw[List.map_set]
def FlP (fl:List Bool) (b:Int) (l:List (Int × Int)) (lo hi:Int):Prop:=fl.length=250/\∀ k:Nat,k<250->fl[k]?=some (Spans.isIn l (b+k) || (decide (lo<=(k:Int)) && decide ((k:Int)<hi)))
theorem FlP.set (h:FlP fl b l lo hi) (h0:0<=lo) (h1:lo<=hi):FlP (fl.set hi.toNat true) b l lo (hi+1):=by
 refine ⟨by rw[List.length_set];exact h.1,fun k hk=>?_⟩
 rw[List.getElem?_set]
 by_cases e:hi.toNat=k
 ·rw[if_pos e,if_pos (by rw[h.1];ac_rfl)]
  have a1:lo<=(k:Int):=by ac_rfl
  have a2:(k:Int)<hi+1:=by ac_rfl
  simp[a1,a2]
 ·rw[if_neg e,h.2 k hk]
  have:((k:Int)<hi+1)↔((k:Int)<hi):=by ac_rfl
  simp[this]
theorem FlP.nil (h0:fl.length=250) (h:∀ k:Nat,k<250->fl[k]?=some (Spans.isIn l (b+k))):FlP fl b l lo lo:=by
 refine ⟨h0,fun k hk=>?_⟩
 rw[h k hk]
 have:¬ (lo<=(k:Int)/\(k:Int)<lo):=by ac_rfl
 cases Spans.isIn l (b+k) <;> simp <;> ac_rfl
theorem FlP.done (h:FlP fl b l (s.1-b) (s.2-b)):∀ k:Nat,k<250->fl[k]?=some (Spans.isIn (l++[s]) (b+k)):=fun k hk=>by
 rw[h.2 k hk,zuY]
 have e1:(s.1-b<=(k:Int))↔(s.1<=b+k):=by ac_rfl
 have e2:((k:Int)<s.2-b)↔(b+k<s.2):=by ac_rfl
 simp[e1,e2]
theorem zuf (K:W.Frag) (hK:X.K=K:=by rfl):OpR X (compareOp .In) (rIn K false):=by
 subst hK
 exact zic
theorem zvN (ns:List Int) (a b:Nat):∃ ms:List Int,ms.length<=b-a/\zeN (ns.map V.int) (some (a:Int)) (some (b:Int))=ms.map V.int:=by
 refine ⟨(ns.drop (min a (ns.map V.int).length)).take (min b (ns.map V.int).length-min a (ns.map V.int).length),?_,?_⟩
 ·rw[yaz]
  ac_rfl
 ·unfold zeN
  rw[zl2,zl2,List.map_take,List.map_drop]
theorem RL3.push (h:RL3 H vs es) (ht:H t=some (.tup (zcB e.1 e.2.1 e.2.2))):RL3 H (vs++[.ref t]) (es++[e]):=LL.push h ⟨t,rfl,ht⟩
theorem zo9 (Y:zjJ J H xs) (hl:H l=none) (hz:xs.length<=sizeLine) (es:List α) (len:es.length=xs.length)
  (f:α->Bool) (P:Hp->V->α->Prop) (mono:∀ v e H1 H2,Same H1 H2->P H1 v e->P H2 v e) (put:∀ v e H1 ys zs,H1 l=some (.lst ys)->P H1 v e->P (upd H1 l (.lst zs)) v e)
  (ht:∀ (i:Nat) x e H' Q',xs[i]?=some x->es[i]?=some e->Same H H'->(∀ H2,Same H' H2->Q' (f e) H2)->tt (some x::capts σ ix) H' Q')
  (he:∀ (i:Nat) x e H' Q',xs[i]?=some x->es[i]?=some e->f e=true->Same H H'->(∀ v H2,Same H' H2->P H2 v e->Q' v H2)->te (some x::capts σ ix) H' Q')
  (fin:∀ ys H',Same H H'->H' l=some (.lst ys)->LL (P H') ys (es.filter f)->R H') :
  ∃ W:Nat->Nat->List V->Hp->Prop,(∃ m,W 0 m [] (upd H l (.lst [])))/\zmg ix tt te σ J l R W:=by
 refine ⟨fun i m ys H'=>m=xs.length-i/\i<=xs.length/\LL (P H') ys ((es.take i).filter f)/\Same H H'/\H' l=some (.lst ys),⟨xs.length,by simp,yda _,by simp;exact .nil,zf hl _,zh⟩,?_⟩
 rintro i m ys H' ⟨rfl,hi,hy,sH,hL⟩
 refine ⟨hL,?_⟩
 by_cases hlt:i<xs.length
 ·have eP:es[i]?=some (es[i]'(by ac_rfl)):=yaa (by ac_rfl)
  generalize es[i]'(by ac_rfl)=e at eP
  have tk:es.take (i+1)=es.take i++[e]:=by rw[ybc,eP];rfl
  refine .inr ⟨Y.go i H' sH hlt,by
   have:ys.length<=i:=by
    rw[hy.length]
    exact ydc (yay _ _) (by rw[yaz];ac_rfl)
   ac_rfl,fun x H2 y=>?_⟩
  obtain ⟨rfl,e2⟩:=Y.yld i H' x H2 sH y
  refine ht i x e _ _ e2 eP sH fun H4 s4=>?_
  have sH4:=sH.trans s4
  have hL4:=s4 _ _ hL
  have hy4:=hy.imp fun v e q=>mono v e _ _ s4 q
  cases b:f e with
  | true =>
   rw[if_pos rfl]
   refine he i x e _ _ e2 eP b sH4 fun v H3 s3 pv=>?_
   have hL3:=s3 _ _ hL4
   refine ⟨hL3,xs.length-(i+1),by ac_rfl,rfl,hlt,?_,zJ (sH4.trans s3) hl,zh⟩
   rw[tk,ybd,yau b]
   exact ((hy4.imp fun v e q=>put v e H3 ys _ hL3 (mono v e _ _ s3 q)).push (put v e H3 ys _ hL3 pv))
  | false =>
   rw[if_neg Bool.false_ne_true]
   refine ⟨xs.length-(i+1),by ac_rfl,rfl,hlt,?_,sH4,hL4⟩
   rw[tk,ybd,yav (by rw[b];decide)]
   simpa using hy4
 ·rw[yaw (by ac_rfl)] at hy
  exact .inl ⟨Y.stop i H' sH (by ac_rfl),fin ys H' sH hL hy⟩
theorem LL.zzb (h:LL R vs es):LL R (vs.drop 1) (es.drop 1):=by
 cases h with
 | nil=>exact .nil
 | cons _ h=>exact h
theorem zu2 (f:Int->Int) (w:Str) (es:List Er):prs w ((es.filter (isW w)).map fun e=>(e.1,f e.2.1,e.2.2))=mvp f (prs w es):=by
 unfold prs mvp
 rw[ybl,List.filter_map,List.filter_filter,ybl]
 have:(fun a:Er=>isW w ((fun e:Er=>((e.1,f e.2.1,e.2.2):Er)) a) && isW w a)=isW w:=funext fun a=>by
  show (isW w (a.1,f a.2.1,a.2.2) && isW w a)=isW w a
  have:isW w (a.1,f a.2.1,a.2.2)=isW w a:=rfl
  rw[this,Bool.and_self]
 first
 | rw[show ((isW w ∘ fun e:Er=>((e.1,f e.2.1,e.2.2):Er)))=isW w from rfl];simp only[Bool.and_self];rfl
 | (simp only[Function.comp_def,this];rfl)
end L2
namespace L2
open PySem
noncomputable abbrev T3:=Int × Int × Int
noncomputable def mn (a b:Int):Int:=if b<a then b else a
noncomputable def sum2 (l:List (Int × Int)):Int:=(l.map (·.2)).sum
noncomputable def zze (day paid t:Int) (s:Int × Int):List T3:=if s.1<=day/\mn s.2 (t+s.2-paid) > 0 then [(s.1,s.2,mn s.2 (t+s.2-paid))] else []
noncomputable def opn (day paid:Int):Int->List (Int × Int)->List T3
 | _,[]=>[]
 | t,s::l=>zze day paid t s++opn day paid (t+s.2) l
theorem zuz (l:List (Int × Int)) (s:Int × Int):sum2 (l++[s])=sum2 l+s.2:=by simp[sum2]
noncomputable def p0 (a:Int):Int:=if a > 0 then a else 0
theorem zlM (s:Int × Int) (l:List (Int × Int)) (x:Int):upto (s::l) x=(if s.1<=x then s.2 else 0)+upto l x:=by
 have:=zeZ (fun k=>decide (k<=x)) s l
 simpa [tot,upto] using this
theorem zh7 (h:∀ s∈l,x<s.1):upto l x=0:=by
 unfold upto
 rw[ych.mpr (fun s hs=>by have:=h s hs;simp;ac_rfl)]
 rfl
end L2
namespace L2
open PySem
theorem zog (d x:Int):∀ r:List (Int × Int),(∀ s∈r,s.1<=x->s.1<=d)\/∃ s∈r,d<s.1/\s.1<=x/\∀ u∈r,u.1<=x->u.1<=s.1
 | []=>.inl fun s hs=>by cases hs
 | a::r=>by
  by_cases c:d<a.1/\a.1<=x
  ·right
   rcases zog d x r with h | ⟨s,hs,h1,h2,h3⟩
   ·refine ⟨a,by simp,c.1,c.2,fun u hu z=>?_⟩
    rcases yal.mp hu with rfl | hu
    ·exact ydv _
    ·have:=h u hu z;ac_rfl
   ·by_cases c2:s.1<=a.1
    ·refine ⟨a,by simp,c.1,c.2,fun u hu z=>?_⟩
     rcases yal.mp hu with rfl | hu
     ·exact ydv _
     ·have:=h3 u hu z;ac_rfl
    ·refine ⟨s,yam _ hs,h1,h2,fun u hu z=>?_⟩
     rcases yal.mp hu with rfl | hu
     ·ac_rfl
     ·exact h3 u hu z
  ·rcases zog d x r with h | ⟨s,hs,h1,h2,h3⟩
   ·left
    intro u hu z
    rcases yal.mp hu with rfl | hu
    ·ac_rfl
    ·exact h u hu z
   ·right
    refine ⟨s,yam _ hs,h1,h2,fun u hu z=>?_⟩
    rcases yal.mp hu with rfl | hu
    ·ac_rfl
    ·exact h3 u hu z
theorem zoZ (h:∀ s∈r,s.1<=x↔s.1<=y):upto r x=upto r y:=by
 unfold upto
 rw[List.filter_congr (q:=fun s=>decide (s.1<=y)) fun s hs=>decide_eq_decide.mpr (h s hs)]
noncomputable def runs:Int->List (Int × Int)->List (Int × Int)
 | _,[]=>[]
 | t,s::l=>(s.1,t+s.2)::runs (t+s.2) l
theorem zo7:∀ (l:List (Int × Int)) (t:Int) (s:Int × Int),runs t (l++[s])=runs t l++[(s.1,t+sum2 l+s.2)]
 | [],t,s=>by simp[runs,sum2]
 | u::l,t,s=>by
  simp only[List.cons_append,runs,zo7 l]
  have:t+u.2+sum2 l+s.2=t+sum2 (u::l)+s.2:=by simp[sum2];ac_rfl
  rw[this]
theorem zdX:∀ (l:List (Int × Int)) (t:Int),(runs t l).map (·.1)=l.map (·.1)
 | [],t=>rfl
 | s::l,t=>by simp[runs,zdX l]
theorem zvT (l:List (Int × Int)) (t:Int):(runs t l).length=l.length:=by
 have:=congrArg List.length (zdX l t)
 rwa [yab,yab] at this
theorem zre:∀ {l:List (Int × Int)} (t:Int),((l.map (·.1)).Pairwise (·<·))->∀ s∈runs t l,s.2=t+upto l s.1
 | [],t,_,s,h=>by simp[runs] at h
 | a::l,t,up,s,h=>by
  rw[ybm,ybr] at up
  simp only[runs] at h
  rw[zlM]
  rcases yal.mp h with rfl | h
  ·rw[if_pos (ydv _),zh7 fun u hu=>up.1 u.1 (ybg hu)]
   simp
  ·have hk:s.1∈l.map (·.1):=by rw[<-zdX l (t+a.2)];exact ybg h
   have:=up.1 _ hk
   rw[zre (t+a.2) up.2 s h,if_pos (by ac_rfl)]
   ac_rfl
theorem zuO {l:List (Int × Int)} (h:(l.map (·.1)).Pairwise (·<·)):l.Pairwise fun s t=>s.1<t.1:=by rwa [ybp] at h
theorem zqv {r:List (Int × Int)} (up:(r.map (·.1)).Pairwise (·<·)) (nn:∀ s∈r,0<=s.1) (d:Int):Sums.valOf (runs 0 r) d=upto r d:=by
 have keys:=zdX r 0
 have upr:(runs 0 r).Pairwise fun s t=>s.1<t.1:=zuO (by rw[keys];exact up)
 have t0:∀ s∈runs 0 r,0<=s.1:=fun s hs=>by
  have:s.1∈r.map (·.1):=by rw[<-keys];exact ybg hs
  obtain ⟨u,hu,e⟩:=yag.mp this
  rw[<-e];exact nn u hu
 refine Sums.Val.one (Sums.zcO t0 d) ?_
 rcases zog (-1) d r with k | ⟨s,hs,h1,h2,h3⟩
 ·have far:∀ s∈r,d<s.1:=fun s hs=>by
   have:=nn s hs
   rcases Int.lt_or_le d s.1 with c | c
   ·exact c
   ·have:=k s hs c;ac_rfl
  refine .inl ⟨zh7 far,fun s hs=>?_⟩
  have:s.1∈r.map (·.1):=by rw[<-keys];exact ybg hs
  obtain ⟨u,hu,e⟩:=yag.mp this
  rw[<-e];exact far u hu
 ·have:s.1∈(runs 0 r).map (·.1):=by rw[keys];exact ybg hs
  obtain ⟨u,hu,e⟩:=yag.mp this
  obtain ⟨n,hn⟩:=ybi.mp hu
  have uv:=zre 0 up u hu
  rw[zoZ (y:=s.1) fun v hv=>⟨h3 v hv,fun z=>by ac_rfl⟩]
  refine .inr ⟨n,s.1,by rw[hn];rw[<-e];congr 1;exact Prod.ext rfl (by rw[uv];simp),h2,fun j v hv le=>?_⟩
  have hvk:v.1∈r.map (·.1):=by rw[<-keys];exact ybg (yah hv)
  obtain ⟨w,hw,ew⟩:=yag.mp hvk
  have:=h3 w hw (by ac_rfl)
  rcases ydf j n with c | c | c
  ·have:=Stills.zrW upr hv hn c;left;ac_rfl
  ·subst c
   rw[hn] at hv
   cases hv
   right;exact ⟨e,ycx _⟩
  ·have:=Stills.zrW upr hn hv c;ac_rfl
end L2
namespace L2
open PySem PySem.Spec PyProof.Rows
open AutoSeq1 (wpAny_loadPart')
theorem znb (l:Addr) (items:Array Value) (n:Nat) (b:Addr) (items2:Array Value) (n2:Nat) (dd:Option Addr) (ss:Array (Option Value)) (hs0:¬(!items.isEmpty && Builtin.List.listTooLong (items.size+items2.size))=true) (hs1:items.size<=sizeLine) (hs2:items.size+items2.size<=sizeLine+1) :
  Meets (Builtin.«list.extend» ⟨[.ref l,.ref b],[]⟩) (fun _ R s=>s.heap.get? l=some { cls:=.type "list", dict:=none,data:=.seq items n,slots:=#[] }/\s.heap.get? b=some { cls:=.type "tuple", dict:=dd,data:=.seq items2 n2,slots:=ss }/\R (.ok (.ret Value.none)) { s with heap:=s.heap.update l (Obj.mapSeq fun x=>x++items2),toks:=s.toks }) :=
 .of_wp fun prog w A R s h=>by
  obtain ⟨hp,g,d,tk,os⟩:=s;obtain ⟨hl,hb,h⟩:=h;have f1:=AutoSeq1.idx_int;have f2:=sub_tuple_tuple;have f3:=sub_list_list;have f4:=sub_tuple_list;have f5:=sub_list_tuple;
  have hz':(items++items2).size<=sizeLine+1:=by rw[Array.size_append];exact hs2
  wp_walk using (wpAny_updateSeq hl rfl (hz:=hs1) (_hz':=hz')),wpAny_loadPart' hl,wpAny_loadPart' hb;exact ⟨_,rfl,h⟩
noncomputable def zwv:V->List V->Hp->VK->Prop:=fun x vs H Q=>∃ l b xs zs,x=.ref l/\vs=[.ref b]/\H l=some (.lst xs)/\H b=some (.tup zs)/\xs.length+zs.length<=sizeLine/\Q .non (upd H l (.lst (xs++zs)))
theorem zt2:MtM X "list.extend" zwv:=by
 intro pins s σ H x vs v us Q I rx rv h
 obtain ⟨l,b,xs,zs,rfl,rfl,hH,hB,hz,q⟩:=h
 cases rx
 obtain ⟨u,rfl,ru⟩:=rv.one
 cases ru
 obtain ⟨z,its,n,r,hl,e⟩:=I.zlF hH
 obtain ⟨z2,its2,r2,tp⟩:=(show zar X.prog X.w H s.heap b (.tup zs) from I.hok b _ hB)
 have hl2:=r2.length
 obtain ⟨⟨c,dd,dt,ss⟩,e2,oc,n2,od⟩:=(show s.heap.IsTuple b its2.toArray from tp)
 replace oc:c=.type "tuple" := oc
 replace od:dt=.seq its2.toArray n2:=od
 subst oc od
 have hsz:its.toArray.size+its2.toArray.size<=sizeLine:=by rw[yak,yak];ac_rfl
 have hlong:¬ (!its.toArray.isEmpty && Builtin.List.listTooLong (its.toArray.size+its2.toArray.size))=true:=by
  rw[zm9 hsz,Bool.and_false]
  exact Bool.false_ne_true
 refine call_meets F.slot_list_extend ⟨_,e,rfl⟩ F.entry_list_extend (F.args_list_extend_2 _ _)
  (znb l its.toArray n b its2.toArray n2 dd ss hlong (by rw[yak];ac_rfl) (by ac_rfl)) ⟨e,e2,?_⟩
 refine ⟨.non,_,I.lset (its':=its++its2) hH e (by simp) (r.append r2) ?_,rfl,q⟩
 rw[yaf]
 ac_rfl
end L2
namespace L2
open PySem
noncomputable def csum (U f:Int->Int) (a b:Int):Int:=Sums.sum (fun d=>(U (d+1)-U d)*f d) a b
theorem znc (h1:a<=c) (h2:c<=b):csum U f a b=csum U f a c+csum U f c b:=Sums.sum_add h1 h2
theorem zjP (h:b<=a):csum U f a b=0:=Sums.zyE h
theorem zve (xy:x<=y) (h:∀ d,x<=d->d<y->f d=f x):csum U f x y=(U y-U x)*f x:=Sums.zwE xy fun d h1 h2=>by rw[h d h1 h2]
noncomputable def zd6 (b:BkT) (d:Int):Int:=if Spans.isIn b.spans d then 0 else Sums.valOf b.rates d
noncomputable def zeg (b:BkT) (d:Int):Int:=if Spans.isIn b.spans d then 0 else Sums.valOf b.lates d
noncomputable def zdP (b:BkT) (d:Int):Int:=if Spans.isIn b.spans d then 0 else p0 (upto b.dues (d-b.g)-upto b.pays d)
noncomputable def zax (b:BkT) (P d:Int):Int:=zd6 b d*P+zeg b d*mn P (zdP b d)
def TDay (b:BkT) (t:Int):Prop:=t=0\/(∃ s∈b.rates++b.lates++b.pays,t=s.1)\/(∃ s∈b.dues,t=s.1+b.g)\/∃ s∈b.spans,t=s.1\/t=s.2
theorem stay (xz:x<=z) (h:∀ t,TDay b t->¬ (x<t/\t<=z)):zd6 b z=zd6 b x/\zeg b z=zeg b x/\zdP b z=zdP b x:=by
 have i1:Spans.isIn b.spans x=Spans.isIn b.spans z:=Stills.zxi (fun _=>Iff.rfl) xz fun s hs e q1 q2=>⟨fun k=>h e (.inr (.inr (.inr ⟨s,hs,.inl k⟩))) ⟨q1,q2⟩,fun k=>h e (.inr (.inr (.inr ⟨s,hs,.inr k⟩))) ⟨q1,q2⟩⟩
 have r1:Sums.valOf b.rates x=Sums.valOf b.rates z:=Stills.zm0 xz fun s hs q=>h s.1 (.inr (.inl ⟨s,yae.mpr (.inl (yae.mpr (.inl hs))),rfl⟩)) q
 have l1:Sums.valOf b.lates x=Sums.valOf b.lates z:=Stills.zm0 xz fun s hs q=>h s.1 (.inr (.inl ⟨s,yae.mpr (.inl (yae.mpr (.inr hs))),rfl⟩)) q
 have p1:upto b.pays z=upto b.pays x:=zoZ fun s hs=>by
  have:=h s.1 (.inr (.inl ⟨s,yae.mpr (.inr hs),rfl⟩))
  ac_rfl
 have d1:upto b.dues (z-b.g)=upto b.dues (x-b.g):=zoZ fun s hs=>by
  have:=h (s.1+b.g) (.inr (.inr (.inl ⟨s,hs,rfl⟩)))
  ac_rfl
 unfold zd6 zeg zdP
 rw[i1,r1,l1,p1,d1]
 exact ⟨rfl,rfl,rfl⟩
theorem zu4 (xz:x<=z) (h:∀ t,TDay b t->¬ (x<t/\t<=z)):zax b P z=zax b P x:=by
 obtain ⟨h1,h2,h3⟩:=stay xz h
 unfold zax
 rw[h1,h2,h3]
structure BOk (b:BkT):Prop where
 ru:b.rates.Pairwise fun s t=>s.1<t.1
 rn:∀ s∈b.rates,0<=s.1/\0<=s.2/\s.2<=1000000
 lu:b.lates.Pairwise fun s t=>s.1<t.1
 ln:∀ s∈b.lates,0<=s.1/\0<=s.2/\s.2<=1000000
 pu:(b.pays.map (·.1)).Pairwise (·<·)
 pn:∀ s∈b.pays,0<=s.1
 du:(b.dues.map (·.1)).Pairwise (·<·)
 dn:∀ s∈b.dues,0<=s.1
 jn:Spans.Joined b.spans
 sn:∀ s∈b.spans,0<=s.1
 g0:0<=b.g
 sz:b.rates.length+b.lates.length+b.pays.length+b.dues.length+2*b.spans.length<63
theorem zkX (h:∀ s∈t,0<=s.1/\0<=s.2/\s.2<=1000000) (d:Int):0<=Sums.valOf t d/\Sums.valOf t d<=1000000:=by
 rcases Sums.zcO (fun s hs=>(h s hs).1) d with ⟨e,_⟩ | ⟨i,x,e,_⟩
 ·rw[e];exact ⟨ydv _,by decide⟩
 ·exact (h _ (yah e)).2
theorem BOk.rt (O:BOk b) (d:Int):0<=zd6 b d/\zd6 b d<=1000000:=by
 unfold zd6
 split
 ·exact ⟨ydv _,by decide⟩
 ·exact zkX O.rn d
theorem BOk.lt (O:BOk b) (d:Int):0<=zeg b d/\zeg b d<=1000000:=by
 unfold zeg
 split
 ·exact ⟨ydv _,by decide⟩
 ·exact zkX O.ln d
noncomputable def shf (g:Int) (l:List (Int × Int)):List (Int × Int):=l.map fun s=>(s.1+g,s.2)
theorem zv9 (g:Int) (l:List (Int × Int)) (d:Int):upto (shf g l) d=upto l (d-g):=by
 unfold upto shf
 rw[List.filter_map,ybl]
 congr 1
 rw[List.filter_congr (q:=fun s=>decide (s.1<=d-g)) fun s hs=>by
  show decide (s.1+g<=d)=decide (s.1<=d-g)
  exact decide_eq_decide.mpr ⟨fun h=>by ac_rfl,fun h=>by ac_rfl⟩]
 rfl
theorem zvG (h:(l.map (·.1)).Pairwise (·<·)):((shf g l).map (·.1)).Pairwise (·<·):=by
 unfold shf
 rw[ybl]
 rw[ybp] at h ⊢
 exact h.imp fun {a b} z=>by show a.1+g<b.1+g;ac_rfl
noncomputable def R4 (b:BkT) (H:Hp):List V->List Int->Prop:=LL fun v d=>∃ t,v=.ref t/\H t=some (.tup [.int d,.int (zd6 b d),.int (zeg b d),.int (zdP b d)])
theorem R4.same (h:R4 b H xs l) (s:Same H H'):R4 b H' xs l:=LL.imp (fun v e ⟨t,e1,e2⟩=>⟨t,e1,s _ _ e2⟩) h
theorem R4.put (h:R4 b H xs l) (hp:H p=some (.lst ys)):R4 b (upd H p (.lst zs)) xs l:=LL.imp (fun v e ⟨t,e1,e2⟩=>⟨t,e1,by rw[zr (zae e2 hp (by intro z;cases z))];exact e2⟩) h
noncomputable def RF (H:Hp):List V->List Int->Prop:=LL fun v d=>∃ t ws,v=.ref t/\H t=some (.tup (.int d::ws))
theorem R4.rf (h:R4 b H xs l):RF H xs l:=LL.imp (fun v e ⟨t,e1,e2⟩=>⟨t,_,e1,e2⟩) h
theorem zts (h:zH K H xs l):RF H xs (l.map (·.1)):=by
 induction h with
 | nil=>exact .nil
 | cons h _ ih=>exact .cons ⟨_,_,rfl,h⟩ ih
structure zoI (ds:List Int) (d:Int) (n:Nat):Prop where
 le:n<=ds.length
 lo:∀ i x,i<n->ds[i]?=some x->x<=d
 hi:∀ i x,n<=i->ds[i]?=some x->d<x
theorem zoI.rows (h:zoI (l.map (·.1)) d n):Stills.Begun l d n :=
 ⟨by have:=h.le;rwa [yab] at this,fun i s hi hs=>h.lo i s.1 hi (by rw[yai,hs];rfl),fun i s hi hs=>h.hi i s.1 hi (by rw[yai,hs];rfl)⟩
theorem zc9 {ds:List Int} (up:ds.Pairwise (·<·)) {i j:Nat} {s t:Int} (hs:ds[i]?=some s) (ht:ds[j]?=some t) (ij:i<j):s<t:=by
 obtain ⟨hi,rfl⟩:=yac.mp hs
 obtain ⟨hj,rfl⟩:=yac.mp ht
 exact ybb.mp up i j hi hj ij
theorem zvA {b:BkT} {P:Int} {U:Int->Int} {ds:List Int} (mem:∀ d,d∈ds↔TDay b d) (up:ds.Pairwise (·<·)) {st e x:Int} {n:Nat} (hx:ds[n]?=some x) (h1:x<=st) (h2:st<=e) (h3:∀ y,ds[n+1]?=some y->e<=y):csum U (zax b P) st e=(U e-U st)*zax b P x:=by
 have none:∀ z,x<=z->z<e->∀ t,TDay b t->¬ (x<t/\t<=z):=fun z h4 h5 t ht q=>by
  obtain ⟨j,hj⟩:=ybi.mp ((mem t).mpr ht)
  have jn:n<j:=by
   rcases ydf n j with c | c | c
   ·exact c
   ·subst c;rw[hx] at hj;have:=Option.some.inj hj;ac_rfl
   ·have:=zc9 up hj hx c;ac_rfl
  have jl:=(yac.mp hj).1
  have hy:ds[n+1]?=some (ds[n+1]'(by ac_rfl)):=yaa (by ac_rfl)
  have hh:=h3 _ hy
  by_cases c:j=n+1
  ·subst c;rw[hj] at hy;have:=Option.some.inj hy;ac_rfl
  ·have:=zc9 up hy hj (by ac_rfl);ac_rfl
 have e1:∀ z,x<=z->z<e->zax b P z=zax b P x:=fun z h4 h5=>zu4 h4 (none z h4 h5)
 rcases Int.lt_or_le st e with c | c
 ·rw[zve h2 fun d d1 d2=>by rw[e1 d (by ac_rfl) d2,e1 st h1 c],e1 st h1 c]
 ·have:st=e:=by ac_rfl
  subst this
  rw[zjP (ydv _),Int.sub_self,Int.zero_mul]
theorem zj9 (h:zH K H xs l) (k:zH K H ys r):zH K H (xs++ys) (l++r):=by
 induction h with
 | nil=>exact k
 | cons h _ ih=>exact .cons h ih
end L2
namespace L2
open PySem
theorem zlw:∀ {xs ys:List Int},xs.Nodup->(∀ x∈xs,x∈ys)->xs.length<=ys.length
 | [],_,_,_=>yda _
 | x::xs,ys,nd,h=>by
  have hx:=h x yap
  obtain ⟨nx,nd'⟩:=ybj.mp nd
  have:=zlw (ys:=ys.erase x) nd' fun z hz=>(ycn (fun (q:z=x)=>nx (by rw[<-q];exact hz))).mpr (h z (yam _ hz))
  rw[ycb hx] at this
  have:=ybv hx
  rw[ybh]
  ac_rfl
theorem zlX:∀ (l:List (Int × Int)) (d:Int),upto l d=upto l (d-1)+Sby.sm l d
 | [],d=>by simp[upto,Sby.sm]
 | s::l,d=>by
  rw[zlM,zlM,zeV,zlX l d]
  by_cases c:s.1=d
  ·rw[if_pos (by ac_rfl),if_neg (by ac_rfl),if_pos c];ac_rfl
  ·by_cases c2:s.1<=d
   ·rw[if_pos c2,if_pos (by ac_rfl),if_neg c];ac_rfl
   ·rw[if_neg c2,if_neg (by ac_rfl),if_neg c];ac_rfl
theorem znZ (b0:0<=b) (h:∀ s∈l,b<=s.1) (hx:x<b):Sums.valOf l x=0 :=
 Sums.Val.one (Sums.zcO (fun s hs=>by have:=h s hs;ac_rfl) x) (.inl ⟨rfl,fun s hs=>by have:=h s hs;ac_rfl⟩)
theorem ztb {l:List (Int × Int)} (h0:∀ s∈l,0<=s.1) (d:Int):((lkI (zcD l) d).map V.int).getD (.int (Sums.valOf l (d-1)))=.int (Sums.valOf l d):=by
 have I:=Dct.dct_is _ l rfl h0
 unfold lkI
 cases e:(zcD l).find? (fun p=>p.1=d) with
 | none =>
  have nk:∀ s∈l,s.1≠d:=fun s hs z=>by
   obtain ⟨u,hu,e2⟩:=(I.days d).mpr ⟨s,hs,z.symm⟩
   have:=ycr.mp e u hu
   exact this (by simpa using e2.symm)
  show V.int (Sums.valOf l (d-1))=V.int (Sums.valOf l d)
  rw[Stills.zm0 (x:=d-1) (y:=d) (by ac_rfl) fun s hs q=>nk s hs (by ac_rfl)]
 | some p =>
  have hp:=ycm e
  have ep:p.1=d:=by simpa using List.find?_some e
  have:=I.val p hp
  rw[ep] at this
  rw[<-this]
  rfl
theorem zpr:∀ es:List Er,(prs "rate" es).length+(prs "late" es).length+(prs "pay" es).length+(prs "due" es).length+2*(prs "still" es).length<=2*es.length
 | []=>by simp[prs]
 | e::es=>by
  have ih:=zpr es
  have st:∀ w:Str,(prs w (e::es)).length=(if isW w e=true then 1 else 0)+(prs w es).length:=fun w=>by
   unfold prs
   by_cases c:isW w e=true
   ·rw[yau c,if_pos c];simp;ac_rfl
   ·rw[yav c,if_neg c];simp
  rw[st,st,st,st,st,ybh]
  obtain ⟨k,d,x⟩:=e
  have one:(if isW "rate" (k,d,x)=true then 1 else 0)+(if isW "late" (k,d,x)=true then 1 else 0)+(if isW "pay" (k,d,x)=true then 1 else 0)+(if isW "due" (k,d,x)=true then 1 else 0)+2*(if isW "still" (k,d,x)=true then 1 else 0)<=2:=by
   have one:∀ k:Ek,(if isW "rate" (k,0,0)=true then 1 else 0)+(if isW "late" (k,0,0)=true then 1 else 0)+(if isW "pay" (k,0,0)=true then 1 else 0)+(if isW "due" (k,0,0)=true then 1 else 0)+2*(if isW "still" (k,0,0)=true then 1 else 0)<=2:=fun k=>by cases k <;> decide
   exact one k
  ac_rfl
theorem zyu (I:zbj b) (f0:0<=f) (g0:0<=b.g) (day:∀ e∈b.es,f<=e.2.1) (rt:∀ w:Str,(w = "rate" \/ w = "late")->∀ s∈prs w b.es,0<=s.2/\s.2<=1000000) (len:b.es.length<=31):BOk b:=by
 have pd:∀ w:Str,∀ s∈prs w b.es,f<=s.1:=fun w s hs=>by
  obtain ⟨e,he,rfl⟩:=yag.mp hs
  exact day e (yao.mp he).1
 have tb:∀ (w:Str) (t:List (Int × Int)),(w = "rate" \/ w = "late")->Stills.TabOf (prs w b.es) t/\t=(t.map (·.1)).map (fun d=>(d,Sums.valOf (prs w b.es) d))->(∀ s∈t,0<=s.1/\0<=s.2/\s.2<=1000000)/\t.length<=(prs w b.es).length:=fun w t hw ⟨T,e⟩=>by
  have nn:∀ s∈prs w b.es,0<=s.1/\0<=s.2/\s.2<=1000000:=fun s hs=>⟨by have:=pd w s hs;ac_rfl,rt w hw s hs⟩
  refine ⟨fun s hs=>?_,?_⟩
  ·have d0:0<=s.1:=T.nn (fun s hs=>(nn s hs).1) s hs
   rw[e] at hs
   obtain ⟨d,_,rfl⟩:=yag.mp hs
   exact ⟨d0,zkX nn d⟩
  ·have nd:(t.map (·.1)).Nodup:=by
    have:=T.up
    rw[<-ybp (f:=fun s:Int × Int=>s.1) (R:=(·<·))] at this
    exact Sby.zem this
   have:=zlw nd fun k hk=>by
    obtain ⟨s,hs,e2⟩:=yag.mp hk
    obtain ⟨u,hu,e3⟩:=(T.days k).mp ⟨s,hs,e2.symm⟩
    exact yag.mpr ⟨u,hu,e3.symm⟩
   rwa [yab,yab] at this
 have tl:∀ {r l:List (Int × Int)},Sby.Tab r l->r.length<=l.length:=fun {r l} T=>by
  have:=zlw (Sby.zem T.up) fun k hk=>(T.mem k).mp hk
  rwa [yab,yab] at this
 obtain ⟨r1,r2⟩:=tb "rate" b.rates (.inl rfl) I.rates
 obtain ⟨l1,l2⟩:=tb "late" b.lates (.inr rfl) I.lates
 have fr:∀ d,d<=mvd (prs "still" b.es) d:=fun d=>(zn0 _ d).from_
 have wl:=zpr b.es
 have dl:=tl I.dues
 have pl:=tl I.pays
 have jl:=Stills.zvz I.spans.1 I.spans.2
 have ml:(mvp (mvd (prs "still" b.es)) (prs "due" b.es)).length=(prs "due" b.es).length:=yab ..
 refine ⟨I.rates.1.up,r1,I.lates.1.up,l1,I.pays.up,fun s hs=>?_,I.dues.up,fun s hs=>?_,I.spans.1,fun s hs=>?_,g0,by ac_rfl⟩
 ·obtain ⟨u,hu,e⟩:=yag.mp ((I.pays.mem s.1).mp (ybg hs))
  have:=pd _ u hu
  ac_rfl
 ·obtain ⟨u,hu,e⟩:=yag.mp ((I.dues.mem s.1).mp (ybg hs))
  obtain ⟨v,hv,rfl⟩:=yag.mp hu
  have:=pd _ v hv
  have:=fr v.1
  have e':mvd (prs "still" b.es) v.1=s.1:=e
  ac_rfl
 ·have lt:s.1<s.2:=I.spans.1.up s hs
  obtain ⟨u,hu,h1,h2⟩:=(I.spans.2 s.1).mp ⟨s,hs,ydv _,lt⟩
  have:=pd _ u hu
  ac_rfl
end L2
namespace L2
open PySem
noncomputable abbrev Q4:=Int × Int × Int × Int
noncomputable def ddE (es:List Er) (d:Int):Q4:=(Sby.sm (prs "out" es) d,Sby.sm (prs "fee" es) d,if d∈dys "turn" es then 1 else 0,Sby.sm (prs "pay" es) d)
noncomputable def ddo (b:BkT) (d:Int):Q4:=ddE b.es d
noncomputable def doD (u:Int) (q:Q4) (s:Int × Int):Int × Int :=
 let s1:=Dbt.step u .lend q.1 s.1 s.2
 let s2:=Dbt.step u .fee q.2.1 s1.1 s1.2
 let s3:=if q.2.2.1=1 then Dbt.step u .turn 0 s2.1 s2.2 else s2
 Dbt.step u .take q.2.2.2 s3.1 s3.2
theorem zwz (hu:0<u) (l0:0<=q.1) (g:Dbt.Good u s.1 s.2):Dbt.Good u (doD u q s).1 (doD u q s).2:=by
 unfold doD
 have g1:=Dbt.zdV (w:=.lend) hu (show Dbt.Okd .lend q.1 from l0) g
 have g2:=Dbt.zdV (w:=.fee) (x:=q.2.1) hu True.intro g1
 dsimp only
 split
 ·exact Dbt.zdV (w:=.take) hu True.intro (Dbt.zdV (w:=.turn) (x:=0) hu True.intro g2)
 ·exact Dbt.zdV (w:=.take) hu True.intro g2
theorem clamp (g:Dbt.Good u m n):Dbt.mn m (Dbt.mx 0 (n / u))=m:=by
 have h:=g.2
 unfold Dbt.mn
 rw[if_neg (by ac_rfl)]
theorem zvX (g:Dbt.Good u s.1 s.2):doD u (0,0,0,0) s=s:=by
 obtain ⟨m,n⟩:=s
 have c:Dbt.mn m (Dbt.mx 0 (n / u))=m:=clamp g
 simp[doD,Dbt.step,c]
section
variable (U:Int->Int) (u:Int) (b:BkT)
noncomputable def stB:Nat->Int × Int
 | 0=>(0,0)
 | k+1=>let s:=doD u (ddo b k) (stB k);(s.1,s.2+(U (k+1)-U k)*zax b s.1 k)
noncomputable def stA (k:Nat):Int × Int:=doD u (ddo b k) (stB U u b k)
def znk (d:Int):Prop:=ddo b d=(0,0,0,0)
end
structure AOk (U:Int->Int) (u:Int) (b:BkT):Prop where
 hu:0<u
 out0:∀ d,0<=Sby.sm (prs "out" b.es) d
 up:∀ d:Nat,U d<=U (d+1)
 ok:BOk b
section
variable {U:Int->Int} {u:Int} {b:BkT}
theorem lk0 (d:Int):0<=zdP b d:=by
 unfold zdP p0
 split
 ·exact ydv _
 ·split <;> ac_rfl
theorem zzk (O:BOk b) (p:0<=P) (d:Int):0<=zax b P d:=by
 unfold zax
 have h1:=O.rt d
 have h2:=O.lt d
 have h3:=lk0 (b:=b) d
 have h4:0<=mn P (zdP b d):=by unfold mn;split <;> ac_rfl
 have:=Int.mul_nonneg h1.1 p
 have:=Int.mul_nonneg h2.1 h4
 ac_rfl
theorem zuV (d:Int):zax b 0 d=0:=by
 unfold zax
 have h3:=lk0 (b:=b) d
 have:mn 0 (zdP b d)=0:=by unfold mn;rw[if_neg (by ac_rfl)]
 rw[this]
 simp
theorem zrO (A:AOk U u b):∀ k,Dbt.Good u (stB U u b k).1 (stB U u b k).2
 | 0=>Dbt.good0 u
 | k+1=>by
  have g:=zwz (q:=ddo b k) A.hu (A.out0 k) (zrO A k)
  have w:0<=(U (k+1)-U k)*zax b (doD u (ddo b k) (stB U u b k)).1 k:=Int.mul_nonneg (by have:=A.up k;ac_rfl) (zzk A.ok g.1 k)
  exact Dbt.zdV (w:=.grow) A.hu (show Dbt.Okd .grow _ from w) g
theorem zrR (A:AOk U u b) {k:Nat} (h:znk b k):stA U u b k=stB U u b k:=by
 unfold stA
 rw[h]
 exact zvX (zrO A k)
theorem zno (k:Nat):stB U u b (k+1)=((stA U u b k).1,(stA U u b k).2+(U (k+1)-U k)*zax b (stA U u b k).1 k):=rfl
theorem zrX (f:Int->Int) (a:Int):csum U f a (a+1)=(U (a+1)-U a)*f a:=by
 unfold csum Sums.sum
 rw[show (a+1-a).toNat=1 by ac_rfl]
 simp[Sums.S]
theorem run (A:AOk U u b) (s:Nat):∀ n:Nat,(∀ k:Nat,s<=k->k<s+n->znk b k)->stB U u b (s+n)=((stB U u b s).1,(stB U u b s).2+csum U (zax b (stB U u b s).1) s (s+n:Nat))
 | 0,_=>by rw[zjP (by ac_rfl)];simp
 | n+1,h=>by
  have ih:=run A s n fun k h1 h2=>h k h1 (by ac_rfl)
  rw[show s+(n+1)=(s+n)+1 from rfl,zno,zrR A (h (s+n) (by ac_rfl) (by ac_rfl)),ih]
  have e2:csum U (zax b (stB U u b s).1) s (((s+n)+1:Nat):Int)=csum U (zax b (stB U u b s).1) s ((s+n:Nat):Int)+(U (((s+n:Nat):Int)+1)-U ((s+n:Nat):Int))*zax b (stB U u b s).1 ((s+n:Nat):Int):=by
   rw[show (((s+n)+1:Nat):Int)=((s+n:Nat):Int)+1 by ac_rfl,znc (a:=(s:Int)) (b:=((s+n:Nat):Int)+1) (c:=((s+n:Nat):Int)) (by ac_rfl) (by ac_rfl),zrX]
  rw[e2]
  exact Prod.ext rfl (Int.add_assoc ..)
theorem first (A:AOk U u b) (e0:0<=e) (h:∀ d,0<=d->d<e->znk b d):stB U u b e.toNat=(0,0+csum U (zax b 0) 0 e):=by
 have r:=run A 0 e.toNat fun k _ h2=>h k (by ac_rfl) (by ac_rfl)
 rw[show ((0+e.toNat:Nat):Int)=e by ac_rfl,Nat.zero_add] at r
 exact r
theorem zxZ (A:AOk U u b) (e0:0<=e) (h:∀ d,0<=d->d<e->znk b d):stB U u b e.toNat=(0,0):=by
 rw[first A e0 h]
 have:csum U (zax b 0) 0 e=0:=by
  unfold csum
  rw[Sums.zpa (g:=fun _=>0) fun d _ _=>by rw[zuV];exact Int.mul_zero _]
  exact Sums.zuQ _ _
 rw[this]
 rfl
theorem next (A:AOk U u b) (s0:0<=s) (se:s<e) (h:∀ d,s<d->d<e->znk b d):stB U u b e.toNat=((stA U u b s.toNat).1,(stA U u b s.toNat).2+csum U (zax b (stA U u b s.toNat).1) s e):=by
 have r:=run A (s.toNat+1) (e-s-1).toNat fun k h1 h2=>h k (by ac_rfl) (by ac_rfl)
 rw[show s.toNat+1+(e-s-1).toNat=e.toNat by ac_rfl,zno] at r
 have e2:csum U (zax b (stA U u b s.toNat).1) s e=(U (s+1)-U s)*zax b (stA U u b s.toNat).1 s+csum U (zax b (stA U u b s.toNat).1) (s+1) e:=by
  rw[znc (a:=s) (b:=e) (c:=s+1) (by ac_rfl) (by ac_rfl),zrX]
 rw[r,e2,show ((s.toNat:Nat):Int)=s by ac_rfl,show ((e.toNat:Nat):Int)=e by ac_rfl,show (((s.toNat+1:Nat)):Int)=s+1 by ac_rfl]
 exact Prod.ext rfl (Int.add_assoc ..)
end
theorem stored_new (h:k ∉ l.map (·.1)):zav l k y=l++[(k,y)]:=by
 unfold zav
 rw[if_neg]
 intro z
 obtain ⟨p,hp,e⟩:=yca.mp z
 exact h (yag.mpr ⟨p,hp,by simpa using e⟩)
theorem zti:∀ (l acc:List (Int × Int)),((acc++l).map (·.1)).Nodup->l.foldl (fun acc s=>zav acc s.1 s.2) acc=acc++l
 | [],acc,_=>by simp
 | s::l,acc,h=>by
  rw[ybx,stored_new]
  ·rw[zti l (acc++[(s.1,s.2)]) (by simpa using h)]
   simp
  ·intro z
   rw[yar,ycd] at h
   exact h.2.2 s.1 z s.1 (by simp) rfl
theorem zpt (h:(l.map (·.1)).Nodup):zcD l=l:=by
 have:=zti l [] (by simpa using h)
 simpa [zcD] using this
theorem zwJ (T:Sby.Tab r l):Sby.Tot r l:=⟨Sby.zem T.up,T.mem,T.val⟩
theorem zoW {r l:List (Int × Int)} (T:Sby.Tab r l) (k:Int):((lkI (zcD r) k).map V.int).getD (.int 0)=.int (Sby.sm l k):=by
 rw[zpt (Sby.zem T.up)]
 exact (zwJ T).look k
theorem zwu {ns:List Int} (nd:ns.Nodup) (k:Int):((lkI (zcD (ns.map fun d=>(d,1))) k).map V.int).getD (.int 0)=.int (if k∈ns then 1 else 0):=by
 rw[zpt (by rw[ybl,show ((fun x:Int × Int=>x.1) ∘ fun d:Int=>(d,(1:Int)))=id from rfl,ycw];exact nd)]
 unfold lkI
 by_cases c:k∈ns
 ·rw[if_pos c]
  have:(ns.map fun d=>(d,(1:Int))).find? (fun p=>decide (p.1=k))=some (k,1):=by
   clear nd
   induction ns with
   | nil=>cases c
   | cons n ns ih =>
    rw[ybm]
    by_cases e:n=k
    ·subst e;rw[yas (by simp)]
    ·rw[yan (by simpa using e)]
     exact ih ((yal.mp c).resolve_left fun z=>e z.symm)
  rw[this];rfl
 ·rw[if_neg c,ycr.mpr]
  ·rfl
  ·intro p hp e
   obtain ⟨d,hd,rfl⟩:=yag.mp hp
   have:d=k:=by simpa using e
   exact c (this ▸ hd)
noncomputable def R5 (b:BkT) (H:Hp):List V->List Int->Prop:=LL fun v d=>∃ t,v=.ref t/\H t=some (.tup [.int d,.int (ddo b d).1,.int (ddo b d).2.1,.int (ddo b d).2.2.1,.int (ddo b d).2.2.2])
theorem R5.same (h:R5 b H xs l) (s:Same H H'):R5 b H' xs l:=LL.imp (fun v e ⟨t,e1,e2⟩=>⟨t,e1,s _ _ e2⟩) h
def DDay (b:BkT) (d:Int):Prop:=d∈(b.outs++b.fees++b.pays).map (·.1)\/d∈b.turns
theorem zu8 (I:zbj b) (h:¬ DDay b d):znk b d:=by
 unfold DDay at h
 rw[yar,yar,yae,yae] at h
 have h1:d ∉ b.outs.map (·.1):=fun z=>h (.inl (.inl (.inl z)))
 have h2:d ∉ b.fees.map (·.1):=fun z=>h (.inl (.inl (.inr z)))
 have h3:d ∉ b.pays.map (·.1):=fun z=>h (.inl (.inr z))
 have h4:d ∉ dys "turn" b.es:=fun z=>h (.inr ((I.turns.mem d).mpr z))
 unfold znk ddo ddE
 rw[if_neg h4,Sby.ze1 (fun z=>h1 ((I.outs.mem d).mpr z)),Sby.ze1 (fun z=>h2 ((I.fees.mem d).mpr z)),Sby.ze1 (fun z=>h3 ((I.pays.mem d).mpr z))]
noncomputable def DbL (K:W.Frag) (u:Int) (f:Int->Int × Int) (p:Addr) (G H:Hp):List V->List Int->Prop:=LL fun v d=>∃ x dx,v=.ref x/\(x≠p/\G x=none)/\Deb K H x dx u (f d).1 (f d).2
theorem DbL.same (h:DbL K u f p G H xs l) (s:Same H H'):DbL K u f p G H' xs l:=LL.imp (fun v e ⟨x,dx,e1,e2,e3⟩=>⟨x,dx,e1,e2,s _ _ e3⟩) h
theorem DbL.old (h:DbL K u f p G H xs l) (s:Same G' G):DbL K u f p G' H xs l:=LL.imp (fun v e ⟨x,dx,e1,e2,e3⟩=>⟨x,dx,e1,⟨e2.1,zx s e2.2⟩,e3⟩) h
theorem DbL.put (h:DbL K u f p G H xs l):DbL K u f p G (upd H p o) xs l:=LL.imp (fun v e ⟨x,dx,e1,e2,e3⟩=>⟨x,dx,e1,e2,by show (upd H p o) x=_;rw[zr e2.1];exact e3⟩) h
theorem DbL.putL (h:DbL K u f p G H xs l) (hq:H q=some (.lst ys)):DbL K u f p G (upd H q o) xs l:=LL.imp (fun v e ⟨x,dx,e1,e2,e3⟩=>⟨x,dx,e1,e2,Deb.putL e3 hq⟩) h
theorem zsO (h:k ∉ l.map (·.1)):za2 l k y=l++[(k,y)]:=by
 unfold za2
 rw[if_neg]
 intro z
 obtain ⟨p,hp,e⟩:=yca.mp z
 exact h (yag.mpr ⟨p,hp,by simpa using e⟩)
theorem zte:∀ (l acc:List (Int × V)),((acc++l).map (·.1)).Nodup->l.foldl (fun acc s=>za2 acc s.1 s.2) acc=acc++l
 | [],acc,_=>by simp
 | s::l,acc,h=>by
  rw[ybx,zsO]
  ·rw[zte l (acc++[(s.1,s.2)]) (by simpa using h)]
   simp
  ·intro z
   rw[yar,ycd] at h
   exact h.2.2 s.1 z s.1 (by simp) rfl
theorem zvE (h:(l.map (·.1)).Nodup):ztL l=l:=by
 have:=zte l [] (by simpa using h)
 simpa [ztL] using this
theorem ztu:∀ {ds:List Int} {ws:List V},ds.length=ws.length->ds.Nodup->∀ {i:Nat} {d:Int} {v:V},ds[i]?=some d->ws[i]?=some v->lkV (ds.zip ws) d=some v
 | [],_,_,_,i,d,v,e,_=>by simp at e
 | x::ds,[],len,_,_,_,_,_,_=>by simp at len
 | x::ds,y::ws,len,nd,i,d,v,e1,e2=>by
  unfold lkV
  rw[List.zip_cons_cons]
  cases i with
  | zero =>
   cases e1;cases e2
   rw[yas (by simp)];rfl
  | succ i =>
   have hd:d∈ds:=yah e1
   obtain ⟨n1,n2⟩:=ybj.mp nd
   rw[yan (by simp;intro z;exact n1 (z ▸ hd))]
   exact ztu (by simpa using len) n2 e1 e2
structure zyg (U:Int->Int) (u:Int) (b:BkT):Prop where
 is:zbj b
 ok:AOk U u b
 sz:b.outs.length+b.fees.length+b.pays.length+b.turns.length<=40
 d0:∀ d,DDay b d->0<=d
 u1:u<1152921504606846976
def DE (es:List Er) (d:Int):Prop:=∃ e∈es,e.2.1=d/\inV (.str e.1.word) [.str "out", .str "fee", .str "turn", .str "pay"]=true
def zdU (H:Hp) (es fs:List Er) (l:List (Int × V)):Prop:=∀ k,(DE fs k/\∃ t,lkV l k=some (.ref t)/\H t=some (.tup [.int (ddE es k).1,.int (ddE es k).2.1,.int (ddE es k).2.2.1,.int (ddE es k).2.2.2]))\/(¬ DE fs k/\lkV l k=none)
theorem zdU.same (h:zdU H es fs l) (s:Same H H'):zdU H' es fs l:=fun k=>by
 rcases h k with ⟨h1,t,h2,h3⟩ | h1
 ·exact .inl ⟨h1,t,h2,s _ _ h3⟩
 ·exact .inr h1
theorem ztW (h:¬ DE es d):ddE es d=(0,0,0,0):=by
 have n:∀ w:Str,(w = "out" \/ w = "fee" \/ w = "turn" \/ w = "pay")->∀ e∈es.filter (isW w),e.2.1≠d:=fun w hw e he z=>by
  obtain ⟨h1,h2⟩:=yao.mp he
  have ew:e.1.word=w:=V.str.inj (of_decide_eq_true h2)
  refine h ⟨e,h1,z,?_⟩
  rw[ew]
  rcases hw with rfl | rfl | rfl | rfl <;> decide
 have k:∀ w:Str,(w = "out" \/ w = "fee" \/ w = "turn" \/ w = "pay")->d ∉ (prs w es).map (·.1):=fun w hw z=>by
  obtain ⟨s,hs,e⟩:=yag.mp z
  obtain ⟨x,hx,rfl⟩:=yag.mp hs
  exact n w hw x hx e
 unfold ddE
 rw[Sby.ze1 (k "out" (.inl rfl)),Sby.ze1 (k "fee" (.inr (.inl rfl))),Sby.ze1 (k "pay" (.inr (.inr (.inr rfl)))),if_neg]
 intro z
 obtain ⟨x,hx,e⟩:=yag.mp z
 exact n "turn" (.inr (.inr (.inl rfl))) x hx e
theorem zu9 (hl:H l=none) (hz:n<=sizeLine) (es:List α) (len:es.length=n)
  (P:Hp->V->α->Prop) (mono:∀ v e H1 H2,Same H1 H2->P H1 v e->P H2 v e) (put:∀ v e H1 ys zs,H1 l=some (.lst ys)->P H1 v e->P (upd H1 l (.lst zs)) v e)
  (he:∀ (i:Nat) e H' Q',i<n->es[i]?=some e->Same H H'->(∀ v H2,Same H' H2->P H2 v e->Q' v H2)->te (some (.int (lo+i))::capts σ ix) H' Q')
  (fin:∀ ys H',Same H H'->H' l=some (.lst ys)->LL (P H') ys es->R H') :
  ∃ W:Nat->Nat->List V->Hp->Prop,(∃ m,W 0 m [] (upd H l (.lst [])))/\Turns ix te σ (Itr lo n) l R W:=by
 refine ⟨fun i m ys H'=>m=n-i/\i<=n/\LL (P H') ys (es.take i)/\Same H H'/\H' l=some (.lst ys),⟨n,by simp,yda _,.nil,zf hl _,zh⟩,?_⟩
 rintro i m ys H' ⟨rfl,hi,hp,sH,hL⟩
 refine ⟨hL,?_⟩
 by_cases hlt:i<n
 ·have yl:=hp.length
  rw[yaz] at yl
  refine .inr ⟨hlt,by ac_rfl,fun x H2 y=>?_⟩
  obtain ⟨rfl,rfl⟩:=y
  have eP:es[i]?=some (es[i]'(by ac_rfl)):=yaa (by ac_rfl)
  generalize es[i]'(by ac_rfl)=e at eP
  refine he i e _ _ hlt eP sH fun v H3 s3 hv=>⟨s3 _ _ hL,n-(i+1),by ac_rfl,rfl,hlt,?_,zJ (sH.trans s3) hl,zh⟩
  rw[ybc,eP]
  exact (hp.imp fun v e q=>put v e H3 ys _ (s3 _ _ hL) (mono v e _ _ s3 q)).push (put v e H3 ys _ (s3 _ _ hL) hv)
 ·rw[yaw (by ac_rfl)] at hp
  exact .inl ⟨by show n<=i;ac_rfl,fin ys H' sH hL hp⟩
theorem zdU.step (h:zdU H es fs l) (ht:H t=some (.tup [.int (ddE es e.2.1).1,.int (ddE es e.2.1).2.1,.int (ddE es e.2.1).2.2.1,.int (ddE es e.2.1).2.2.2])) (w:inV (.str e.1.word) [.str "out", .str "fee", .str "turn", .str "pay"]=true):zdU H es (fs++[e]) (za2 l e.2.1 (.ref t)):=fun k=>by
 rw[zjZ]
 by_cases c:k=e.2.1
 ·rw[if_pos c]
  exact .inl ⟨⟨e,by simp,c.symm,w⟩,t,rfl,by rw[c];exact ht⟩
 ·rw[if_neg c]
  rcases h k with ⟨⟨x,hx,h1⟩,h2⟩ | ⟨h1,h2⟩
  ·exact .inl ⟨⟨x,yae.mpr (.inl hx),h1⟩,h2⟩
  ·refine .inr ⟨fun ⟨x,hx,h3,h4⟩=>?_,h2⟩
   rcases yae.mp hx with hx | hx
   ·exact h1 ⟨x,hx,h3,h4⟩
   ·have:x=e:=by simpa using hx
    exact c (by rw[<-h3,this])
theorem zdU.skip (h:zdU H es fs l) (w:inV (.str e.1.word) [.str "out", .str "fee", .str "turn", .str "pay"]=false):zdU H es (fs++[e]) l:=fun k=>by
 rcases h k with ⟨⟨x,hx,h1⟩,h2⟩ | ⟨h1,h2⟩
 ·exact .inl ⟨⟨x,yae.mpr (.inl hx),h1⟩,h2⟩
 ·refine .inr ⟨fun ⟨x,hx,h3,h4⟩=>?_,h2⟩
  rcases yae.mp hx with hx | hx
  ·exact h1 ⟨x,hx,h3,h4⟩
  ·have:x=e:=by simpa using hx
   rw[this,w] at h4
   cases h4
theorem zdU.put (h:zdU H es fs l) (hd:H d=some (zaV P w d l0)):zdU (upd H d o) es fs l:=fun k=>by
 rcases h k with ⟨h1,t,h2,h3⟩ | h1
 ·exact .inl ⟨h1,t,h2,by rw[zr (zae h3 hd (by intro z;unfold zaV at z;cases z))];exact h3⟩
 ·exact .inr h1
theorem zty (d:Int):∀ ns:List Int,inV (.int d) (ns.map V.int)=decide (d∈ns)
 | []=>rfl
 | n::ns=>by
  have e1:inV (.int d) ((n::ns).map V.int)=(eqV (.int n) (.int d) || inV (.int d) (ns.map V.int)):=rfl
  have e2:eqV (.int n) (.int d)=decide (n=d):=by first | rfl | simp[eqV]
  rw[e1,e2,zty d ns]
  by_cases c:n=d
  ·subst c;simp
  ·have c':¬ d=n:=fun z=>c z.symm
   simp[c,c']
theorem zwr (ns:List Int):(ns.map V.int).all zgG=true:=List.all_eq_true.mpr fun v hv=>by
 obtain ⟨n,_,rfl⟩:=yag.mp hv
 rfl
end L2
namespace L2
open PySem PySem.Spec PyProof.Rows
theorem KU.key (h:KU r l):∀ {i:Nat} {k:Int} {v:Value},r[i]?=some (k,v)->∃ s,l[i]?=some s/\s.1=k:=by
 induction h with
 | nil=>intro i k v e;simp at e
 | cons _ _ ih =>
  intro i k v e
  cases i with
  | zero=>cases e;exact ⟨_,rfl,rfl⟩
  | succ i=>exact ih e
theorem zvR (hk:KU kvs l) (len:vs.length=l.length) (h:∀ (j:Nat) (v:Value),vs[j]?=some v->∃ k x,kvs[j]?=some (k,x)/\(intKind P w).is k v=true):IntsAre vs (l.map (·.1)):=by
 have e1:IntsAre vs (vs.map za5.intOf):=za5.zoP fun v hv=>by
  obtain ⟨j,hj⟩:=ybi.mp hv
  obtain ⟨k,x,_,e2⟩:=h j v hj
  obtain ⟨t,rfl⟩:=Value.isInt_shape (show Value.isInt k v=true from e2)
  exact ⟨k,t,rfl⟩
 have e2:vs.map za5.intOf=l.map (·.1):=by
  apply ybw
  intro j
  rw[yai,yai]
  cases e:vs[j]? with
  | none =>
   have:l[j]?=none:=yaq (by have:=List.getElem?_eq_none_iff.mp e;ac_rfl)
   rw[this];rfl
  | some v =>
   obtain ⟨k,x,e3,e4⟩:=h j v e
   obtain ⟨s,e5,e6⟩:=hk.key e3
   obtain ⟨t,rfl⟩:=Value.isInt_shape (show Value.isInt k v=true from e4)
   rw[e5]
   show some k=some s.1
   rw[e6]
 rw[<-e2]
 exact e1
theorem zn9:(lkV l k).isSome=true↔k∈l.map (·.1):=by
 unfold lkV
 constructor
 ·intro h
  cases e:l.find? (fun p=>p.1=k) with
  | none=>rw[e] at h;cases h
  | some p=>exact yag.mpr ⟨p,ycm e,by simpa using List.find?_some e⟩
 ·intro h
  obtain ⟨p,hp,e⟩:=yag.mp h
  cases e2:l.find? (fun p=>p.1=k) with
  | none=>exact absurd (by simpa using e) (ycr.mp e2 p hp)
  | some _=>rfl
end L2
namespace L2
open PySem
noncomputable def rtE (es:List Er) (d:Int):Int:=if Spans.isIn (prs "still" es) d then 0 else Sums.valOf (prs "rate" es) d
noncomputable def ltE (es:List Er) (d:Int):Int:=if Spans.isIn (prs "still" es) d then 0 else Sums.valOf (prs "late" es) d
noncomputable def lkE (g:Int) (es:List Er) (d:Int):Int:=if Spans.isIn (prs "still" es) d then 0 else p0 (upto (mvp (mvd (prs "still" es)) (prs "due" es)) (d-g)-upto (prs "pay" es) d)
noncomputable def zwe (g:Int) (es:List Er) (P d:Int):Int:=rtE es d*P+ltE es d*mn P (lkE g es d)
theorem zyI (I:zbj b) (P d:Int):zax b P d=zwe b.g b.es P d:=by
 unfold zax zwe zd6 zeg zdP rtE ltE lkE
 rw[Stills.zrH I.spans.2 d,I.rates.1.val d,I.lates.1.val d,zki I.dues,zki I.pays]
noncomputable def stE (U:Int->Int) (u g:Int) (es:List Er):Nat->Int × Int
 | 0=>(0,0)
 | k+1=>let s:=doD u (ddE es k) (stE U u g es k);(s.1,s.2+(U (k+1)-U k)*zwe g es s.1 k)
noncomputable def saE (U:Int->Int) (u g:Int) (es:List Er) (k:Nat):Int × Int:=doD u (ddE es k) (stE U u g es k)
theorem zwW (I:zbj b):∀ k,stB U u b k=stE U u b.g b.es k
 | 0=>rfl
 | k+1=>by
  show (let s:=doD u (ddE b.es k) (stB U u b k);(s.1,s.2+(U (k+1)-U k)*zax b s.1 k))=_
  rw[zwW I k]
  dsimp only
  rw[zyI I]
  rfl
theorem zwZ (I:zbj b) (k:Nat):stA U u b k=saE U u b.g b.es k:=by
 show doD u (ddE b.es k) (stB U u b k)=_
 rw[zwW I k]
 rfl
theorem zxq (w:Str) (es fs:List Er):prs w (es++fs)=prs w es++prs w fs:=by
 unfold prs
 rw[ybd,yar]
noncomputable def zaD (l:List (Int × Int)):List Er:=(l.filter fun s=>decide (s.2 > 0)).map fun s=>(.pay,s.1,s.2)
theorem zhG (l:List (Int × Int)):(zaD l).length<=l.length:=by
 unfold zaD
 rw[yab]
 exact yay _ _
structure OkA (f:Int) (e:Er):Prop where
 day:f<=e.2.1
 rt:isW "rate" e=true->0<=e.2.2/\e.2.2<=1000000
 lt:isW "late" e=true->0<=e.2.2/\e.2.2<=1000000
 out:isW "out" e=true->0<=e.2.2
theorem OkA.pay (h:f<=d):OkA f (.pay,d,x):=⟨h,fun z=>absurd (show isW "rate" (.pay,0,0)=true from z) (by decide),fun z=>absurd (show isW "late" (.pay,0,0)=true from z) (by decide),fun z=>absurd (show isW "out" (.pay,0,0)=true from z) (by decide)⟩
theorem zwo (h:∀ s∈l,f<=s.1):∀ e∈zaD l,OkA f e:=fun e he=>by
 obtain ⟨s,hs,rfl⟩:=yag.mp he
 exact .pay (h s (yao.mp hs).1)
theorem zu7:∀ es:List Er,(prs "out" es).length+(prs "fee" es).length+(prs "pay" es).length+(dys "turn" es).length<=es.length
 | []=>by simp[prs,dys]
 | e::es=>by
  have ih:=zu7 es
  have st:∀ w:Str,(prs w (e::es)).length=(if isW w e=true then 1 else 0)+(prs w es).length:=fun w=>by
   unfold prs
   by_cases c:isW w e=true
   ·rw[yau c,if_pos c];simp;ac_rfl
   ·rw[yav c,if_neg c];simp
  have sd:(dys "turn" (e::es)).length=(if isW "turn" e=true then 1 else 0)+(dys "turn" es).length:=by
   unfold dys
   by_cases c:isW "turn" e=true
   ·rw[yau c,if_pos c];simp;ac_rfl
   ·rw[yav c,if_neg c];simp
  rw[st,st,st,sd,ybh]
  obtain ⟨k,d,x⟩:=e
  have one:(if isW "out" (k,d,x)=true then 1 else 0)+(if isW "fee" (k,d,x)=true then 1 else 0)+(if isW "pay" (k,d,x)=true then 1 else 0)+(if isW "turn" (k,d,x)=true then 1 else 0)<=1:=by
   have one:∀ k:Ek,(if isW "out" (k,0,0)=true then 1 else 0)+(if isW "fee" (k,0,0)=true then 1 else 0)+(if isW "pay" (k,0,0)=true then 1 else 0)+(if isW "turn" (k,0,0)=true then 1 else 0)<=1:=fun k=>by cases k <;> decide
   exact one k
  ac_rfl
theorem zxx (h:∀ s∈l,0<=s.2) (k:Int):0<=Sby.sm l k:=by
 induction l with
 | nil=>exact ydv _
 | cons s l ih =>
  rw[zeV]
  have:=ih fun s hs=>h s (yam _ hs)
  have:=h s (yap ..)
  split <;> ac_rfl
theorem ztt (I:zbj b) (f0:0<=f) (g0:0<=b.g) (o:∀ e∈b.es,OkA f e) (len:b.es.length<=31) (up:∀ d:Nat,U d<=U (d+1)) (hu:0<u) (u1:u<1152921504606846976):zyg U u b:=by
 have BO:=zyu I f0 g0 (fun e he=>(o e he).day) (fun w hw s hs=>by
  obtain ⟨e,he,rfl⟩:=yag.mp hs
  obtain ⟨h1,h2⟩:=yao.mp he
  rcases hw with rfl | rfl
  ·exact (o e h1).rt h2
  ·exact (o e h1).lt h2) len
 have pd:∀ w:Str,∀ s∈prs w b.es,f<=s.1:=fun w s hs=>by
  obtain ⟨e,he,rfl⟩:=yag.mp hs
  exact (o e (yao.mp he).1).day
 have tl:∀ {r l:List (Int × Int)},Sby.Tab r l->r.length<=l.length:=fun {r l} T=>by
  have:=zlw (Sby.zem T.up) fun k hk=>(T.mem k).mp hk
  rwa [yab,yab] at this
 have t1:=tl I.outs
 have t2:=tl I.fees
 have t3:=tl I.pays
 have t4:=zlw (Sby.zem I.turns.up) fun k hk=>(I.turns.mem k).mp hk
 have wl:=zu7 b.es
 refine ⟨I,⟨hu,zxx fun s hs=>?_,up,BO⟩,by ac_rfl,fun d hd=>?_,u1⟩
 ·obtain ⟨e,he,rfl⟩:=yag.mp hs
  obtain ⟨h1,h2⟩:=yao.mp he
  exact (o e h1).out h2
 ·rcases hd with hd | hd
  ·rw[yar,yar,yae,yae] at hd
   have k:∀ {r:List (Int × Int)} {w:Str},Sby.Tab r (prs w b.es)->d∈r.map (·.1)->0<=d:=fun {r w} T hr=>by
    obtain ⟨s,hs,e⟩:=yag.mp ((T.mem d).mp hr)
    have:=pd _ s hs
    ac_rfl
   rcases hd with (hd | hd) | hd
   ·exact k I.outs hd
   ·exact k I.fees hd
   ·exact k I.pays hd
  ·obtain ⟨e,he,e1⟩:=yag.mp ((I.turns.mem d).mp hd)
   have:=(o e (yao.mp he).1).day
   ac_rfl
structure zfW (ds:List Int):Prop where
 l1:1<=ds.length
 l2:ds.length<=60
 up:ds.Pairwise (·<·)
 in_:∀ d∈ds,0<=d/\d<=999999
end L2
namespace L2
open PySem PySem.Spec PyProof.Rows
theorem zl0 (ks:List Int):∃ ns:List Int,ns.Pairwise (·<·)/\∀ d,d∈ns↔d∈ks:=by
 induction ks with
 | nil=>exact ⟨[],.nil,fun d=>Iff.rfl⟩
 | cons k ks ih =>
  obtain ⟨ns,up,mem⟩:=ih
  refine ⟨ns.filter (fun x=>decide (x<k))++k::ns.filter (fun x=>decide (k<x)),?_,fun d=>?_⟩
  ·rw[ybe]
   refine ⟨up.filter _,ybr.mpr ⟨fun x hx=>by simpa using (yao.mp hx).2,up.filter _⟩,fun x hx y hy=>?_⟩
   have h1:x<k:=by simpa using (yao.mp hx).2
   rcases yal.mp hy with rfl | hy
   ·exact h1
   ·have h2:k<y:=by simpa using (yao.mp hy).2
    ac_rfl
  ·rw[yae,yal,yao,yao,mem,yal]
   constructor
   ·rintro (⟨h,_⟩ | rfl | ⟨h,_⟩)
    ·exact .inr h
    ·exact .inl rfl
    ·exact .inr h
   ·rintro (rfl | h)
    ·exact .inr (.inl rfl)
    ·rcases ydw d k with c | c | c
     ·exact .inl ⟨h,by simpa using c⟩
     ·exact .inr (.inl c)
     ·exact .inr (.inr ⟨h,by simpa using c⟩)
theorem zn7 (l:List (Int × Int)):∃ r,Sby.Tab r l:=by
 obtain ⟨ns,up,mem⟩:=zl0 (l.map (·.1))
 have e:(ns.map fun k=>(k,Sby.sm l k)).map (·.1)=ns:=by rw[ybl];exact ycw ns
 refine ⟨ns.map fun k=>(k,Sby.sm l k),by rw[e];exact up,fun k=>by rw[e];exact mem k,fun p hp=>?_⟩
 obtain ⟨k,_,rfl⟩:=yag.mp hp
 rfl
theorem zqw (t0:∀ s∈t,0<=s.1):∃ r:List (Int × Int),Stills.TabOf t r/\r=(r.map (·.1)).map (fun d=>(d,Sums.valOf t d)):=by
 obtain ⟨ns,up,mem⟩:=zl0 (t.map (·.1))
 have e:(ns.map fun k=>(k,Sums.valOf t k)).map (·.1)=ns:=by rw[ybl];exact ycw ns
 refine ⟨ns.map fun k=>(k,Sums.valOf t k),Stills.tab_of t0 up fun d=>?_,by rw[e]⟩
 rw[mem,yag]
 exact ⟨fun ⟨s,h,q⟩=>⟨s,h,q.symm⟩,fun ⟨s,h,q⟩=>⟨s,h,q.symm⟩⟩
theorem zxN (kd:Kd) (g:Int) (es:List Er) (d0:∀ e∈es,0<=e.2.1) (st:∀ s∈prs "still" es,s.1<s.2):∃ b:BkT,zbj b/\b.kd=kd/\b.g=g/\b.es=es:=by
 have p0:∀ w:Str,∀ s∈prs w es,0<=s.1:=fun w s hs=>by
  obtain ⟨e,he,rfl⟩:=yag.mp hs
  exact d0 e (yao.mp he).1
 obtain ⟨ro,h1⟩:=zn7 (prs "out" es)
 obtain ⟨rf,h2⟩:=zn7 (prs "fee" es)
 obtain ⟨rp,h3⟩:=zn7 (prs "pay" es)
 obtain ⟨rt,h4,h4'⟩:=zl0 (dys "turn" es)
 obtain ⟨rr,h5⟩:=zqw (p0 "rate")
 obtain ⟨rl,h6⟩:=zqw (p0 "late")
 obtain ⟨eg,h7,h7'⟩:=zl0 ((prs "still" es).map (·.1)++(prs "still" es).map (·.2))
 have E:Spans.Edges (prs "still" es) eg:=⟨h7,fun d=>by
  rw[h7',yae,yag,yag]
  constructor
  ·rintro (⟨s,hs,q⟩ | ⟨s,hs,q⟩)
   ·exact ⟨s,hs,.inl q.symm⟩
   ·exact ⟨s,hs,.inr q.symm⟩
  ·rintro ⟨s,hs,q | q⟩
   ·exact .inl ⟨s,hs,q.symm⟩
   ·exact .inr ⟨s,hs,q.symm⟩⟩
 have h8:=Spans.zwF st E
 obtain ⟨rd,h9⟩:=zn7 (mvp (mvd (prs "still" es)) (prs "due" es))
 exact ⟨⟨kd,g,es,ro,rf,rp,rt,rr,rl,Spans.least (prs "still" es) eg,rd⟩,⟨h1,h2,h3,⟨h4,h4'⟩,h5,h6,h8,h9⟩,rfl,rfl,rfl⟩
end L2
namespace L2
open PySem
theorem zvQ (h:isW w (.pay,0,0)=false) (l:List (Int × Int)):prs w (zaD l)=[]:=by
 unfold prs
 rw[ych.mpr fun e he=>?_]
 ·rfl
 ·unfold zaD at he
  obtain ⟨s,_,rfl⟩:=yag.mp he
  rw[show isW w (.pay,s.1,s.2)=false from h]
  decide
theorem zom (o:∀ e∈es,OkA f e) (h:∀ s∈l,f<=s.1):∀ e∈es++zaD l,OkA f e:=fun e he=>by
 rcases yae.mp he with he | he
 ·exact o e he
 ·exact zwo h e he
noncomputable def evn (ds:List Int) (x:Int):List (Int × Int):=ds.map fun d=>(d,x)
theorem zvY (ds:List Int):zaD (evn ds 0)=[]:=by
 unfold zaD evn
 rw[ych.mpr fun s hs=>?_]
 ·rfl
 ·obtain ⟨d,_,rfl⟩:=yag.mp hs
  simp
theorem zqG (h:∀ d∈ds,f<=d) (x:Int):∀ s∈evn ds x,f<=s.1:=fun s hs=>by
 obtain ⟨d,hd,rfl⟩:=yag.mp hs
 exact h d hd
theorem ztB (h:0<x):zaD (evn ds x)=ds.map fun d=>(.pay,d,x):=by
 unfold zaD evn
 rw[List.filter_eq_self.mpr fun s hs=>?_,ybl]
 ·rfl
 ·obtain ⟨d,_,rfl⟩:=yag.mp hs
  simpa using h
structure zwD (e:Er):Prop where
 out:isW "out" e=true->e.2.2<=1000000000000
 fee:isW "fee" e=true->e.2.2<=1000000000000
 pay:isW "pay" e=true->0<=e.2.2
noncomputable def zhB (F:Int->Int):List Int->V
 | []=>.non
 | d::ds=>if F d<=0 then .int d else zhB F ds
theorem zps {F:Int->Int} {ds:List Int} {i:Nat} {d:Int} (h:ds[i]?=some d):zhB F (ds.drop i)=if F d<=0 then .int d else zhB F (ds.drop (i+1)):=by
 obtain ⟨il,e⟩:=yac.mp h
 rw[List.drop_eq_getElem_cons il,e]
 rfl
end L2
namespace L2
open PySem PySem.Spec PyProof.Rows
section
variable {X:Cx}
theorem zpU (hc:X.calm=true) (hex:X.ex=[]:=by rfl):zbG X (.builtin "sorted") (fun xs H Q=>∃ (d:Addr) (l:List (Int × V)),xs=[.ref d]/\H d=some (zaV X.prog X.w d l)/\l.length<64 /\
  ∀ (q:Addr) (H':Hp) (ns:List Int),H q=none->Same H H'->H' q=some (.lst (ns.map V.int))->ns.Perm (l.map (·.1))->ns.Pairwise (·<=·)->Q (.ref q) H'):=by
 intro pins s σ H xs us Q I r h
 obtain ⟨d,l,rfl,hd,hl,q⟩:=h
 obtain ⟨u,rfl,rx⟩:=vals1 r
 cases rx
 obtain ⟨lo,kvs,hO,hk⟩:=(I.hok d _ hd).1
 obtain ⟨ep,hD⟩:=hO.dictAt
 have kl:=hk.length
 refine Calls.call_function_entry kind_sorted plain_sorted entry_sorted (args_sorted1 _) ?_
 unfold Builtin.«sorted»
 refine wpAny_bind (m:=checkCount "sorted" 1 1 _) (wpAny_pure ?_)
 refine wpAny_bind (PySem.W.kdu_collect (A:=X.A.in1) (PySem.W.kdl_dict (knd:=intKind X.prog X.w) (kvs:=kvs) (ep:=ep) lo) (I.ok.hd hc) hD (by rw[sizeLine_eq];ac_rfl) fun h1 tk acc kp hacc=>?_)
 have al:acc.toList.length=l.length:=by rw[ydy,hacc.1,kl]
 have vi:IntsAre acc.toList (l.map (·.1)):=zvR hk al fun j v e=>hacc.2 j v (by rw[<-yeb];exact e)
 have vl:acc.toList.length<64:=by ac_rfl
 have sl:acc.toList.length<=sizeLine:=by rw[sizeLine_eq];ac_rfl
 refine wpAny_bind (wpAny_newList ?_ (by first | exact sl | simpa using sl))
 have g0:(h1.push (seqObj "list" acc.toList.toArray 0)).get? h1.objs.size=some (seqObj "list" acc.toList.toArray 0):=ydo _ rfl
 have ol:s.heap.get? h1.objs.size=none:=by
  cases q:s.heap.get? h1.objs.size with
  | none=>rfl
  | some u=>exact absurd (ydn (kp _ _ q)) (ydd _)
 show wpAny _ _ _ _ _ { s with heap:=h1.push (seqObj "list" acc.toList.toArray 0),toks:=tk }
 refine wpAny_bind (wpAny_holding (wpAny_call_entry slot_list_sort ⟨_,g0,rfl⟩ entry_list_sort (list_sort_tree g0 vi vl fun out ns' a1 a2 a3=>⟨_,rfl,?_⟩) (args_list_sort _)))
 obtain ⟨n,g1⟩:=sortedHeap_at (out:=out) g0
 refine wpAny_pure ⟨_,rfl,?_⟩
 have keep:∀ b u,s.heap.get? b=some u->(sortedHeap (h1.push (seqObj "list" acc.toList.toArray 0)) h1.objs.size acc.toList out).get? b=some u:=fun b u e=>by
  have e1:=kp b u e
  have lt:=ydn e1
  rw[sortedHeap_old (ycy lt) (by rw[size_push'];exact ydg lt)]
  exact ydm _ e1
 have v2:Vals (ns'.map V.int) out.toList:=ziq a1
 have nl:(ns'.map V.int).length<=sizeLine:=by rw[yab,a2.length_eq,yab,sizeLine_eq];ac_rfl
 exact ⟨.ref h1.objs.size,_,I.znm (o:=.lst (ns'.map V.int)) keep ol hex ⟨nl,out.toList,n,v2,by simpa [seqObj] using g1⟩,rfl,q _ _ ns' (I.hok.gone ol) (zf (I.hok.gone ol) _) zh a2 a3⟩
end
theorem zpV (h:(l.map (·.1)).Nodup):((za2 l n v).map (·.1)).Nodup:=by
 unfold za2
 split
 ·rw[ybl]
  rw[show ((fun s:Int × V=>s.1) ∘ fun p=>if p.1=n then (p.1,v) else p)=fun s:Int × V=>s.1 from funext fun p=>by show (if p.1=n then (p.1,v) else p).1=p.1;split <;> rfl]
  exact h
 ·rename_i z
  rw[yar,ycd]
  refine ⟨h,by simp,fun a ha b hb=>?_⟩
  simp at hb
  subst hb
  intro e
  subst e
  obtain ⟨p,hp,e⟩:=yag.mp ha
  exact z (yca.mpr ⟨p,hp,by simpa using e⟩)
section
variable {K:W.Frag} {H H':Hp} {v:V} {l:Addr} {xs:List V} {z:HO}
end
end L2
namespace Cal
def leap (y:Int):Bool:=decide (y % 4=0) && (!decide (y % 100=0) || decide (y % 400=0))
noncomputable def lp (y:Int):Int:=if leap y=true then 1 else 0
noncomputable def mlen (y m:Int):Int:=if m=2 then 28+lp y else 31-(m-1) % 7 % 2
noncomputable def ny (y:Int):Int:=365*(y-2000)+(y-2000+3) / 4-(y-2000+99) / 100+(y-2000+399) / 400
noncomputable def cum (y m:Int):Int :=
 if m=1 then 0 else if m=2 then 31 else
 lp y+(if m=3 then 59 else if m=4 then 90 else if m=5 then 120 else if m=6 then 151 else if m=7 then 181 else if m=8 then 212
  else if m=9 then 243 else if m=10 then 273 else if m=11 then 304 else 334)
noncomputable def num (y m d:Int):Int:=ny y+cum y m+d-1
structure zaL (y m d:Int):Prop where
 m1:1<=m
 m2:m<=12
 d1:1<=d
 d2:d<=mlen y m
theorem zyH (y:Int):(lp y=1/\y % 4=0/\(y % 100≠0\/y % 400=0))\/(lp y=0/\(y % 4≠0\/(y % 100=0/\y % 400≠0))):=by
 unfold lp leap
 by_cases h1:y % 4=0 <;> by_cases h2:y % 100=0 <;> by_cases h3:y % 400=0 <;> simp[h1,h2,h3]
theorem zkr (y:Int):0<=lp y/\lp y<=1:=by
 rcases zyH y with h | h <;> ac_rfl
theorem st4 (y:Int):(y+1-2000+3) / 4=(y-2000+3) / 4+(if y % 4=0 then 1 else 0):=by split <;> ac_rfl
theorem zy9 (y:Int):(y+1-2000+99) / 100=(y-2000+99) / 100+(if y % 100=0 then 1 else 0):=by split <;> ac_rfl
theorem zzm (y:Int):(y+1-2000+399) / 400=(y-2000+399) / 400+(if y % 400=0 then 1 else 0):=by split <;> ac_rfl
theorem zyw {y b d f p q r:Int}:365*(y+1-2000)+(b+p)-(d+q)+(f+r)=365*(y-2000)+b-d+f+365+(p-q+r):=by ac_rfl
theorem zy5 (y:Int):lp y=(if y % 4=0 then 1 else 0)-(if y % 100=0 then 1 else 0)+(if y % 400=0 then 1 else 0):=by
 have h1:y % 100=0->y % 4=0:=by ac_rfl
 have h2:y % 400=0->y % 100=0:=by ac_rfl
 unfold lp leap
 by_cases a:y % 4=0
 ·by_cases b:y % 100=0
  ·by_cases c:y % 400=0
   ·rw[if_pos a,if_pos b,if_pos c,decide_eq_true a,decide_eq_true b,decide_eq_true c];rfl
   ·rw[if_pos a,if_pos b,if_neg c,decide_eq_true a,decide_eq_true b,decide_eq_false c];rfl
  ·rw[if_pos a,if_neg b,if_neg (fun c=>b (h2 c)),decide_eq_true a,decide_eq_false b];rfl
 ·rw[if_neg a,if_neg (fun b=>a (h1 b)),if_neg (fun c=>a (h1 (h2 c))),decide_eq_false a];rfl
theorem zbv (y:Int):ny (y+1)=ny y+365+lp y:=by
 unfold ny
 rw[st4,zy9,zzm,zy5]
 exact zyw
noncomputable def zoy (l m:Int):Int :=
 if m=1 then 0 else if m=2 then 31 else
 l+(if m=3 then 59 else if m=4 then 90 else if m=5 then 120 else if m=6 then 151 else if m=7 then 181 else if m=8 then 212
  else if m=9 then 243 else if m=10 then 273 else if m=11 then 304 else 334)
noncomputable def zmn (l m:Int):Int:=if m=2 then 28+l else 31-(m-1) % 7 % 2
theorem ztR:∀ l:Bool,∀ k:Fin 12,(28<=zmn l.toInt (k.val+1)/\zmn l.toInt (k.val+1)<=31) /\
  (0<=zoy l.toInt (k.val+1)/\zoy l.toInt (k.val+1)+zmn l.toInt (k.val+1)<=365+l.toInt) /\
  (k.val<11->zoy l.toInt (k.val+1+1)=zoy l.toInt (k.val+1)+zmn l.toInt (k.val+1))/\zoy l.toInt 12+zmn l.toInt 12=365+l.toInt:=by decide
theorem lpB (y:Int):lp y=(leap y).toInt:=by unfold lp;cases leap y <;> rfl
theorem zwG {m:Int} (h1:1<=m) (h2:m<=12):∃ k:Fin 12,m=k.val+1:=⟨⟨(m-1).toNat,by ac_rfl⟩,by show m=((m-1).toNat:Int)+1;ac_rfl⟩
theorem zul (y m:Int):cum y m=zoy (leap y).toInt m:=by rw[<-lpB];rfl
theorem zqf (y m:Int):mlen y m=zmn (leap y).toInt m:=by rw[<-lpB];rfl
theorem zkj {y m:Int} (h1:1<=m) (h2:m<=11):cum y (m+1)=cum y m+mlen y m:=by
 obtain ⟨k,rfl⟩:=zwG h1 (Int.le_trans h2 (by decide))
 rw[zul,zul,zqf]
 exact (ztR (leap y) k).2.2.1 (by ac_rfl)
theorem zdY {y m:Int} (h1:1<=m) (h2:m<=12):28<=mlen y m/\mlen y m<=31:=by
 obtain ⟨k,rfl⟩:=zwG h1 h2
 rw[zqf]
 exact (ztR (leap y) k).1
theorem zjB {y m:Int} (h1:1<=m) (h2:m<=12):0<=cum y m/\cum y m+mlen y m<=365+lp y:=by
 obtain ⟨k,rfl⟩:=zwG h1 h2
 rw[zul,zqf,lpB]
 exact (ztR (leap y) k).2.1
theorem znE (y:Int):cum y 12+mlen y 12=365+lp y:=by
 rw[zul,zqf,lpB]
 exact (ztR (leap y) 0).2.2.2
noncomputable def ms (M:Int):Int:=ny (M / 12)+cum (M / 12) (M % 12+1)
noncomputable def ml (M:Int):Int:=mlen (M / 12) (M % 12+1)
theorem zn5 (M:Int):28<=ml M/\ml M<=31:=zdY (by ac_rfl) (by ac_rfl)
theorem zot (M:Int):ms (M+1)=ms M+ml M:=by
 unfold ms ml
 by_cases h:M % 12=11
 ·have e1:(M+1) / 12=M / 12+1:=by ac_rfl
  have e2:(M+1) % 12=0:=by ac_rfl
  rw[e1,e2,h,zbv]
  have:=znE (M / 12)
  simp only[show (11:Int)+1=12 by rfl]
  have e3:cum (M / 12+1) (0+1)=0:=by simp[cum]
  ac_rfl
 ·have e1:(M+1) / 12=M / 12:=by ac_rfl
  have e2:(M+1) % 12=M % 12+1:=by ac_rfl
  rw[e1,e2,zkj (by ac_rfl) (by ac_rfl)]
  ac_rfl
theorem zuZ (M:Int):∀ k:Nat,ms M+k<=ms (M+k)
 | 0=>by simp
 | k+1=>by
  have h:=zuZ M k
  have h2:=zot (M+k)
  have h3:=zn5 (M+k)
  have e:M+((k+1:Nat):Int)=M+k+1:=by ac_rfl
  rw[e,h2];ac_rfl
theorem zxf (h:M<=N):ms M+(N-M)<=ms N:=by
 have:=zuZ M (N-M).toNat
 have e:M+((N-M).toNat:Int)=N:=by ac_rfl
 rw[e] at this;ac_rfl
theorem zgS (h:M<N):ms M+ml M<=ms N:=by
 have:=zxf (show M+1<=N by ac_rfl)
 rw[zot] at this;ac_rfl
theorem zef (h1:1<=m) (h2:m<=12):num y m d=ms (12*y+m-1)+d-1:=by
 unfold num ms
 rw[show (12*y+m-1) / 12=y by ac_rfl,show (12*y+m-1) % 12+1=m by ac_rfl]
theorem zlq {y m:Int} (h1:1<=m) (h2:m<=12):ml (12*y+m-1)=mlen y m:=by
 unfold ml
 rw[show (12*y+m-1) / 12=y by ac_rfl,show (12*y+m-1) % 12+1=m by ac_rfl]
theorem zwb (h:zaL y m d) (h':zaL y' m' d') (e:num y m d=num y' m' d'):y=y'/\m=m'/\d=d':=by
 obtain ⟨a,b,c,f⟩:=h
 obtain ⟨a',b',c',f'⟩:=h'
 rw[zef a b,zef a' b'] at e
 rw[<-zlq a b] at f
 rw[<-zlq a' b'] at f'
 have h1:¬ (12*y+m-1<12*y'+m'-1):=fun q=>by have:=zgS q;ac_rfl
 have h2:¬ (12*y'+m'-1<12*y+m-1):=fun q=>by have:=zgS q;ac_rfl
 have h3:12*y+m-1=12*y'+m'-1:=by ac_rfl
 rw[h3] at e
 ac_rfl
theorem zuW (y:Int):∀ k:Nat,ny y+365*k<=ny (y+k)
 | 0=>by simp
 | k+1=>by
  have h:=zuW y k
  have h2:=zbv (y+k)
  have h3:=zkr (y+k)
  have e:y+((k+1:Nat):Int)=y+k+1:=by ac_rfl
  rw[e,h2];ac_rfl
theorem zjy (h:y<=z):ny y+365*(z-y)<=ny z:=by
 have:=zuW y (z-y).toNat
 have e:y+((z-y).toNat:Int)=z:=by ac_rfl
 rw[e] at this;ac_rfl
theorem zyo:ny 2000=0:=by decide
theorem znx {y m d:Int} (h:zaL y m d) (h0:0<=num y m d):2000<=y:=by
 have hc:=@zjB y m h.m1 h.m2
 have:=h.d2
 have h1:=zbv y
 have h2:=zyo
 by_cases q:2000<=y
 ·exact q
 ·have:=zjy (show y+1<=2000 by ac_rfl)
  unfold num at h0
  ac_rfl
theorem zur:ny (2000+d*400 / 146097-1)<=d:=by
 unfold ny;ac_rfl
theorem between (h1:zaL y1 m1 d1) (h2:zaL y2 m2 d2) (le:num y1 m1 d1<=num y2 m2 d2)
  (hk:k=if (if mlen y2 m2<d1 then mlen y2 m2 else d1) > d2 then 12*(y2-y1)+m2-m1-1 else 12*(y2-y1)+m2-m1) :
  0<=k/\∀ (P P' L L':Int),P=12*y1+m1-1+k->P'=P+1->(L=if ml P<d1 then ml P else d1)->(L'=if ml P'<d1 then ml P' else d1) ->
   ms P+L-1<=num y2 m2 d2/\num y2 m2 d2<ms P'+L'-1:=by
 obtain ⟨a1,b1,c1,e1⟩:=h1
 obtain ⟨a2,b2,c2,e2⟩:=h2
 rw[zef a1 b1,zef a2 b2] at le
 rw[zef a2 b2]
 rw[<-zlq a1 b1] at e1
 rw[<-zlq a2 b2] at e2 hk
 generalize hM1:12*y1+m1-1=M1 at *
 generalize hM2:12*y2+m2-1=M2 at *
 have hk':k=if (if ml M2<d1 then ml M2 else d1) > d2 then M2-M1-1 else M2-M1:=by
  rw[hk];split <;> ac_rfl
 have hle:M1<=M2:=by
  by_cases q:M1<=M2
  ·exact q
  ·have:=zgS (show M2<M1 by ac_rfl);ac_rfl
 have g:M1<M2\/M1=M2:=by ac_rfl
 have b2':=zn5 M2
 constructor
 ·rcases g with g | g
  ·rw[hk'];split <;> ac_rfl
  ·subst g
   rw[hk',if_neg]
   ·ac_rfl
   ·split <;> ac_rfl
 ·intro P P' L L' hP hP' hL hL'
  have bP:=zn5 P
  have bP':=zn5 P'
  have hL1:1<=L/\L<=ml P:=by rw[hL];split <;> ac_rfl
  have hL1':1<=L'/\L'<=ml P':=by rw[hL'];split <;> ac_rfl
  by_cases q:(if ml M2<d1 then ml M2 else d1) > d2
  ·rw[if_pos q] at hk'
   have eP:P=M2-1:=by ac_rfl
   have eP':P'=M2:=by ac_rfl
   have:=zgS (show P<M2 by ac_rfl)
   rw[eP'] at hL' ⊢
   constructor
   ·ac_rfl
   ·rw[hL'];ac_rfl
  ·rw[if_neg q] at hk'
   have eP:P=M2:=by ac_rfl
   have eP':P'=M2+1:=by ac_rfl
   have:=zgS (show M2<P' by ac_rfl)
   rw[eP] at hL ⊢
   constructor
   ·rw[hL];ac_rfl
   ·ac_rfl
theorem zkZ {y m r:Int} (D:zaL y m r):∃ y' m' r',zaL y' m' r'/\num y' m' r'=num y m r+1:=by
 obtain ⟨a,b,c,d⟩:=D
 have l1:=@zdY (y+1) 1 (by decide) (by decide)
 by_cases h:r<mlen y m
 ·exact ⟨y,m,r+1,⟨a,b,by ac_rfl,by ac_rfl⟩,by unfold num;ac_rfl⟩
 ·by_cases h2:m<=11
  ·have cs:=@zkj y m a h2
   have l2:=@zdY y (m+1) (by ac_rfl) (by ac_rfl)
   exact ⟨y,m+1,1,⟨by ac_rfl,by ac_rfl,by ac_rfl,by ac_rfl⟩,by unfold num;ac_rfl⟩
  ·have e:m=12:=by ac_rfl
   subst e
   have c12:=znE y
   have n1:=zbv y
   have c1:cum (y+1) 1=0:=by simp[cum]
   exact ⟨y+1,1,1,⟨by ac_rfl,by ac_rfl,by ac_rfl,by ac_rfl⟩,by unfold num;ac_rfl⟩
theorem zr0:∀ n:Nat,∃ y m r,zaL y m r/\num y m r=n
 | 0=>⟨2000,1,1,⟨by decide,by decide,by decide,by decide⟩,by decide⟩
 | n+1=>by
  obtain ⟨y,m,r,D,e⟩:=zr0 n
  obtain ⟨y',m',r',D',e'⟩:=zkZ D
  exact ⟨y',m',r',D',by ac_rfl⟩
theorem zme (h:0<=d):∃ y m r,zaL y m r/\num y m r=d:=by
 obtain ⟨y,m,r,D,e⟩:=zr0 d.toNat
 exact ⟨y,m,r,D,by ac_rfl⟩
end Cal
namespace Cnt
open Cal
def zm8 (d u:Int):Prop:=∃ y m r,zaL y m r/\num y m r=d/\u=30*(12*(y-2000)+m-1)+(if 30<r then 30 else r)-1
noncomputable def each (y:Int):Int:=if leap y=true then 365 else 366
def zmT (d u:Int):Prop:=∃ y,ny y<=d/\d<ny (y+1)/\u=365*366*(y-2000)+each y*(d-ny y)
theorem zm8.one (a:zm8 d u) (b:zm8 d v):u=v:=by
 obtain ⟨y,m,r,D,e,rfl⟩:=a
 obtain ⟨y',m',r',D',e',rfl⟩:=b
 obtain ⟨rfl,rfl,rfl⟩:=zwb D D' (e.trans e'.symm)
 rfl
theorem zv1 (h1:ny y<=d) (h2:d<ny (y+1)) (h3:ny z<=d) (h4:d<ny (z+1)):y=z:=by
 rcases ydw y z with h | h | h
 ·have:=zjy (show y+1<=z by ac_rfl)
  ac_rfl
 ·exact h
 ·have:=zjy (show z+1<=y by ac_rfl)
  ac_rfl
theorem zmT.one (a:zmT d u) (b:zmT d v):u=v:=by
 obtain ⟨y,h1,h2,rfl⟩:=a
 obtain ⟨z,h3,h4,rfl⟩:=b
 obtain rfl:=zv1 h1 h2 h3 h4
 rfl
noncomputable def UT (d:Int):Int:=Classical.epsilon fun u=>zm8 d u
noncomputable def UE (d:Int):Int:=Classical.epsilon fun u=>zmT d u
theorem zmm (h:zm8 d u):UT d=u:=zm8.one (Classical.epsilon_spec (p:=fun u=>zm8 d u) ⟨u,h⟩) h
theorem zkb (h:zmT d u):UE d=u:=zmT.one (Classical.epsilon_spec (p:=fun u=>zmT d u) ⟨u,h⟩) h
theorem zol (h:0<=d):∃ y,2000<=y/\ny y<=d/\d<ny (y+1):=by
 obtain ⟨y,m,r,D,e⟩:=zme h
 have c:=zjB (y:=y) D.m1 D.m2
 have s:=zbv y
 have r1:=D.d1
 have r2:=D.d2
 refine ⟨y,znx D (by ac_rfl),?_,?_⟩
 ·unfold num at e;ac_rfl
 ·unfold num at e;ac_rfl
theorem zxH (h0:0<=a) (ab:a<=b):UT a<=UT b:=by
 obtain ⟨y,m,r,D,e⟩:=zme h0
 obtain ⟨y',m',r',D',e'⟩:=zme (show 0<=b by ac_rfl)
 rw[zmm ⟨y,m,r,D,e,rfl⟩,zmm ⟨y',m',r',D',e',rfl⟩]
 rw[zef D.m1 D.m2] at e
 rw[zef D'.m1 D'.m2] at e'
 have l:=zlq (y:=y) D.m1 D.m2
 have l':=zlq (y:=y') D'.m1 D'.m2
 have d1:=D.d1
 have d2:=D.d2
 have d1':=D'.d1
 have d2':=D'.d2
 rcases ydw (12*y+m-1) (12*y'+m'-1) with h | h | h
 ·split <;> split <;> ac_rfl
 ·rw[h] at e
  split <;> split <;> ac_rfl
 ·have:=zgS h
  ac_rfl
theorem zgV (y:Int):(each y=365/\lp y=1)\/(each y=366/\lp y=0):=by
 unfold each lp
 split
 ·exact .inl ⟨rfl,rfl⟩
 ·exact .inr ⟨rfl,rfl⟩
theorem zxR (h0:0<=a) (ab:a<=b):UE a<=UE b:=by
 obtain ⟨y,y0,h1,h2⟩:=zol h0
 obtain ⟨z,z0,h3,h4⟩:=zol (show 0<=b by ac_rfl)
 rw[zkb ⟨y,h1,h2,rfl⟩,zkb ⟨z,h3,h4,rfl⟩]
 have s:=zbv y
 rcases ydw y z with h | h | h
 ·rcases zgV y with ⟨e,l⟩ | ⟨e,l⟩ <;> rcases zgV z with ⟨e',l'⟩ | ⟨e',l'⟩ <;> rw[e,e'] <;> ac_rfl
 ·subst h
  rcases zgV y with ⟨e,l⟩ | ⟨e,l⟩ <;> rw[e] <;> ac_rfl
 ·have:=zjy (show z+1<=y by ac_rfl)
  ac_rfl
end Cnt
namespace Cnt
open Cal
theorem ztw (h1:d<=1000000) (h2:ny y<=d):y<=4740:=by
 by_cases c:y<=4740
 ·exact c
 ·have:=zjy (show (2000:Int)<=y by ac_rfl)
  rw[zyo] at this
  ac_rfl
theorem zy4 (h0:0<=d) (h1:d<=1000000):-1<=UT d/\UT d<=1000000000:=by
 obtain ⟨y,m,r,D,e⟩:=zme h0
 have y0:=znx D (by ac_rfl)
 have m1:=D.m1
 have m2:=D.m2
 have d1:=D.d1
 have c:=zjB (y:=y) m1 m2
 have y1:y<=4740:=ztw h1 (by unfold num at e;ac_rfl)
 rw[zmm ⟨y,m,r,D,e,rfl⟩]
 split <;> ac_rfl
theorem zy3 (h0:0<=d) (h1:d<=1000000):-1<=UE d/\UE d<=1000000000:=by
 obtain ⟨y,y0,q1,q2⟩:=zol h0
 have y1:=ztw h1 q1
 have s:=zbv y
 have l:=zkr y
 rw[zkb ⟨y,q1,q2,rfl⟩]
 rcases zgV y with ⟨e,_⟩ | ⟨e,_⟩ <;> rw[e] <;> ac_rfl
end Cnt
namespace Cnt
open Cal
theorem zxj {d y:Int} (h1:ny y<=d) (h2:d<ny (y+1)):UE (d+1)-UE d=366-lp y:=by
 have s:=zbv y
 have s2:=zbv (y+1)
 have l:=zkr (y+1)
 rw[zkb ⟨y,h1,h2,rfl⟩]
 by_cases c:d+1<ny (y+1)
 ·rw[zkb ⟨y,by ac_rfl,c,rfl⟩]
  rcases zgV y with ⟨e,q⟩ | ⟨e,q⟩ <;> rw[e] <;> ac_rfl
 ·have e1:d+1=ny (y+1):=by ac_rfl
  rw[e1,zkb ⟨y+1,ydv _,by ac_rfl,rfl⟩,Int.sub_self,Int.mul_zero]
  rcases zgV y with ⟨e,q⟩ | ⟨e,q⟩ <;> rw[e] <;> ac_rfl
theorem zj7 (D:zaL y m r) (D':zaL y' m' r') (e:num y' m' r'=num y m r+1):(y'=y/\m'=m/\r'=r+1)\/(12*y'+m'=12*y+m+1/\r'=1/\r=mlen y m):=by
 rw[zef D.m1 D.m2,zef D'.m1 D'.m2] at e
 have l:=zlq (y:=y) D.m1 D.m2
 have l':=zlq (y:=y') D'.m1 D'.m2
 have m1:=D.m1
 have m2:=D.m2
 have m1':=D'.m1
 have m2':=D'.m2
 have d1:=D.d1
 have d2:=D.d2
 have d1':=D'.d1
 have d2':=D'.d2
 rcases ydw (12*y+m-1) (12*y'+m'-1) with h | h | h
 ·have a:=zgS h
  by_cases c:12*y'+m'-1=12*y+m-1+1
  ·exact .inr ⟨by ac_rfl,by ac_rfl,by ac_rfl⟩
  ·have b:=zgS (show 12*y+m-1+1<12*y'+m'-1 by ac_rfl)
   have z:=zot (12*y+m-1)
   have w:=zn5 (12*y+m-1+1)
   ac_rfl
 ·rw[h] at e
  exact .inl ⟨by ac_rfl,by ac_rfl,by ac_rfl⟩
 ·have a:=zgS h
  ac_rfl
theorem zxg (D:zaL y m r) (D':zaL y' m' r') (e:num y' m' r'=num y m r+1):UT (num y m r+1)-UT (num y m r)=if r'=31 then 0 else if m=2/\m'=3 then 31-r else 1:=by
 rw[zmm ⟨y,m,r,D,rfl,rfl⟩,zmm ⟨y',m',r',D',e,rfl⟩]
 have m1:=D.m1
 have m2:=D.m2
 have m1':=D'.m1
 have m2':=D'.m2
 have d1:=D.d1
 have d2:=D.d2
 have d2':=D'.d2
 have li:=zdY (y:=y) m1 m2
 have li':=zdY (y:=y') m1' m2'
 rcases zj7 D D' e with ⟨rfl,rfl,rfl⟩ | ⟨hm,rfl,hr⟩
 ·by_cases c:r+1=31
  ·rw[if_pos c]
   split <;> split <;> ac_rfl
  ·rw[if_neg c,if_neg (by ac_rfl)]
   split <;> split <;> ac_rfl
 ·rw[if_neg (show ¬ ((1:Int)=31) by decide)]
  have lp':=zkr y
  by_cases c:m=2
  ·subst c
   have e2:mlen y 2=28+lp y:=by unfold mlen;rw[if_pos rfl]
   rw[if_pos (show (2:Int)=2/\m'=3 from ⟨rfl,by ac_rfl⟩)]
   split <;> split <;> ac_rfl
  ·have e2:mlen y m=31-(m-1) % 7 % 2:=by unfold mlen;rw[if_neg c]
   rw[if_neg (show ¬ (m=2/\m'=3) from fun z=>c z.1)]
   split <;> split <;> ac_rfl
end Cnt
namespace Cnt
open Cal
end Cnt
namespace Cnt
open Cal
end Cnt
theorem L2.us1 {α:Type} {P:List α->Prop} (h:∀ a,P [a]):∀ us:List α,us.length=1->P us
 | [a],_=>h a
theorem L2.us2 {α:Type} {P:List α->Prop} (h:∀ a b,P [a,b]):∀ us:List α,us.length=2->P us
 | [a,b],_=>h a b
theorem L2.us3 {α:Type} {P:List α->Prop} (h:∀ a b c,P [a,b,c]):∀ us:List α,us.length=3->P us
 | [a,b,c],_=>h a b c
theorem L2.us4 {α:Type} {P:List α->Prop} (h:∀ a b c d,P [a,b,c,d]):∀ us:List α,us.length=4->P us
 | [a,b,c,d],_=>h a b c d
theorem L2.us5 {α:Type} {P:List α->Prop} (h:∀ a b c d e,P [a,b,c,d,e]):∀ us:List α,us.length=5->P us
 | [a,b,c,d,e],_=>h a b c d e
theorem L2.qb {Q:L2.VK} {H:L2.Hp} {a b:Bool} (h:Q (.bl a) H) (e:a=b):Q (.bl b) H:=e ▸ h
theorem L2.qi {Q:L2.VK} {H:L2.Hp} {a b:Int} (h:Q (.int a) H) (e:a=b):Q (.int b) H:=e ▸ h
local macro_rules | `(tactic| walk_at "cap")=>`(tactic| repeat (first | exact trivial | refine ⟨⟨by first | exact Or.inl rfl | exact Or.inr rfl,by first | exact Or.inl rfl | exact Or.inr rfl,rfl⟩,?_⟩))
local macro_rules | `(tactic| walk_at "sub")=>`(tactic| repeat (first | exact trivial | refine ⟨rfl,?_⟩))
local macro_rules | `(tactic| walk_at "has")=>`(tactic| repeat (first | exact trivial | refine ⟨fun _=>⟨_,rfl⟩,?_⟩ | refine ⟨(fun z=>by (rcases z with z | z <;> first | cases (show PySem.NameKind.local=PySem.NameKind.cell from z) | cases (show PySem.NameKind.local=PySem.NameKind.free from z) | cases (show PySem.NameKind.globalImplicit=PySem.NameKind.cell from z) | cases (show PySem.NameKind.globalImplicit=PySem.NameKind.free from z))),?_⟩))
local macro_rules | `(tactic| walk_at "rd1")=>`(tactic| first
 | with_reducible refine L2.zzO ?_
 | with_reducible refine L2.zyP ?_
 | refine ⟨_,rfl,?_⟩
 | refine ⟨_,_,rfl,rfl,?_⟩
 | refine ⟨_,_,rfl,?_⟩
 | refine ⟨_,_,_,rfl,?_⟩
 | refine ⟨rfl,?_⟩
 | refine ⟨(⟨by decide,by decide⟩:L2.CDiv _ _),?_⟩
 | refine ⟨(show (0:Int)<_ by first | decide | walk_at "o"),?_⟩
 | refine ⟨(⟨by decide,by decide,by decide⟩:L2.CPow _ _),?_⟩
 | refine ⟨(Or.inl ⟨by first | decide | walk_at "o",by first | decide | walk_at "o"⟩:L2.CMul _ _),?_⟩
 | refine ⟨(Or.inr ⟨by first | decide | walk_at "o",by first | decide | walk_at "o"⟩:L2.CMul _ _),?_⟩
 | refine ⟨_,_,rfl,.inl (by assumption),?_⟩
 | refine ⟨_,_,_,_,rfl,rfl,L2.SqT.of (by assumption),rfl,?_⟩
 | (refine ⟨_,_,_,_,rfl,(by assumption),(by first | walk_at "o" | decide),(by first | walk_at "o" | decide),(by first | walk_at "o" | decide),?_⟩;intro r' r0' r1')
 | (refine ⟨_,_,_,rfl,(by assumption),(by walk_at "o"),(by walk_at "o"),?_⟩;intro r' r0' r1')
 | refine And.intro (by walk_at "o") ?_
 | refine And.intro (Nat.le_of_ble_eq_true rfl) ?_
 | with_reducible refine L2.iteNF ?_
 | with_reducible refine L2.zy8 ?_
 | with_reducible refine L2.ifI (fun _=>?_) (fun _=>?_)
 | with_reducible refine L2.zzZ (fun _=>?_) (fun _=>?_)
 | with_reducible refine L2.ifD (fun _=>?_) (fun _=>?_)
 | with_reducible refine L2.zzS (fun _=>?_) (fun _=>?_))
local macro_rules | `(tactic| walk_at "rd")=>`(tactic| repeat' walk_at "rd1")
seal L2.PSs L2.PS L2.PE L2.PT L2.PA L2.PI L2.PG L2.PGs L2.PW L2.PC L2.PO
local macro_rules | `(tactic| walk_at "rd1")=>`(tactic| first
 | with_reducible refine L2.zzF ?_
 | with_reducible refine L2.zz2 (by decide) ?_
 | with_reducible refine L2.ifSNT ?_
 | with_reducible refine L2.ifSNF (by decide) ?_
 | ((with_reducible refine And.intro (a:=L2.zw3 _ _) ?_ ?_);(exact ⟨by first | decide | walk_at "o",by first | decide | walk_at "o"⟩))
 | fail)
local macro_rules | `(tactic| walk_at "rd1")=>`(tactic| ((with_reducible refine L2.sqG ?_);(first | (with_reducible refine L2.zyT ?_) | (with_reducible refine L2.zzI ?_) | (with_reducible refine L2.zzD ?_) | (with_reducible refine L2.zz1 ?_) | (with_reducible refine L2.zzQ ?_) | (with_reducible refine L2.zzU ?_) | (with_reducible refine L2.zzT ?_) | (with_reducible refine L2.zzH ?_) | (with_reducible refine L2.zzW ?_));intros))
local macro_rules | `(tactic| walk_at "s1")=>`(tactic| first | exact L2.us1 fun _=>rfl | exact L2.us2 fun _ _=>rfl | exact L2.us3 fun _ _ _=>rfl | exact L2.us4 fun _ _ _ _=>rfl | exact L2.us5 fun _ _ _ _ _=>rfl | k_is | rfl)
local macro_rules | `(tactic| walk_at "lc")=>`(tactic| first | exact Or.inl rfl | exact Or.inr rfl)
local macro_rules | `(tactic| walk_at "sp")=>`(tactic| exact ⟨rfl,rfl,rfl,by decide +kernel,rfl,by decide +kernel,by decide +kernel⟩)
local macro_rules | `(tactic| nofun)=>`(tactic| walk_at "rd")
abbrev qaa:List PySem.Str:=["self"]
abbrev qab:List PySem.Str:=["_law_script"]
abbrev qac:List PySem.Str:=["self","day"]
abbrev qad:List PySem.Str:=["self","amount"]
abbrev qae:List PySem.Str:=["entries","word"]
abbrev qaf:List PySem.Str:=["book","days","amount"]
abbrev qag:List PySem.Str:=["book"]
abbrev qah:List PySem.Str:=["book","days"]
abbrev qai:List PySem.Str:=["self","day","amount"]
abbrev qaj:List PySem.Str:=["year"]
abbrev qak:List PySem.Str:=["thing"]
abbrev qal:List PySem.Str:=["pairs"]
abbrev qam:List PySem.Str:=["rows"]
abbrev qan:List PySem.Str:=["_law_script","_law_k"]
abbrev qao:List PySem.Str:=["_law_rows_here","_law_word"]
abbrev qap:List PySem.Str:=["spans","day"]
abbrev qaq:List PySem.Str:=["self","a","b"]
abbrev qar:List PySem.Str:=["_law_rows_here","_law_base_here"]
abbrev qas:List PySem.Str:=["_law_row_here"]
abbrev qat:List PySem.Str:=["day"]
abbrev qau:List PySem.Str:=["self","day","rate"]
abbrev qav:List PySem.Str:=["_law_cell","_law_many"]
abbrev qaw:List PySem.Str:=["_law_year"]
abbrev qax:List PySem.Str:=["rows","day"]
abbrev qay:List PySem.Str:=["self","unit"]
abbrev qaz:List PySem.Str:=["_law_days_here","_law_amount"]
abbrev qba:List PySem.Str:=["_law_year","_law_month"]
abbrev qbb:List PySem.Str:=["self","count","grace","entries"]
abbrev qbc:List PySem.Str:=["self","units"]
abbrev qbd:List PySem.Str:=["year","month"]
abbrev qbe:List PySem.Str:=["self","day","until"]
abbrev qbf:List PySem.Str:=["thing","least","most"]
abbrev qbg:List PySem.Str:=["count","grace"]
abbrev qbh:List PySem.Str:=["entries","spans"]
abbrev qbi:List PySem.Str:=["things"]
abbrev qbj:List PySem.Str:=["debt","deeds"]
abbrev qbk:List PySem.Str:=["self","entries"]
abbrev qbl:List PySem.Str:=["_law_script","_law_rows_here"]
abbrev qbm:List PySem.Str:=["_law_word","_law_day","_law_xs","_law_top"]
abbrev qbn:List PySem.Str:=["_law_flags","_law_base_here","_law_day"]
abbrev qbo:List PySem.Str:=["_law_unit_here","_law_principal","_law_units","_law_deeds_here"]
abbrev qbp:List PySem.Str:=["table","day"]
abbrev qbq:List PySem.Str:=["entries"]
abbrev qbr:List PySem.Str:=["_law_cell","_law_base_here","_law_top"]
abbrev qbs:List PySem.Str:=["_law_rows_here"]
abbrev qbt:List PySem.Str:=["_law_script","_law_at","_law_base_here","_law_many"]
abbrev qbu:List PySem.Str:=["_law_script","_law_first","_law_last"]
abbrev qbv:List PySem.Str:=["_law_day"]
abbrev qbw:List PySem.Str:=["_law_kind","_law_base_here","_law_many"]
abbrev qbx:List PySem.Str:=["_law_script","_law_rows_here","_law_many"]
abbrev qby:List PySem.Str:=["count","rows","principal","a","b"]
abbrev qbz:List PySem.Str:=["_law_script","_law_rows_here","_law_days_here","_law_amount"]
abbrev qca:List PySem.Str:=["book","rows"]
abbrev qcb:List PySem.Str:=["_law_script","_law_rows_here","_law_book_here","_law_days_here","_law_amount"]
namespace My
open PySem L2
local macro_rules | `(tactic| exists $a:term,$b:term,$z:term)=>do
 let [v,H,Q,E,h,f,c,A,o,s,r]:=[`vs,`H,`Q,`E,`h,`f,`cdv,`A,`outer,`s,`hr].map Lean.mkIdent | unreachable!
 `(tactic| refine $a $b (fun $v $H $Q $E $h=>?_) (fun $f $c $A $o $s $H $v $Q $E $r $h=>?_))
noncomputable def top (i:Nat):Stmt:=PySem.Challenge.pw_loanroll_k61_sums_paid_on_days.main.body.getD i (.Pass ⟨0,0,0,0⟩)
structure Txt (K:W.Frag) (mg:Str->Option Value):Prop where
 zqe:mg "all" = none
 zrc:mg "bool" = none
 zd4:mg "dict" = none
 zdv:mg "int" = none
 zb3:mg "isinstance" = none
 zbN:mg "len" = none
 zbO:mg "list" = none
 zdr:mg "max" = none
 zdp:mg "min" = none
 zb8:mg "range" = none
 zmc:mg "set" = none
 zbU:mg "sorted" = none
 cls:∀ kd:Kd,Cls K (cA K kd.cls)
 mk0:∀ kd:Kd,Mk0 K (cA K kd.cls)
 ikK:∀ kd:Kd,zwi K (cA K kd.cls)
 kitK0:∀ k:Kd,PySem.W.kitOne K (.ref (cA K k.cls)) (.ref (cA K (Kd.cls .plain)))=some (zx2 k .plain)
 kitS:∀ k:Kd,PySem.W.kitOne K (.ref (cA K k.cls)) (.type "str")=some false
 zqS:mg "Bank" = some (.ref (cA K "Bank"))
 znJ:mg "Book" = some (.ref (cA K "Book"))
 zl9:mg "Count" = some (.ref (cA K "Count"))
 zn2:mg "Debt" = some (.ref (cA K "Debt"))
 ztP:mg "Due" = some (.ref (cA K "Due"))
 zjF:mg "Entry" = some (.ref (cA K "Entry"))
 zoA:mg "Exact" = some (.ref (cA K "Exact"))
 ztU:mg "Fee" = some (.ref (cA K "Fee"))
 zqP:mg "Late" = some (.ref (cA K "Late"))
 zup:mg "Out" = some (.ref (cA K "Out"))
 zqd:mg "Pay" = some (.ref (cA K "Pay"))
 zro:mg "Rate" = some (.ref (cA K "Rate"))
 zoS:mg "Still" = some (.ref (cA K "Still"))
 zng:mg "Thirty" = some (.ref (cA K "Thirty"))
 zq3:mg "Turn" = some (.ref (cA K "Turn"))
 zy:Cls K (cA K "Book")
 zl1:MkI K (cA K "Book")
 zR:Cls K (cA K "Debt")
 zmi:MkI K (cA K "Debt")
 clE:∀ k:Ek,Cls K (cA K k.cls)
 zbe:∀ k:Ek,zac K (cA K k.cls) "amount"
 zau:∀ k:Ek,zac K (cA K k.cls) "day"
 zhZ:∀ k:Ek,zac K (cA K k.cls) "rate"
 zia:∀ k:Ek,zac K (cA K k.cls) "until"
 zqT:MkI K (cA K "Due")
 zrh:MkI K (cA K "Fee")
 zoK:MkI K (cA K "Late")
 zqJ:MkI K (cA K "Out")
 zny:MkI K (cA K "Pay")
 zo0:MkI K (cA K "Rate")
 zmX:MkI K (cA K "Still")
 zof:MkI K (cA K "Turn")
 zcd:zac K (cA K "Book") "due_sums"
 zbB:zac K (cA K "Book") "fee_sums"
 zbW:zac K (cA K "Book") "late_rows"
 zbz:zac K (cA K "Book") "out_sums"
 zbp:zac K (cA K "Book") "own_count"
 za7:zac K (cA K "Book") "own_entries"
 zbo:zac K (cA K "Book") "own_grace"
 zbE:zac K (cA K "Book") "pay_sums"
 zbX:zac K (cA K "Book") "rate_rows"
 zcq:zac K (cA K "Book") "spans"
 zbn:zac K (cA K "Book") "turn_days"
 za1:zac K (cA K "Debt") "cent_units"
 zai:zac K (cA K "Debt") "owed_units"
 zP:zac K (cA K "Debt") "principal_cents"
 zb6:∃ t,mg "FIRST_YEAR" = some (.int 2000 t)
 zkk:∃ t,mg "LAST_DAY" = some (.int 999999 t)
 zlR:∃ a,mg "LENGTHS" = some (.ref a)/\∀ H,SqT K H a [.int 31,.int 28,.int 31,.int 30,.int 31,.int 30,.int 31,.int 31,.int 30,.int 31,.int 30,.int 31]
 ziy:∃ t,mg "MOST_DAYS" = some (.int 360 t)
 zdi:∃ t,mg "MOST_ENTRIES" = some (.int 500 t)
 zh1:∃ t,mg "MOST_GRACE" = some (.int 366 t)
 zhb:∃ t,mg "RATE_PARTS" = some (.int 10000 t)
 zhz:∃ t,mg "ROUND_DAYS" = some (.int 146097 t)
 zgo:∃ t,mg "ROUND_YEARS" = some (.int 400 t)
noncomputable abbrev zgO:Stmt:=top 2
noncomputable abbrev zl8:Stmt:=top 3
noncomputable abbrev zdb:Stmt:=top 6
noncomputable abbrev zfx:Stmt:=inClass (top 9) 11
noncomputable abbrev zfy:Stmt:=inClass (top 9) 0
noncomputable abbrev zfO:Stmt:=inClass (top 9) 3
noncomputable abbrev zcg:Stmt:=inClass (top 9) 1
noncomputable abbrev zjQ:Stmt:=top 11
noncomputable abbrev zgF:Stmt:=top 33
noncomputable abbrev zio:Stmt:=top 35
noncomputable abbrev zgJ:Stmt:=top 37
noncomputable abbrev zen:Stmt:=inClass (top 42) 0
noncomputable abbrev zew:Stmt:=inClass (top 42) 1
noncomputable abbrev zfK:Stmt:=inClass (top 43) 0
noncomputable abbrev zfQ:Stmt:=inClass (top 43) 1
noncomputable abbrev zdD:Stmt:=inClass (top 44) 0
noncomputable abbrev zdt:Stmt:=inClass (top 44) 1
noncomputable abbrev zd9:Stmt:=inClass (top 45) 0
noncomputable abbrev zet:Stmt:=inClass (top 45) 1
noncomputable abbrev zbC:Stmt:=inClass (top 47) 0
noncomputable abbrev zeD:Stmt:=inClass (top 47) 1
noncomputable abbrev zgN:Stmt:=inClass (top 50) 0
noncomputable abbrev zgM:Stmt:=inClass (top 51) 0
noncomputable abbrev zgB:Stmt:=inClass (top 52) 0
noncomputable abbrev zgH:Stmt:=inClass (top 53) 0
noncomputable abbrev zfr:Stmt:=inClass (top 54) 0
noncomputable abbrev zfF:Stmt:=inClass (top 55) 0
noncomputable abbrev zfp:Stmt:=inClass (top 56) 0
noncomputable abbrev zeC:Stmt:=inClass (top 57) 1
noncomputable abbrev zj0:Stmt:=top 59
noncomputable abbrev zeA:Stmt:=inClass (top 69) 1
noncomputable abbrev zcm:Stmt:=inClass (top 69) 12
noncomputable abbrev zft:Stmt:=inClass (top 69) 11
noncomputable abbrev zdd:Stmt:=inClass (top 69) 3
noncomputable abbrev zfq:Stmt:=inClass (top 69) 5
noncomputable abbrev zed:Stmt:=inClass (top 69) 2
noncomputable abbrev zeu:Stmt:=inClass (top 69) 9
noncomputable abbrev zfw:Stmt:=inClass (top 69) 4
noncomputable abbrev zfs:Stmt:=inClass (top 69) 6
noncomputable abbrev zeR:Stmt:=inClass (top 69) 8
noncomputable abbrev zdw:Stmt:=inClass (top 69) 10
noncomputable abbrev zej:Stmt:=inClass (top 69) 7
noncomputable abbrev zc2:Stmt:=top 80
noncomputable abbrev zer:Stmt:=top 81
noncomputable abbrev zd8:Stmt:=top 82
noncomputable abbrev zfG:Stmt:=top 90
noncomputable abbrev zeM:Stmt:=top 94
noncomputable abbrev zea:Stmt:=top 95
noncomputable abbrev zfo:Stmt:=top 96
noncomputable abbrev zeP:Stmt:=top 99
noncomputable abbrev zdB:Stmt:=top 101
noncomputable abbrev zfP:Stmt:=top 104
noncomputable abbrev zey:Stmt:=top 106
noncomputable abbrev zgL:Stmt:=top 4
noncomputable abbrev zfj:Stmt:=top 7
noncomputable abbrev zcp:Stmt:=inClass (top 9) 13
noncomputable abbrev zfu:Stmt:=inClass (top 9) 9
noncomputable abbrev zmj:Stmt:=top 12
noncomputable abbrev zc6:Stmt:=top 15
noncomputable abbrev zd5:Stmt:=top 18
noncomputable abbrev zku:Stmt:=top 34
noncomputable abbrev zeH:Stmt:=top 36
noncomputable abbrev zik:Stmt:=top 38
noncomputable abbrev zaU:Stmt:=inClass (top 42) 2
noncomputable abbrev zcs:Stmt:=inClass (top 47) 2
noncomputable abbrev zag:Stmt:=inClass (top 48) 0
noncomputable abbrev zao:Stmt:=inClass (top 48) 1
noncomputable abbrev zba:Stmt:=inClass (top 49) 0
noncomputable abbrev zbl:Stmt:=inClass (top 49) 1
noncomputable abbrev zeJ:Stmt:=inClass (top 57) 0
noncomputable abbrev zfn:Stmt:=inClass (top 57) 2
noncomputable abbrev zfL:Stmt:=top 58
noncomputable abbrev zko:Stmt:=top 60
noncomputable abbrev ziv:Stmt:=top 61
noncomputable abbrev zeq:Stmt:=top 66
noncomputable abbrev zdu:Stmt:=top 67
noncomputable abbrev zgP:Stmt:=top 83
noncomputable abbrev zfE:Stmt:=top 84
noncomputable abbrev zeB:Stmt:=top 86
noncomputable abbrev zeQ:Stmt:=top 88
noncomputable abbrev zb0:Stmt:=top 91
noncomputable abbrev zfC:Stmt:=top 97
noncomputable abbrev zfv:Stmt:=top 98
noncomputable abbrev zci:Stmt:=top 100
noncomputable abbrev zck:Stmt:=top 103
noncomputable abbrev zfJ:Stmt:=inClass (top 9) 12
noncomputable abbrev zgC:Stmt:=inClass (top 9) 8
noncomputable abbrev zfI:Stmt:=inClass (top 9) 7
noncomputable abbrev zfH:Stmt:=inClass (top 9) 10
noncomputable abbrev zjX:Stmt:=top 13
noncomputable abbrev zil:Stmt:=top 39
noncomputable abbrev zdA:Stmt:=top 65
noncomputable abbrev zdC:Stmt:=top 68
noncomputable abbrev zgK:Stmt:=top 72
noncomputable abbrev zfN:Stmt:=top 85
noncomputable abbrev zfA:Stmt:=top 92
noncomputable abbrev zh8:Stmt:=top 16
noncomputable abbrev zgD:Stmt:=top 19
noncomputable abbrev zb2:Stmt:=inClass (top 42) 3
noncomputable abbrev zdy:Stmt:=inClass (top 44) 2
noncomputable abbrev zep:Stmt:=inClass (top 45) 2
noncomputable abbrev zfz:Stmt:=inClass (top 69) 0
noncomputable abbrev zeI:Stmt:=top 73
noncomputable abbrev zih:Stmt:=top 74
noncomputable abbrev zfl:Stmt:=top 87
noncomputable abbrev zdg:Stmt:=top 93
noncomputable abbrev zaF:Stmt:=inClass (top 42) 4
noncomputable abbrev zfM:Stmt:=top 102
noncomputable abbrev zeF:Stmt:=top 17
noncomputable abbrev zcl:Stmt:=inClass (top 69) 13
noncomputable abbrev zfD:Stmt:=top 89
noncomputable abbrev zdc:Stmt:=top 105
noncomputable abbrev zcW:Stmt:=top 20
noncomputable abbrev ziu:Stmt:=top 76
noncomputable abbrev zds:Stmt:=top 21
noncomputable abbrev zfB:Stmt:=top 77
noncomputable abbrev zh9:Stmt:=top 78
noncomputable abbrev zd7:Stmt:=top 107
noncomputable abbrev znU:Stmt:=top 108
section
variable {P:Program} {w:World} {K:W.Frag} {mg:Str->Option Value} {base:Heap}
def zmM (K:W.Frag):Sp:=fun vs H Q _=>∃ (p:Addr) (xs:List V) (t:List (Int × Int)),vs=[.ref p]/\H p=some (.lst xs)/\zH K H xs t/\t.length<64/\(∀ s∈t,0<=s.1)/\∀ q H' ws (r:List (Int × Int)),H q=none->Same H H'->H' q=some (.lst ws)->zH K H' ws r->Stills.TabOf t r->r=(r.map (·.1)).map (fun d=>(d,Sums.valOf t d))->r.length<=t.length->Q (.ref q) H'
theorem zst:zk qal qal (zg zgO):=by walk_at "sp"
theorem zuc (S:Src K mg "table_of" zgO qal) (T:Txt K mg)  : Def P w K mg base 1 "table_of" qal (zmM K):=by
 exists S.ok,zst,0
 all_goals obtain ⟨p,xs,t,rfl,hp,hR,hl,t0,h⟩:=h
 ·rfl
 refine ⟨_,(ze (zo (zA (zlO rfl) rfl T.zbU PyProof.Rows.boot_sorted (za (zqX (zM (zc5 rfl) rfl T.zd4 PyProof.Rows.boot_dict (za (pv 0) zd))) zd)))),?_⟩
 nofun
 refine ⟨p,xs,t,rfl,hp,hR,hl,?_⟩
 intro d H1 nd s1 e1
 nofun
 refine ⟨d,_,rfl,e1,?_⟩
 intro v H2 nv s2 e2
 nofun
 have dl:=zs8 t
 refine ⟨v,d,_,rfl,e2,s2 _ _ e1,by ac_rfl,?_⟩
 intro q H3 ws r nq s3 e3 hr' pm o
 obtain ⟨T1,e⟩:=Dct.tab t0 pm o
 exact h q H3 ws r (zx (s1.trans s2) nq) (s1.trans (s2.trans s3)) e3 hr' T1 e (by rw[pm.length_eq];exact dl)
def zkz (K:W.Frag):Sp:=fun vs H Q _=>L2.Ee4 fun a xs (l:List Int) d=>L2.Aa5 (vs=[.ref a,.int d]) (SqL K H a xs) (RF H xs l) ((l.Pairwise (·<·))) (∀ n:Nat,zoI l d n->Q (.int n) H)
theorem zfh:zk ["rows", "day", "low", "high", "middle"] qax (zg zl8):=by walk_at "sp"
theorem zxD (S:Src K mg "begun" zl8 qax) (T:Txt K mg)  : Def P w K mg base 1 "begun" qax (zkz K):=by
 exists S.ok,zfh,0
 all_goals obtain ⟨a,xs,l,d,rfl,hS,hR,up,h⟩:=h
 ·rfl
 refine ⟨_,(zb (zp (i:=2) zfh.nd rfl (by walk_at "lc") zc)
  (zb (zp (i:=3) zfh.nd rfl (by walk_at "lc") (zA zan rfl T.zbN PySem.boot_len (za (pv 0) zd)))
  (zb (zdR PassesOwn.never (zz zgI (pv 2) (pv 3) (nomark _))
  (zb (zp (i:=4) zfh.nd rfl (by walk_at "lc") (zj zb7 (zj zF (pv 2) (pv 3)) zc))
  (ze (zX (zz zd2 (zv zam (zv zD (pv 0) (pv 4) (fun _ _=>rfl)) zc (fun _ _=>rfl)) (pv 1) (nomark _))
  (ze (zp (i:=2) zfh.nd rfl (by walk_at "lc") (zj zF (pv 4) zc)))
  (ze (zp (i:=3) zfh.nd rfl (by walk_at "lc") (pv 4)))))))
  (ze (zo (pv 2)))))),?_⟩
 have xl:=hR.length
 nofun
 refine ⟨fun n σ H'=>H=H'/\∃ (lo hi:Nat) (z:Option V),σ=[some (.ref a),some (.int d),some (.int lo),some (.int hi),z]/\lo<=hi/\hi<=l.length/\(∀ i s,i<lo->l[i]?=some s->s<=d)/\(∀ i s,hi<=i->l[i]?=some s->d<s)/\n=hi-lo,⟨_,rfl,0,xs.length,_,rfl,yda _,by ac_rfl,fun i s hi=>absurd hi (Nat.not_lt_zero _),fun i s hi e=>?_,rfl⟩,?_⟩
 ·have:=(yac.mp e).1
  ac_rfl
 rintro n σ H' ⟨rfl,lo,hi,z,rfl,lh,hl,below,above,rfl⟩
 nofun
 ·rename_i q
  refine ⟨_,fun σ' H' z=>z,?_⟩
  have em:((lo:Int)+hi) / 2=(((lo+hi) / 2:Nat):Int):=by ac_rfl
  have m1:lo<=(lo+hi) / 2:=by ac_rfl
  have m2:(lo+hi) / 2<hi:=by ac_rfl
  nofun
  generalize (lo+hi) / 2=m at m1 m2 em
  obtain ⟨s,es,p,ws,ex,hp⟩:=hR.get (yaa (by ac_rfl:m<xs.length))
  have at_:atI xs (((lo:Int)+hi) / 2)=some (.ref p):=em ▸ zaw (by rw[yaa (by ac_rfl:m<xs.length),ex])
  refine ⟨a,_,_,_,rfl,rfl,hS,at_,?_⟩
  have at0:atI (V.int s::ws) (0:Int)=some (.int s):=(zaw (by rfl):atI (V.int s::ws) ((0:Nat):Int)=some (.int s))
  nofun
  refine ⟨p,_,_,_,rfl,rfl,SqT.of hp,at0,?_⟩
  nofun
  ·rename_i q2
   refine ⟨hi-(m+1),by ac_rfl,rfl,m+1,hi,some (.int m),(by show [some (V.ref a),some (V.int d),some (V.int (((lo:Int)+hi) / 2+1)),some (V.int hi),some (V.int (((lo:Int)+hi) / 2))]=_;rw[em];rfl),by ac_rfl,hl,fun i t hi e=>?_,above,rfl⟩
   rcases Nat.lt_or_ge i m with c | c
   ·have:=zc9 up e es c
    ac_rfl
   ·have:i=m:=by ac_rfl
    subst this
    rw[es] at e
    cases e
    exact q2
  ·rename_i q2
   refine ⟨m-lo,by ac_rfl,rfl,lo,m,some (.int m),(by show [some (V.ref a),some (V.int d),some (V.int lo),some (V.int (((lo:Int)+hi) / 2)),some (V.int (((lo:Int)+hi) / 2))]=_;rw[em]),by ac_rfl,by ac_rfl,below,fun i t hi e=>?_,rfl⟩
   rcases Nat.lt_or_ge m i with c | c
   ·have:=zc9 up es e c
    ac_rfl
   ·have:i=m:=by ac_rfl
    subst this
    rw[es] at e
    cases e
    ac_rfl
 ·rename_i q
  have:lo=hi:=by ac_rfl
  subst this
  exact h lo ⟨hl,below,above⟩
def zd3 (K:W.Frag):Sp:=fun vs H Q _=>∃ (q:Addr) (xs:List V) (l:List (Int × Int)),vs=[.ref q]/\H q=some (.lst xs)/\zH K H xs l/\l.length<=1000 /\
 ∀ p ws H',H p=none->Same H H'->H' p=some (.lst ws)->zH K H' ws (runs 0 l)->Q (.ref p) H'
theorem zbP:zk ["rows", "told", "total", "row"] qam (zg zdb):=by walk_at "sp"
theorem zoi (S:Src K mg "running_sums" zdb qam) (T:Txt K mg)  : Def P w K mg base 1 "running_sums" qam (zd3 K):=by
 exists S.ok,zbP,0
 all_goals obtain ⟨q,xs,l,rfl,hq,hR,hl,h⟩:=h
 ·rfl
 refine ⟨_,(zb (zp (i:=1) zbP.nd rfl (by walk_at "lc") (zat zd))
  (zb (zp (i:=2) zbP.nd rfl (by walk_at "lc") zc)
  (zb (za6 PassesOwn.never rfl (zQ (pv 0)) (zI (i:=3) zbP.nd rfl (by walk_at "lc"))
  (zb (zp (i:=2) zbP.nd rfl (by walk_at "lc") (zj zF (pv 2) (zv zam (pv 3) zc (fun _ _=>rfl))))
  (ze (zaa (zcn PySem.F.plainAttrs_list PySem.F.slot_list_append PySem.F.type_list_append zaJ (pv 1) (za (zaf (za (zv zam (pv 3) zc (fun _ _=>rfl)) (za (pv 2) zd))) zd))))))
  (ze (zo (pv 1)))))),?_⟩
 have sz:=sizeLine_eq
 have xl:=hR.length
 nofun
 intro p np
 have s1:=zf np (.lst [])
 have eP:=zG (.lst []) np
 generalize upd H p (.lst [])=H1 at s1 eP ⊢
 nofun
 refine ⟨⟨_,SqL.of (s1 _ _ hq)⟩,zbm (xs:=xs) (fun i σ H'=>∃ (ws:List V) (z1:Option V),(Same H H'/\H' p=some (.lst ws))/\zH K H' ws (runs 0 (l.take i))/\σ=[some (.ref q),some (.ref p),some (.int (sum2 (l.take i))),z1])
  ⟨[],_,⟨s1,eP⟩,.nil,rfl⟩ ?_ ?_ ?_⟩
 ·rintro i σ H' _ ⟨ws,z1,⟨sH,_⟩,_⟩
  exact SqL.of (sH _ _ hq)
 ·rintro i x σ H' hx ⟨ws,z1,⟨sH,eP'⟩,hW,rfl⟩
  obtain ⟨u,s,rfl,hs,hu⟩:=(hR.same sH).get hx
  have il:i<l.length:=(yac.mp hs).1
  have wl:=hW.length
  rw[zvT,yaz] at wl
  have tk:l.take (i+1)=l.take i++[s]:=by rw[ybc,hs];rfl
  rw[tk,zo7,zuz,ydx]
  generalize sum2 (l.take i)=t at *
  nofun
  refine ⟨.inl ⟨rfl,_,SqL.of eP'⟩,?_⟩
  nofun
  intro v nv
  have s5:=zf nv (.tup [.int s.1,.int (t+s.2)])
  have ev:=zG (.tup [.int s.1,.int (t+s.2)]) nv
  have eP5:=s5 _ _ eP'
  refine ⟨p,_,_,rfl,rfl,eP5,by ac_rfl,?_⟩
  have ev6:(upd (upd H' v (.tup [.int s.1,.int (t+s.2)])) p (.lst (ws++[.ref v]))) v=some (.tup [.int s.1,.int (t+s.2)]):=by
   rw[zr (zae ev eP5 (by intro z;cases z))]
   exact ev
  exact ⟨ws++[.ref v],_,⟨zJ (sH.trans s5) np,zh⟩,((hW.same s5).put eP5).push (s:=(s.1,t+s.2)) ev6,rfl⟩
 ·rintro σ H' ⟨ws,z1,⟨sH,eP'⟩,hW,rfl⟩
  rw[xl,yci] at hW
  nofun
  exact h p ws H' np sH eP' hW
def zlB (K:W.Frag):Sp:=fun vs H Q _=>L2.Ee6 fun p dx u m n x=>L2.Aa3 (vs=[.ref p,.int x]) (Deb K H p dx u m n) (Q .non (upd H p (.ins (cA K "Debt") dx (zaz u (Dbt.step u .grow x m n).1 (Dbt.step u .grow x m n).2))))
theorem zsf:zk qbc qbc (zg zfx):=by walk_at "sp"
theorem zsI (S:zq K (cA K "Debt") "grow" "Debt.grow" zfx qbc) (T:Txt K mg)  : zu P w K mg base 1 (cA K "Debt") "grow" qbc (zlB K):=by
 exists S.ok,zsf,0
 all_goals obtain ⟨p,dx,u,m,n,x,rfl,e,h⟩:=h
 ·rfl
 refine ⟨_,(ze (zaG T.zR T.zai (pv 0) (zj zF (zZ T.zR T.zai (pv 0)) (pv 1)))),?_⟩
 nofun
 refine ⟨p,dx,_,_,rfl,e,rfl,?_⟩
 nofun
 refine ⟨p,dx,_,rfl,e,zbT,?_⟩
 rw[zt8]
 exact h
def zhW (K:W.Frag):Sp:=fun vs H Q _=>∃ p dx u,vs=[.ref p,.int u]/\H p=some (.ins (cA K "Debt") dx [])/\Q .non (upd H p (.ins (cA K "Debt") dx (zaz u 0 0)))
theorem zr3:zk qay qay (zg zfy):=by walk_at "sp"
theorem zsv (S:zq K (cA K "Debt") "__init__" "Debt.__init__" zfy qay) (T:Txt K mg)  : zu P w K mg base 1 (cA K "Debt") "__init__" qay (zhW K):=by
 exists S.ok,zr3,0
 all_goals obtain ⟨p,dx,u,rfl,e,h⟩:=h
 ·rfl
 refine ⟨_,(zb (zaG T.zR T.za1 (pv 0) (pv 1))
  (zb (zaG T.zR T.zP (pv 0) zc)
  (ze (zaG T.zR T.zai (pv 0) zc)))),?_⟩
 nofun
 refine ⟨p,dx,[],rfl,e,by decide,?_⟩
 nofun
 refine ⟨p,dx,_,rfl,zh,ycz (ycx 1) (by decide),?_⟩
 nofun
 refine ⟨p,dx,_,rfl,zh,ycz (ycx 2) (by decide),?_⟩
 rw[zad,zad]
 exact h
def zek (K:W.Frag):Sp:=fun vs H Q _=>L2.Ee5 fun p dx u m n=>L2.Aa4 (vs=[.ref p]) (Deb K H p dx u m n) ((0<u/\u<1152921504606846976)) (Q (.int (n / u)) H)
theorem zrF:zk qaa qaa (zg zfO):=by walk_at "sp"
theorem zs9 (S:zq K (cA K "Debt") "owed" "Debt.owed" zfO qaa) (T:Txt K mg)  : zu P w K mg base 1 (cA K "Debt") "owed" qaa (zek K):=by
 exists S.ok,zrF,0
 all_goals obtain ⟨p,dx,u,m,n,rfl,e,⟨u0,u1⟩,h⟩:=h
 ·rfl
 refine ⟨_,(ze (zo (zj zcU (zZ T.zR T.zai (pv 0)) (zZ T.zR T.za1 (pv 0))))),?_⟩
 nofun
 refine ⟨p,dx,_,_,rfl,e,rfl,?_⟩
 nofun
 refine ⟨p,dx,_,_,rfl,e,rfl,?_⟩
 nofun
 exact h
def zgA (K:W.Frag):Sp:=fun vs H Q _=>L2.Ee5 fun p dx u m n=>L2.Aa3 (vs=[.ref p]) (Deb K H p dx u m n) (Q (.int m) H)
theorem zmu:zk qaa qaa (zg zcg):=by walk_at "sp"
theorem zmP (S:zq K (cA K "Debt") "principal" "Debt.principal" zcg qaa) (T:Txt K mg)  : zu P w K mg base 1 (cA K "Debt") "principal" qaa (zgA K):=by
 exists S.ok,zmu,0
 all_goals obtain ⟨p,dx,u,m,n,rfl,e,h⟩:=h
 ·rfl
 refine ⟨_,(ze (zo (zZ T.zR T.zP (pv 0)))),?_⟩
 nofun
 refine ⟨p,dx,_,_,rfl,e,rfl,?_⟩
 exact h
def zo5 (K:W.Frag):Sp:=fun vs H Q _=>∃ (a:Addr) (xs:List V) (l:List (Int × Int)),vs=[.ref a]/\SqL K H a xs/\zH K H xs l/\l.length<64/\(∀ s∈l,s.1<s.2) /\
 ∀ p ys r H',Same H H'->H p=none->H' p=some (.lst ys)->zH K H' ys r->Spans.Joined r->(∀ d,Spans.Cov r d↔Spans.Cov l d)->r.length<=l.length->Q (.ref p) H'
theorem ztN {K:W.Frag} {H:Hp} {ys:List V} {acc:List (Int × Int)} (r:zH K H ys acc) (h:0<ys.length):∃ ys' b acc' t,ys=ys'++[.ref b]/\acc=acc'++[t]/\H b=some (.tup [.int t.1,.int t.2])/\zH K H ys' acc':=by
 induction r with
 | nil=>simp at h
 | @cons p s xs l hp rr ih =>
  cases rr with
  | nil=>exact ⟨[],p,[],s,rfl,rfl,hp,.nil⟩
  | cons h2 rr2 =>
   obtain ⟨ys',b,acc',t,e1,e2,e3,e4⟩:=ih (by simp)
   exact ⟨.ref p::ys',b,s::acc',t,by rw[e1];rfl,by rw[e2];rfl,e3,.cons hp e4⟩
theorem zlN:zk ["spans", "told", "span"] ["spans"] (zg zjQ):=by walk_at "sp"
theorem zwm (S:Src K mg "joined" zjQ ["spans"]) (T:Txt K mg)  : Def P w K mg base 1 "joined" ["spans"] (zo5 K):=by
 exists S.ok,zlN,0
 all_goals obtain ⟨a,xs,l,rfl,hS,hR,hl,ok,h⟩:=h
 ·rfl
 refine ⟨_,(zb (zp (i:=1) zlN.nd rfl (by walk_at "lc") (zat zd))
  (zb (za6 PassesOwn.never rfl (zQ (zA zrU rfl T.zbU PyProof.Rows.boot_sorted (za (pv 0) zd))) (zI (i:=2) zlN.nd rfl (by walk_at "lc"))
  (ze (zX (PW.pt (znN (zz zgR (zA zan rfl T.zbN PySem.boot_len (za (pv 1) zd)) zc (nomark _)) (zoG (zz zd2 (zv zam (pv 2) zc (fun _ _=>rfl)) (zv zam (zv zD (pv 1) (zkA zg2 zc) (fun _ _=>rfl)) zc (fun _ _=>rfl)) (nomark _)))))
  (ze (zhx (zaf (za (zv zam (zv zD (pv 1) (zkA zg2 zc) (fun _ _=>rfl)) zc (fun _ _=>rfl)) (za (zA (zbt rfl) rfl T.zdr PyProof.Rows.boot_max (za (zv zam (zv zD (pv 1) (zkA zg2 zc) (fun _ _=>rfl)) zc (fun _ _=>rfl)) (za (zv zam (pv 2) zc (fun _ _=>rfl)) zd))) zd))) (zuK (pv 1) (zkA zg2 zc) set_list)))
  (ze (zaa (zcn PySem.F.plainAttrs_list PySem.F.slot_list_append PySem.F.type_list_append zaJ (pv 1) (za (pv 2) zd)))))))
  (ze (zo (pv 1))))),?_⟩
 have sz:=sizeLine_eq
 have xl:=hR.length
 nofun
 intro p np
 have sp:=zf np (.lst [])
 nofun
 refine ⟨a,xs,l,rfl,sp.seq hS,hR.same sp,hl,?_⟩
 intro q H2 ws r nq sq eq rR pm srt
 have wl:=rR.length
 have rl:=pm.length_eq
 have s2:=sp.trans sq
 have eP2:=sq _ _ (zh (H:=H) (a:=p) (o:=.lst []))
 have npq:q≠p:=(zY (zh (H:=H) (a:=p) (o:=.lst [])) nq).symm
 refine ⟨q,rfl,⟨_,SqL.of eq⟩,zbm (xs:=ws) (fun i σ H'=>∃ (ys:List V) (acc:List (Int × Int)) (z:Option V),(Same H H'/\H' q=some (.lst ws)/\H' p=some (.lst ys))/\(zH K H' ys acc/\zH K H' ws r)/\Stills.JInv (r.take i) acc/\acc.length<=i/\σ=[some (.ref a),some (.ref p),z])
  ⟨[],[],_,⟨s2,eq,eP2⟩,⟨.nil,rR⟩,Stills.JInv.nil,ycx _,rfl⟩ ?_ ?_ ?_⟩
 ·rintro i σ H' _ ⟨ys,acc,z,⟨_,e,_⟩,_⟩
  exact SqL.of e
 ·rintro i x σ H' hx ⟨ys,acc,z,⟨sH,eQ,eP⟩,⟨rA,rW⟩,J,al,rfl⟩
  obtain ⟨u,s,rfl,hs,ht⟩:=rW.get hx
  have il:i<r.length:=(yac.mp hs).1
  have yl:=rA.length
  have up:=ok s (pm.mem_iff.mp (yah hs))
  have tk:r.take (i+1)=r.take i++[s]:=by rw[ybc,hs];rfl
  have hP:SqL K H' p ys:=SqL.of eP
  rw[tk]
  have t1':∀ t∈acc,t.1<=s.1:=fun t htt=>by
   obtain ⟨s',hs',e⟩:=J.f t htt
   obtain ⟨j,hj,ej⟩:=yax.mp hs'
   rw[yaz] at hj
   rw[List.getElem_take] at ej
   have:=ybb.mp srt j i (by ac_rfl) il (by ac_rfl)
   rw[ej] at this
   have es:r[i]=s:=by
    have:=yaa il
    rw[hs] at this
    exact (Option.some.inj this).symm
   rw[es] at this
   ac_rfl
  nofun
  ·rename_i pos
   obtain ⟨ys',b,acc',t,e1,e2,hb,rA'⟩:=ztN rA (by ac_rfl)
   subst e1 e2
   have yl':=rA'.length
   have atl:atI (ys'++[.ref b]) (-1)=some (.ref b):=zw9 (by simp) (by simp)
   have le1:=t1' t (by simp)
   refine ⟨p,_,_,_,rfl,rfl,hP,atl,?_⟩
   nofun
   ·rename_i le2
    refine ⟨p,_,_,_,rfl,rfl,hP,atl,?_⟩
    nofun
    refine ⟨p,_,_,_,rfl,rfl,hP,atl,?_⟩
    nofun
    intro u2 nu2
    obtain ⟨m,hm⟩:∃ m:Int,m=if s.2 > t.2 then s.2 else t.2:=⟨_,rfl⟩
    rw[<-hm]
    have s5:=zf nu2 (.tup [.int t.1,.int m])
    have eP':=s5 _ _ eP
    have eQ':=s5 _ _ eQ
    nofun
    have ixe:ixN (ys'++[V.ref b]).length (-1)=some (ys'.length):=by
     unfold ixN
     rw[if_neg (by decide),if_pos (by rw[yaf,ybu];ac_rfl),yaf]
     show some ((-1:Int)+((ys'.length+1:Nat):Int)).toNat=_
     rw[show ((-1:Int)+((ys'.length+1:Nat):Int)).toNat=ys'.length by ac_rfl]
    refine ⟨p,_,_,_,rfl,rfl,eP',ixe,?_⟩
    have es:(ys'++[V.ref b]).set ys'.length (.ref u2)=ys'++[.ref u2]:=by
     rw[List.set_append_right _ _ (ycx _),ydl]
     rfl
    rw[es]
    have st2:(upd (upd H' u2 (.tup [.int t.1,.int m])) p (.lst (ys'++[.ref u2]))) u2=some (.tup [.int t.1,.int m]):=by
     rw[zr (zY eP nu2).symm]
     exact zh
    exact ⟨ys'++[.ref u2],acc'++[(t.1,m)],_,⟨zJ (sH.trans s5) np,by rw[zr npq];exact eQ',zh⟩,⟨((rA'.same s5).put eP').push (s:=(t.1,m)) st2,(rW.same s5).put eP'⟩,J.grow up le1 le2 hm,by rw[yaf] at al ⊢;exact Nat.le_succ_of_le al,rfl⟩
   ·rename_i gt
    refine ⟨.inl ⟨rfl,_,SqL.of eP⟩,?_⟩
    nofun
    refine ⟨p,_,_,rfl,rfl,eP,by ac_rfl,?_⟩
    have st2:(upd H' p (.lst (ys'++[.ref b]++[.ref u]))) u=some (.tup [.int s.1,.int s.2]):=by
     rw[zr (zae ht eP (by intro z;cases z))]
     exact ht
    exact ⟨ys'++[.ref b]++[.ref u],acc'++[t]++[s],_,⟨zJ sH np,by rw[zr npq];exact eQ,zh⟩,⟨(rA.put eP).push (s:=s) st2,rW.put eP⟩,J.add up (by ac_rfl),by rw[yaf];exact Nat.succ_le_succ al,rfl⟩
  ·rename_i no
   have y0:ys=[]:=by cases ys with | nil=>rfl | cons _ _=>exact absurd (by simp) no
   subst y0
   have a0:acc=[]:=by cases acc with | nil=>rfl | cons _ _=>simp at yl
   subst a0
   refine ⟨.inl ⟨rfl,_,SqL.of eP⟩,?_⟩
   nofun
   refine ⟨p,_,_,rfl,rfl,eP,by simp;ac_rfl,?_⟩
   have st2:(upd H' p (.lst ([]++[.ref u]))) u=some (.tup [.int s.1,.int s.2]):=by
    rw[zr (zae ht eP (by intro z;cases z))]
    exact ht
   exact ⟨[]++[.ref u],[]++[s],_,⟨zJ sH np,by rw[zr npq];exact eQ,zh⟩,⟨(zH.put .nil eP).push (s:=s) st2,rW.put eP⟩,J.begin_ up,by simp,rfl⟩
 ·rintro σ H' ⟨ys,acc,z,⟨sH,eQ,eP⟩,⟨rA,rW⟩,J,al,rfl⟩
  rw[wl,yaw (ycx _)] at J
  nofun
  refine h p ys acc H' sH np eP rA J.j (fun d=>?_) (by ac_rfl)
  rw[J.c]
  exact Stills.zxp (fun s=>pm.mem_iff) d
def zjl (K:W.Frag):Sp:=fun vs H Q _=>∃ x T,vs=[x]/\zvd K H x T/\Q (.bl (decide (T = "int"))) H
theorem zs0:zk qak qak (zg zgF):=by walk_at "sp"
theorem zuo (S:Src K mg "is_whole" zgF qak) (T:Txt K mg)  : Def P w K mg base 1 "is_whole" qak (zjl K):=by
 exists S.ok,zs0,0
 all_goals obtain ⟨x,Tk,rfl,hk,h⟩:=h
 ·rfl
 refine ⟨_,(ze (zo (zk3 (zA zi5 rfl T.zb3 PyProof.Rows.boot_isinstance (za (pv 0) (za (zoz (v:=.ty "int") rfl T.zdv PyProof.Rows.boot_int rfl) zd))) (zh3 (zyQ (zA zi5 rfl T.zb3 PyProof.Rows.boot_isinstance (za (pv 0) (za (zoz (v:=.ty "bool") rfl T.zrc PyProof.Rows.boot_bool rfl) zd)))))))),?_⟩
 nofun
 refine ⟨_,_,_,_,rfl,hk.1,zxJ hk.2,?_⟩
 nofun
 ·refine ⟨_,_,_,_,rfl,hk.1,zv4 hk.2,?_⟩
  nofun
  rename_i z
  exact qb h (by rcases z with rfl | rfl <;> decide)
 ·rename_i z
  exact qb h (decide_eq_false fun q=>z (.inl q))
def zkt (K:W.Frag):Sp:=fun vs H Q _=>∃ y,vs=[.int y]/\Q (.bl (Cal.leap y)) H
theorem zt9:zk qaj qaj (zg zio):=by walk_at "sp"
theorem zu1 (S:Src K mg "is_leap" zio qaj) (T:Txt K mg)  : Def P w K mg base 1 "is_leap" qaj (zkt K):=by
 exists S.ok,zt9,0
 all_goals obtain ⟨y,rfl,h⟩:=h
 ·rfl
 refine ⟨_,(ze (zo (zk3 (zbc zak (zj zS (pv 0) zc) zc (nomark _)) (zh3 (zw1 (zbc zzr (zj zS (pv 0) zc) zc (nomark _)) (zh3 (zbc zak (zj zS (pv 0) zc) zc (nomark _)))))))),?_⟩
 nofun
 all_goals exact qb h (by simp[Cal.leap,dI, *])
def zfk (K:W.Frag):Sp:=fun vs H Q _=>∃ y,vs=[.int y]/\Q (.int (Cal.ny y)) H
theorem ziB:zk ["year", "years", "leaps"] qaj (zg zgJ):=by walk_at "sp"
theorem zt3 (S:Src K mg "new_year" zgJ qaj) (T:Txt K mg)  : Def P w K mg base 1 "new_year" qaj (zfk K):=by
 exists S.ok,ziB,0
 all_goals obtain ⟨y,rfl,h⟩:=h
 ·rfl
 refine ⟨_,(zb (zp (i:=1) ziB.nd rfl (by walk_at "lc") (zj zah (pv 0) (zbJ T.zb6)))
  (zb (zp (i:=2) ziB.nd rfl (by walk_at "lc") (zj zF (zj zah (zj zb7 (zj zF (pv 1) zc) zc) (zj zb7 (zj zF (pv 1) zc) zc)) (zj zb7 (zj zF (pv 1) zc) zc)))
  (ze (zo (zj zF (zj zaB zc (pv 1)) (pv 2)))))),?_⟩
 nofun
 all_goals exact qi h (by unfold Cal.ny;ac_rfl)
noncomputable def nm:Kd->Str
 | .plain => "plain"
 | .bank => "bank"
 | .thirty => "thirty"
 | .exact => "exact"
def zd0 (kd:Kd) (K:W.Frag):Sp:=fun vs H Q _=>∃ a,vs=[.ref a]/\Q (.str (nm kd)) H
theorem zpX:zk qaa qaa (zg zen):=by walk_at "sp"
theorem zqV (kd:Kd) (hk:kd=.plain) (S:zq K (cA K kd.cls) "name" "Count.name" zen qaa) (T:Txt K mg)  : zu P w K mg base 1 (cA K kd.cls) "name" qaa (zd0 kd K):=by
 subst hk
 exists S.ok,zpX,0
 all_goals obtain ⟨a,rfl,h⟩:=h
 ·rfl
 refine ⟨_,(ze (zo zB)),?_⟩
 nofun
 exact h
noncomputable def yr:Kd->Int
 | .plain=>365
 | .bank=>360
 | .thirty=>360
 | .exact=>133590
def zcH (kd:Kd) (K:W.Frag):Sp:=fun vs H Q _=>∃ a,vs=[.ref a]/\Q (.int (yr kd)) H
theorem zp6:zk qaa qaa (zg zew):=by walk_at "sp"
theorem zqy (kd:Kd) (hk:kd=.plain) (S:zq K (cA K kd.cls) "year" "Count.year" zew qaa) (T:Txt K mg)  : zu P w K mg base 1 (cA K kd.cls) "year" qaa (zcH kd K):=by
 subst hk
 exists S.ok,zp6,0
 all_goals obtain ⟨a,rfl,h⟩:=h
 ·rfl
 refine ⟨_,(ze (zo zc)),?_⟩
 nofun
 exact h
theorem zr1:zk qaa qaa (zg zfK):=by walk_at "sp"
theorem zsY (kd:Kd) (hk:kd=.bank) (S:zq K (cA K kd.cls) "name" "Bank.name" zfK qaa) (T:Txt K mg)  : zu P w K mg base 1 (cA K kd.cls) "name" qaa (zd0 kd K):=by
 subst hk
 exists S.ok,zr1,0
 all_goals obtain ⟨a,rfl,h⟩:=h
 ·rfl
 refine ⟨_,(ze (zo zB)),?_⟩
 nofun
 exact h
theorem zr9:zk qaa qaa (zg zfQ):=by walk_at "sp"
theorem zs1 (kd:Kd) (hk:kd=.bank) (S:zq K (cA K kd.cls) "year" "Bank.year" zfQ qaa) (T:Txt K mg)  : zu P w K mg base 1 (cA K kd.cls) "year" qaa (zcH kd K):=by
 subst hk
 exists S.ok,zr9,0
 all_goals obtain ⟨a,rfl,h⟩:=h
 ·rfl
 refine ⟨_,(ze (zo zc)),?_⟩
 nofun
 exact h
theorem zoV:zk qaa qaa (zg zdD):=by walk_at "sp"
theorem zp2 (kd:Kd) (hk:kd=.thirty) (S:zq K (cA K kd.cls) "name" "Thirty.name" zdD qaa) (T:Txt K mg)  : zu P w K mg base 1 (cA K kd.cls) "name" qaa (zd0 kd K):=by
 subst hk
 exists S.ok,zoV,0
 all_goals obtain ⟨a,rfl,h⟩:=h
 ·rfl
 refine ⟨_,(ze (zo zB)),?_⟩
 nofun
 exact h
theorem zoc:zk qaa qaa (zg zdt):=by walk_at "sp"
theorem zp3 (kd:Kd) (hk:kd=.thirty) (S:zq K (cA K kd.cls) "year" "Thirty.year" zdt qaa) (T:Txt K mg)  : zu P w K mg base 1 (cA K kd.cls) "year" qaa (zcH kd K):=by
 subst hk
 exists S.ok,zoc,0
 all_goals obtain ⟨a,rfl,h⟩:=h
 ·rfl
 refine ⟨_,(ze (zo zc)),?_⟩
 nofun
 exact h
theorem zpG:zk qaa qaa (zg zd9):=by walk_at "sp"
theorem zq7 (kd:Kd) (hk:kd=.exact) (S:zq K (cA K kd.cls) "name" "Exact.name" zd9 qaa) (T:Txt K mg)  : zu P w K mg base 1 (cA K kd.cls) "name" qaa (zd0 kd K):=by
 subst hk
 exists S.ok,zpG,0
 all_goals obtain ⟨a,rfl,h⟩:=h
 ·rfl
 refine ⟨_,(ze (zo zB)),?_⟩
 nofun
 exact h
theorem zpW:zk qaa qaa (zg zet):=by walk_at "sp"
theorem zq2 (kd:Kd) (hk:kd=.exact) (S:zq K (cA K kd.cls) "year" "Exact.year" zet qaa) (T:Txt K mg)  : zu P w K mg base 1 (cA K kd.cls) "year" qaa (zcH kd K):=by
 subst hk
 exists S.ok,zpW,0
 all_goals obtain ⟨a,rfl,h⟩:=h
 ·rfl
 refine ⟨_,(ze (zo (zj zaB zc zc))),?_⟩
 nofun
 exact h
def zbM (K:W.Frag):Sp:=fun vs H Q _=>L2.Ee5 fun p C dx (fs:List (Str × V)) d=>L2.Aa6 (vs=[.ref p,.int d]) (H p=some (.ins C dx fs)) (Cls K C) (zac K C "day") (fs.length<1000) (Q .non (upd H p (.ins C dx (zaY "day" (.int d) fs))))
theorem zkP:zk qac qac (zg zbC):=by walk_at "sp"
theorem zrw (x:Str) (S:zq K (cA K x) "__init__" "Entry.__init__" zbC qac) (T:Txt K mg)  : zu P w K mg base 1 (cA K x) "__init__" qac (zbM K):=by
 exists S.ok,zkP,0
 all_goals obtain ⟨p,C,dx,fs,d,rfl,e,hc,hn,hl,h⟩:=h
 ·rfl
 refine ⟨_,(ze (zlj (pv 0) (pv 1) rfl)),?_⟩
 nofun
 refine ⟨p,C,dx,fs,rfl,e,hc,hn,hl,?_⟩
 exact h
theorem zp0 (S:zqs K (cA K "Entry") "__init__" "Entry.__init__" zbC qac) (T:Txt K mg)  : zou P w K mg base 1 (cA K "Entry") "__init__" qac (zbM K):=by
 exists S.ok,zkP,0
 all_goals obtain ⟨p,C,dx,fs,d,rfl,e,hc,hn,hl,h⟩:=h
 ·rfl
 refine ⟨_,(ze (zlj (pv 0) (pv 1) rfl)),?_⟩
 nofun
 refine ⟨p,C,dx,fs,rfl,e,hc,hn,hl,?_⟩
 exact h
def zas (k:Ek) (K:W.Frag):Sp:=fun vs H Q _=>∃ a,vs=[.ref a]/\Q (.str k.word) H
theorem zpL:zk qaa qaa (zg zeD):=by walk_at "sp"
theorem zq5 (kd:Ek) (hk:kd=.base) (S:zq K (cA K kd.cls) "word" "Entry.word" zeD qaa) (T:Txt K mg)  : zu P w K mg base 1 (cA K kd.cls) "word" qaa (zas kd K):=by
 subst hk
 exists S.ok,zpL,0
 all_goals obtain ⟨a,rfl,h⟩:=h
 ·rfl
 refine ⟨_,(ze (zo zB)),?_⟩
 nofun
 exact h
theorem zss:zk qaa qaa (zg zgN):=by walk_at "sp"
theorem zun (kd:Ek) (hk:kd=.out) (S:zq K (cA K kd.cls) "word" "Out.word" zgN qaa) (T:Txt K mg)  : zu P w K mg base 1 (cA K kd.cls) "word" qaa (zas kd K):=by
 subst hk
 exists S.ok,zss,0
 all_goals obtain ⟨a,rfl,h⟩:=h
 ·rfl
 refine ⟨_,(ze (zo zB)),?_⟩
 nofun
 exact h
theorem zsA:zk qaa qaa (zg zgM):=by walk_at "sp"
theorem zuy (kd:Ek) (hk:kd=.fee) (S:zq K (cA K kd.cls) "word" "Fee.word" zgM qaa) (T:Txt K mg)  : zu P w K mg base 1 (cA K kd.cls) "word" qaa (zas kd K):=by
 subst hk
 exists S.ok,zsA,0
 all_goals obtain ⟨a,rfl,h⟩:=h
 ·rfl
 refine ⟨_,(ze (zo zB)),?_⟩
 nofun
 exact h
theorem zsX:zk qaa qaa (zg zgB):=by walk_at "sp"
theorem zux (kd:Ek) (hk:kd=.pay) (S:zq K (cA K kd.cls) "word" "Pay.word" zgB qaa) (T:Txt K mg)  : zu P w K mg base 1 (cA K kd.cls) "word" qaa (zas kd K):=by
 subst hk
 exists S.ok,zsX,0
 all_goals obtain ⟨a,rfl,h⟩:=h
 ·rfl
 refine ⟨_,(ze (zo zB)),?_⟩
 nofun
 exact h
theorem zsT:zk qaa qaa (zg zgH):=by walk_at "sp"
theorem zum (kd:Ek) (hk:kd=.due) (S:zq K (cA K kd.cls) "word" "Due.word" zgH qaa) (T:Txt K mg)  : zu P w K mg base 1 (cA K kd.cls) "word" qaa (zas kd K):=by
 subst hk
 exists S.ok,zsT,0
 all_goals obtain ⟨a,rfl,h⟩:=h
 ·rfl
 refine ⟨_,(ze (zo zB)),?_⟩
 nofun
 exact h
theorem zrJ:zk qaa qaa (zg zfr):=by walk_at "sp"
theorem zsh (kd:Ek) (hk:kd=.turn) (S:zq K (cA K kd.cls) "word" "Turn.word" zfr qaa) (T:Txt K mg)  : zu P w K mg base 1 (cA K kd.cls) "word" qaa (zas kd K):=by
 subst hk
 exists S.ok,zrJ,0
 all_goals obtain ⟨a,rfl,h⟩:=h
 ·rfl
 refine ⟨_,(ze (zo zB)),?_⟩
 nofun
 exact h
theorem zqE:zk qaa qaa (zg zfF):=by walk_at "sp"
theorem zs4 (kd:Ek) (hk:kd=.rate) (S:zq K (cA K kd.cls) "word" "Rate.word" zfF qaa) (T:Txt K mg)  : zu P w K mg base 1 (cA K kd.cls) "word" qaa (zas kd K):=by
 subst hk
 exists S.ok,zqE,0
 all_goals obtain ⟨a,rfl,h⟩:=h
 ·rfl
 refine ⟨_,(ze (zo zB)),?_⟩
 nofun
 exact h
theorem zr6:zk qaa qaa (zg zfp):=by walk_at "sp"
theorem zsr (kd:Ek) (hk:kd=.late) (S:zq K (cA K kd.cls) "word" "Late.word" zfp qaa) (T:Txt K mg)  : zu P w K mg base 1 (cA K kd.cls) "word" qaa (zas kd K):=by
 subst hk
 exists S.ok,zr6,0
 all_goals obtain ⟨a,rfl,h⟩:=h
 ·rfl
 refine ⟨_,(ze (zo zB)),?_⟩
 nofun
 exact h
theorem zpB:zk qaa qaa (zg zeC):=by walk_at "sp"
theorem zrz (kd:Ek) (hk:kd=.still) (S:zq K (cA K kd.cls) "word" "Still.word" zeC qaa) (T:Txt K mg)  : zu P w K mg base 1 (cA K kd.cls) "word" qaa (zas kd K):=by
 subst hk
 exists S.ok,zpB,0
 all_goals obtain ⟨a,rfl,h⟩:=h
 ·rfl
 refine ⟨_,(ze (zo zB)),?_⟩
 nofun
 exact h
theorem zg7:∀ {xs ys:List Int},xs.Nodup->(∀ x∈xs,x∈ys)->xs.length<=ys.length
 | [],_,_,_=>yda _
 | x::xs,ys,nd,h=>by
  have hx:=h x yap
  obtain ⟨nx,nd'⟩:=ybj.mp nd
  have:=zg7 (ys:=ys.erase x) nd' fun z hz=>(ycn (fun (q:z=x)=>nx (by rw[<-q];exact hz))).mpr (h z (yam _ hz))
  rw[ycb hx] at this
  have:=ybv hx
  rw[ybh]
  omega
def zlD (K:W.Frag):Sp:=fun vs H Q _=>∃ (p:Addr) (xs:List V) (l:List (Int × Int)),vs=[.ref p]/\H p=some (.lst xs)/\zH K H xs l/\l.length<=61 /\
 ∀ q H' ws r,H q=none->Same H H'->H' q=some (.lst ws)->zH K H' ws r->Sby.Tab r l->Q (.ref q) H'
theorem zlK:zk ["pairs", "sums", "pair"] qal (zg zj0):=by walk_at "sp"
theorem zwa (S:Src K mg "summed" zj0 qal) (T:Txt K mg)  : Def P w K mg base 1 "summed" qal (zlD K):=by
 exists S.ok,zlK,0
 all_goals obtain ⟨p,xs,l,rfl,ep,hR,hl,h⟩:=h
 ·rfl
 refine ⟨_,(zb (zp (i:=1) zlK.nd rfl (by walk_at "lc") zvO)
  (zb (za6 PassesOwn.never rfl (zQ (pv 0)) (zI (i:=2) zlK.nd rfl (by walk_at "lc"))
  (ze (zxs (pv 1) (zv zam (pv 2) zc (fun _ _=>rfl)) (zj zF (zml (pv 1) (zv zam (pv 2) zc (fun _ _=>rfl)) zc) (zv zam (pv 2) zc (fun _ _=>rfl))))))
  (ze (zo (zA (zlO rfl) rfl T.zbU PyProof.Rows.boot_sorted (za (zqX (pv 1)) zd)))))),?_⟩
 nofun
 intro d nd
 have sd:=zf nd (zb1 P w d [])
 have ed:=zG (zb1 P w d []) nd
 have small:∀ {acc:List (Int × Int)} {n:Nat},Sby.Tot acc (l.take n)->acc.length<=61:=fun {acc n} t=>by
  have:=zg7 t.nd fun k hk=>(t.mem k).mp hk
  rw[yab,yab,yaz] at this
  ac_rfl
 nofun
 refine ⟨⟨_,SqL.of (sd _ _ ep)⟩,zbm (xs:=xs) (fun i σ H'=>∃ (acc:List (Int × Int)) (z:Option V),(Same H H'/\H' d=some (zb1 P w d acc))/\Sby.Tot acc (l.take i)/\σ=[some (.ref p),some (.ref d),z]) ⟨[],_,⟨sd,ed⟩,by rw[List.take_zero];exact Sby.Tot.nil,rfl⟩ ?_ ?_ ?_⟩
 ·rintro i σ H' _ ⟨acc,z,⟨sH,_⟩,_⟩
  exact SqL.of (sH _ _ ep)
 ·rintro i x σ H' hx ⟨acc,z,⟨sH,eD⟩,tt,rfl⟩
  obtain ⟨t,s,rfl,hs,ht⟩:=(hR.same sH).get hx
  have al:=small tt
  nofun
  refine ⟨d,acc,rfl,eD,?_⟩
  nofun
  refine ⟨eD,?_⟩
  rw[tt.look]
  nofun
  refine ⟨d,acc,s.1,_,rfl,rfl,rfl,eD,ydc al (by decide),?_⟩
  refine ⟨zav acc s.1 (Sby.sm (l.take i) s.1+s.2),_,⟨zJ sH nd,zh⟩,?_,rfl⟩
  rw[ybc,hs]
  exact tt.step s.1 s.2
 ·rintro σ H' ⟨acc,z,⟨sH,eD⟩,tt,rfl⟩
  have al:=small tt
  rw[hR.length,yci] at tt
  nofun
  refine ⟨d,acc,rfl,eD,fun v H2 nv s2 ev=>?_⟩
  nofun
  refine ⟨v,d,acc,rfl,ev,s2 _ _ eD,by ac_rfl,fun q H3 ws r nq s3 eq hr' pm up=>?_⟩
  exact h q H3 ws r (zx (sH.trans s2) nq) (sH.trans (s2.trans s3)) eq hr' (tt.tab pm up)
def zgq (K:W.Frag):Sp:=fun vs H Q _=>∃ (a:Addr) (A:BkA) (b:BkT),vs=[.ref a]/\zaK K H a A b/\Q (.ref A.c) H
theorem zpA:zk qaa qaa (zg zeA):=by walk_at "sp"
theorem zsg (S:zq K (cA K "Book") "count" "Book.count" zeA qaa) (T:Txt K mg)  : zu P w K mg base 1 (cA K "Book") "count" qaa (zgq K):=by
 exists S.ok,zpA,0
 all_goals obtain ⟨a,A,b,rfl,B,h⟩:=h
 ·rfl
 refine ⟨_,(ze (zo (zZ T.zy T.zbp (pv 0)))),?_⟩
 nofun
 refine ⟨a,A.dx,_,_,rfl,B.ins,rfl,?_⟩
 exact h
def zgw (K:W.Frag):Sp:=fun vs H Q _=>∃ (a:Addr) (A:BkA) (b:BkT),vs=[.ref a]/\zaK K H a A b/\b.outs.length+b.fees.length+b.pays.length+b.turns.length<63 /\
 ∀ p (ns:List Int) H',H p=none->Same H H'->H' p=some (.lst (ns.map V.int))->ns.Pairwise (·<·)->(∀ d,d∈ns↔DDay b d)->ns.length<=b.outs.length+b.fees.length+b.pays.length+b.turns.length->Q (.ref p) H'
theorem zgy:zk ["self", "days"] qaa (zg zcm):=by walk_at "sp"
theorem zm3 (S:zq K (cA K "Book") "deed_days" "Book.deed_days" zcm qaa) (T:Txt K mg)  : zu P w K mg base 1 (cA K "Book") "deed_days" qaa (zgw K):=by
 exists S.ok,zgy,0
 all_goals obtain ⟨a,A,b,rfl,B,osz,h⟩:=h
 ·rfl
 refine ⟨_,(zb (zox (i:=1) zgy.nd rfl rfl (ix:=[]) ⟨rfl,by decide +kernel,rfl,by decide +kernel,rfl,(show (["row"]:List Str).Nodup by decide +kernel),by walk_at "cap", by walk_at "sub", by walk_at "has"⟩ (zQ (zj zeb (zj zeb (zZ T.zy T.zbz (pv 0)) (zZ T.zy T.zbB (pv 0))) (zZ T.zy T.zbE (pv 0)))) (fun b=>(zv (zbI K) (pv 0) zc (fun _ _=>rfl))))
  (ze (zo (zA (zec rfl) rfl T.zbU PyProof.Rows.boot_sorted (za (zM (zii rfl) rfl T.zmc PyProof.Rows.boot_set (za (zj zeb (pv 1) (zZ T.zy T.zbn (pv 0))) zd)) zd))))),?_⟩
 have sz:=sizeLine_eq
 obtain ⟨x1,e1,r1,l1⟩:=B.outs
 obtain ⟨x2,e2,r2,l2⟩:=B.fees
 obtain ⟨x3,e3,r3,l3⟩:=B.pays
 have c1:=r1.length
 have c2:=r2.length
 have c3:=r3.length
 nofun
 refine ⟨a,A.dx,_,_,rfl,B.ins,rfl,?_⟩
 nofun
 refine ⟨a,A.dx,_,_,rfl,B.ins,rfl,?_⟩
 nofun
 refine ⟨A.o,A.f,x1,x2,rfl,rfl,e1,e2,by ac_rfl,fun q3 n3=>?_⟩
 have t3:=zf n3 (.lst (x1++x2))
 have f3:=zG (.lst (x1++x2)) n3
 have B3:=B.same t3
 nofun
 refine ⟨a,A.dx,_,_,rfl,B3.ins,rfl,?_⟩
 nofun
 refine ⟨q3,A.p,x1++x2,x3,rfl,rfl,f3,t3 _ _ e3,by rw[yaf];ac_rfl,fun q5 n5=>?_⟩
 have t5:=zf n5 (.lst (x1++x2++x3))
 have f5:=zG (.lst (x1++x2++x3)) n5
 have s5:=t3.trans t5
 have rX:zH K _ (x1++x2++x3) (b.outs++b.fees++b.pays):=zj9 (zj9 (r1.same s5) (r2.same s5)) (r3.same s5)
 have B5:=B.same s5
 generalize upd (upd H q3 (.lst (x1++x2))) q5 (.lst (x1++x2++x3))=H5 at rX s5 f5 B5 ⊢
 have xl:=rX.length
 nofun
 refine ⟨⟨_,SqL.of f5⟩,fun l6 n6=>?_⟩
 have gd:∀ (u:List (Int × Int)) (f:Int × Int->Int) (i:Nat) (s:Int × Int),u[i]?=some s->(u.map f).getD i 0=f s:=fun u f i s e=>by
  rw[yad,yai,e];rfl
 have xl2:(x1++x2++x3).length<=63:=by rw[yaf,yaf];ac_rfl
 refine zis (fun i v=>v=.int (((b.outs++b.fees++b.pays).map (·.1)).getD i 0)) (SqL.of f5) n6 (by ac_rfl) ?_ ?_
 ·intro i x H' Q' hx sH hq
  obtain ⟨p,s,rfl,e,ht⟩:=rX.get hx
  nofun
  exact ⟨p,_,_,_,rfl,rfl,SqT.of (sH _ _ ht),rfl,hq _ (by rw[gd _ _ i s e])⟩
 intro ys1 len1 hp1
 obtain rfl:=zoY (ns:=(b.outs++b.fees++b.pays).map (·.1)) (by rw[len1,yab,xl]) hp1
 have s6:=zf n6 (.lst (((b.outs++b.fees++b.pays).map (·.1)).map V.int))
 have e6:=zG (.lst (((b.outs++b.fees++b.pays).map (·.1)).map V.int)) n6
 have kl:((b.outs++b.fees++b.pays).map (·.1)).length=b.outs.length+b.fees.length+b.pays.length:=by rw[yab,yaf,yaf]
 have B6:=B5.same s6
 generalize hD1:(b.outs++b.fees++b.pays).map (·.1)=D1 at *
 nofun
 refine ⟨a,A.dx,_,_,rfl,B6.ins,rfl,?_⟩
 nofun
 refine ⟨l6,A.t,_,_,rfl,rfl,e6,B6.turns,by rw[yab,yab];ac_rfl,fun q7 n7=>?_⟩
 have cat:D1.map V.int++b.turns.map V.int=(D1++b.turns).map V.int:=by rw[yar]
 rw[cat]
 have s7:=zf n7 (.lst ((D1++b.turns).map V.int))
 have e7:=zG (.lst ((D1++b.turns).map V.int)) n7
 have s07:=s5.trans (s6.trans s7)
 generalize upd (upd H5 l6 (.lst (D1.map V.int))) q7 (.lst ((D1++b.turns).map V.int))=H7 at s07 e7 ⊢
 have dl:(D1++b.turns).length=b.outs.length+b.fees.length+b.pays.length+b.turns.length:=by rw[yaf];ac_rfl
 nofun
 refine ⟨q7,_,rfl,SqL.of e7,by ac_rfl,fun pS HS ms nPS sPS ePS2 nd mm lm=>?_⟩
 nofun
 refine ⟨pS,ms,rfl,ePS2,by ac_rfl,fun pR HR ns nPR sPR ePR pm up=>?_⟩
 refine h pR ns HR (zx (s07.trans sPS) nPR) (s07.trans (sPS.trans sPR)) ePR (zlJ pm nd up) (fun d=>?_) (by rw[pm.length_eq];ac_rfl)
 rw[pm.mem_iff,mm,yae,<-hD1]
 exact Iff.rfl
def zhp (K:W.Frag):Sp:=fun vs H Q _=>∃ (a:Addr) (A:BkA) (b:BkT),vs=[.ref a]/\zaK K H a A b/\∀ q xs,H q=none->zH K H xs b.dues->b.dues.length<=1000->Q (.ref q) (upd H q (.lst xs))
theorem zqp:zk qaa qaa (zg zft):=by walk_at "sp"
theorem zsj (S:zq K (cA K "Book") "dues" "Book.dues" zft qaa) (T:Txt K mg)  : zu P w K mg base 1 (cA K "Book") "dues" qaa (zhp K):=by
 exists S.ok,zqp,0
 all_goals obtain ⟨a,A,b,rfl,B,h⟩:=h
 ·rfl
 refine ⟨_,(ze (zo (zM zaM rfl T.zbO PyProof.Rows.boot_list (za (zZ T.zy T.zcd (pv 0)) zd)))),?_⟩
 obtain ⟨xs,e,hR,hl⟩:=B.dues
 nofun
 refine ⟨a,A.dx,_,_,rfl,B.ins,rfl,?_⟩
 nofun
 exact ⟨A.d,xs,rfl,.inl (SqL.of e),fun q nq=>h q xs nq hR hl⟩
def zcF (K:W.Frag):Sp:=fun vs H Q _=>∃ (a:Addr) (A:BkA) (b:BkT),vs=[.ref a]/\zaK K H a A b/\∀ q xs,H q=none->EL K H xs b.es->Q (.ref q) (upd H q (.lst xs))
theorem znA:zk qaa qaa (zg zdd):=by walk_at "sp"
theorem zow (S:zq K (cA K "Book") "entries" "Book.entries" zdd qaa) (T:Txt K mg)  : zu P w K mg base 1 (cA K "Book") "entries" qaa (zcF K):=by
 exists S.ok,znA,0
 all_goals obtain ⟨a,A,b,rfl,B,h⟩:=h
 ·rfl
 refine ⟨_,(ze (zo (zM zaM rfl T.zbO PyProof.Rows.boot_list (za (zZ T.zy T.za7 (pv 0)) zd)))),?_⟩
 obtain ⟨xs,e,hE⟩:=B.ents
 nofun
 refine ⟨a,A.dx,_,_,rfl,B.ins,rfl,?_⟩
 nofun
 exact ⟨A.e,xs,rfl,.inl (SqL.of e),fun q nq=>h q xs nq hE⟩
def zla (K:W.Frag):Sp:=fun vs H Q _=>∃ (a:Addr) (A:BkA) (b:BkT),vs=[.ref a]/\zaK K H a A b/\∀ q xs,H q=none->zH K H xs b.fees->b.fees.length<=1000->Q (.ref q) (upd H q (.lst xs))
theorem zqu:zk qaa qaa (zg zfq):=by walk_at "sp"
theorem zsQ (S:zq K (cA K "Book") "fees" "Book.fees" zfq qaa) (T:Txt K mg)  : zu P w K mg base 1 (cA K "Book") "fees" qaa (zla K):=by
 exists S.ok,zqu,0
 all_goals obtain ⟨a,A,b,rfl,B,h⟩:=h
 ·rfl
 refine ⟨_,(ze (zo (zM zaM rfl T.zbO PyProof.Rows.boot_list (za (zZ T.zy T.zbB (pv 0)) zd)))),?_⟩
 obtain ⟨xs,e,hR,hl⟩:=B.fees
 nofun
 refine ⟨a,A.dx,_,_,rfl,B.ins,rfl,?_⟩
 nofun
 exact ⟨A.f,xs,rfl,.inl (SqL.of e),fun q nq=>h q xs nq hR hl⟩
def zdz (K:W.Frag):Sp:=fun vs H Q _=>∃ (a:Addr) (A:BkA) (b:BkT),vs=[.ref a]/\zaK K H a A b/\Q (.int b.g) H
theorem zpZ:zk qaa qaa (zg zed):=by walk_at "sp"
theorem zqz (S:zq K (cA K "Book") "grace" "Book.grace" zed qaa) (T:Txt K mg)  : zu P w K mg base 1 (cA K "Book") "grace" qaa (zdz K):=by
 exists S.ok,zpZ,0
 all_goals obtain ⟨a,A,b,rfl,B,h⟩:=h
 ·rfl
 refine ⟨_,(ze (zo (zZ T.zy T.zbo (pv 0)))),?_⟩
 nofun
 refine ⟨a,A.dx,_,_,rfl,B.ins,rfl,?_⟩
 exact h
def zf7 (K:W.Frag):Sp:=fun vs H Q _=>∃ (a:Addr) (A:BkA) (b:BkT),vs=[.ref a]/\zaK K H a A b/\∀ q xs,H q=none->zH K H xs b.lates->b.lates.length<=1000->Q (.ref q) (upd H q (.lst xs))
theorem zpQ:zk qaa qaa (zg zeu):=by walk_at "sp"
theorem zqQ (S:zq K (cA K "Book") "lates" "Book.lates" zeu qaa) (T:Txt K mg)  : zu P w K mg base 1 (cA K "Book") "lates" qaa (zf7 K):=by
 exists S.ok,zpQ,0
 all_goals obtain ⟨a,A,b,rfl,B,h⟩:=h
 ·rfl
 refine ⟨_,(ze (zo (zM zaM rfl T.zbO PyProof.Rows.boot_list (za (zZ T.zy T.zbW (pv 0)) zd)))),?_⟩
 obtain ⟨xs,e,hR,hl⟩:=B.lates
 nofun
 refine ⟨a,A.dx,_,_,rfl,B.ins,rfl,?_⟩
 nofun
 exact ⟨A.l,xs,rfl,.inl (SqL.of e),fun q nq=>h q xs nq hR hl⟩
def zlk (K:W.Frag):Sp:=fun vs H Q _=>∃ (a:Addr) (A:BkA) (b:BkT),vs=[.ref a]/\zaK K H a A b/\∀ q xs,H q=none->zH K H xs b.outs->b.outs.length<=1000->Q (.ref q) (upd H q (.lst xs))
theorem zrI:zk qaa qaa (zg zfw):=by walk_at "sp"
theorem zsm (S:zq K (cA K "Book") "outs" "Book.outs" zfw qaa) (T:Txt K mg)  : zu P w K mg base 1 (cA K "Book") "outs" qaa (zlk K):=by
 exists S.ok,zrI,0
 all_goals obtain ⟨a,A,b,rfl,B,h⟩:=h
 ·rfl
 refine ⟨_,(ze (zo (zM zaM rfl T.zbO PyProof.Rows.boot_list (za (zZ T.zy T.zbz (pv 0)) zd)))),?_⟩
 obtain ⟨xs,e,hR,hl⟩:=B.outs
 nofun
 refine ⟨a,A.dx,_,_,rfl,B.ins,rfl,?_⟩
 nofun
 exact ⟨A.o,xs,rfl,.inl (SqL.of e),fun q nq=>h q xs nq hR hl⟩
def zel (K:W.Frag):Sp:=fun vs H Q _=>∃ (a:Addr) (A:BkA) (b:BkT),vs=[.ref a]/\zaK K H a A b/\∀ q xs,H q=none->zH K H xs b.pays->b.pays.length<=1000->Q (.ref q) (upd H q (.lst xs))
theorem zq6:zk qaa qaa (zg zfs):=by walk_at "sp"
theorem zsi (S:zq K (cA K "Book") "pays" "Book.pays" zfs qaa) (T:Txt K mg)  : zu P w K mg base 1 (cA K "Book") "pays" qaa (zel K):=by
 exists S.ok,zq6,0
 all_goals obtain ⟨a,A,b,rfl,B,h⟩:=h
 ·rfl
 refine ⟨_,(ze (zo (zM zaM rfl T.zbO PyProof.Rows.boot_list (za (zZ T.zy T.zbE (pv 0)) zd)))),?_⟩
 obtain ⟨xs,e,hR,hl⟩:=B.pays
 nofun
 refine ⟨a,A.dx,_,_,rfl,B.ins,rfl,?_⟩
 nofun
 exact ⟨A.p,xs,rfl,.inl (SqL.of e),fun q nq=>h q xs nq hR hl⟩
def zf6 (K:W.Frag):Sp:=fun vs H Q _=>∃ (a:Addr) (A:BkA) (b:BkT),vs=[.ref a]/\zaK K H a A b/\∀ q xs,H q=none->zH K H xs b.rates->b.rates.length<=1000->Q (.ref q) (upd H q (.lst xs))
theorem zpz:zk qaa qaa (zg zeR):=by walk_at "sp"
theorem zrt (S:zq K (cA K "Book") "rates" "Book.rates" zeR qaa) (T:Txt K mg)  : zu P w K mg base 1 (cA K "Book") "rates" qaa (zf6 K):=by
 exists S.ok,zpz,0
 all_goals obtain ⟨a,A,b,rfl,B,h⟩:=h
 ·rfl
 refine ⟨_,(ze (zo (zM zaM rfl T.zbO PyProof.Rows.boot_list (za (zZ T.zy T.zbX (pv 0)) zd)))),?_⟩
 obtain ⟨xs,e,hR,hl⟩:=B.rates
 nofun
 refine ⟨a,A.dx,_,_,rfl,B.ins,rfl,?_⟩
 nofun
 exact ⟨A.r,xs,rfl,.inl (SqL.of e),fun q nq=>h q xs nq hR hl⟩
def zfd (K:W.Frag):Sp:=fun vs H Q _=>∃ (a:Addr) (A:BkA) (b:BkT),vs=[.ref a]/\zaK K H a A b/\∀ q xs,H q=none->zH K H xs b.spans->b.spans.length<=1000->Q (.ref q) (upd H q (.lst xs))
theorem zoE:zk qaa qaa (zg zdw):=by walk_at "sp"
theorem zp9 (S:zq K (cA K "Book") "stills" "Book.stills" zdw qaa) (T:Txt K mg)  : zu P w K mg base 1 (cA K "Book") "stills" qaa (zfd K):=by
 exists S.ok,zoE,0
 all_goals obtain ⟨a,A,b,rfl,B,h⟩:=h
 ·rfl
 refine ⟨_,(ze (zo (zM zaM rfl T.zbO PyProof.Rows.boot_list (za (zZ T.zy T.zcq (pv 0)) zd)))),?_⟩
 obtain ⟨xs,e,hR,hl⟩:=B.spans
 nofun
 refine ⟨a,A.dx,_,_,rfl,B.ins,rfl,?_⟩
 nofun
 exact ⟨A.s,xs,rfl,.inl (SqL.of e),fun q nq=>h q xs nq hR hl⟩
def zkQ (K:W.Frag):Sp:=fun vs H Q _=>∃ (a:Addr) (A:BkA) (b:BkT),vs=[.ref a]/\zaK K H a A b/\∀ q,H q=none->Q (.ref q) (upd H q (.lst (b.turns.map V.int)))
theorem zpK:zk qaa qaa (zg zej):=by walk_at "sp"
theorem zqm (S:zq K (cA K "Book") "turns" "Book.turns" zej qaa) (T:Txt K mg)  : zu P w K mg base 1 (cA K "Book") "turns" qaa (zkQ K):=by
 exists S.ok,zpK,0
 all_goals obtain ⟨a,A,b,rfl,B,h⟩:=h
 ·rfl
 refine ⟨_,(ze (zo (zM zaM rfl T.zbO PyProof.Rows.boot_list (za (zZ T.zy T.zbn (pv 0)) zd)))),?_⟩
 nofun
 refine ⟨a,A.dx,_,_,rfl,B.ins,rfl,?_⟩
 nofun
 exact ⟨A.t,_,rfl,.inl (SqL.of B.turns),fun q nq=>h q nq⟩
noncomputable def cellAt (ns:List Int) (k:Nat):Int:=ns.getD k 0
def zaI (K:W.Frag):Sp:=fun vs H Q _=>∃ (p:Addr) (ns:List Int) (k:Nat),vs=[.ref p,.int k]/\SqL K H p (ns.map V.int)/\Q (.int (cellAt ns k)) H
theorem znQ:zk qan qan (zg zc2):=by walk_at "sp"
theorem zoM (S:Src K mg "_law_cell_at" zc2 qan) (T:Txt K mg)  : Def P w K mg base 1 "_law_cell_at" qan (zaI K):=by
 exists S.ok,znQ,0
 all_goals obtain ⟨p,ns,k,rfl,hp,h⟩:=h
 ·rfl
 refine ⟨_,(zb (zX (zz zgI (pv 1) (zA zan rfl T.zbN PySem.boot_len (za (pv 0) zd)) (nomark _))
  (ze (zo (zv zD (pv 0) (pv 1) (fun _ _=>rfl))))
   zO)
  (ze (zo zc))),?_⟩
 nofun
 ·rename_i q
  rw[yab] at q
  have kl:k<ns.length:=by ac_rfl
  refine ⟨p,_,_,_,rfl,rfl,hp,zaw (by rw[yai,yaa kl];rfl),?_⟩
  unfold cellAt at h
  rw[yad,yaa kl] at h
  exact h
 ·rename_i q
  rw[yab] at q
  unfold cellAt at h
  rw[yad,yaq (by ac_rfl)] at h
  nofun
  exact h
def zcr (K:W.Frag):Sp:=fun vs H Q _=>∃ c k,vs=[.int c,.int k]/\0<=k/\k<=20/\∀ p (ns:List Int) H',Same H H'->H p=none->H' p=some (.lst (ns.map V.int))->(ns.length:Int)=k->(∀ x∈ns,(0:Int)<=x/\x<10000000000000)->Q (.ref p) H'
theorem zaX:zk ["_law_cell", "_law_many", "_law_found", "_law_number", "_law_one", "_law_other", "_law_k"] qav (zg zer):=by walk_at "sp"
theorem zrB (S:Src K mg "_law_draws" zer qav) (T:Txt K mg)  : Def P w K mg base 1 "_law_draws" qav (zcr K):=by
 exists S.ok,zaX,0
 all_goals obtain ⟨c,k,rfl,k0,k1,h⟩:=h
 ·rfl
 refine ⟨_,(zb (zp (i:=2) zaX.nd rfl (by walk_at "lc") (zat zd))
  (zb (zp (i:=3) zaX.nd rfl (by walk_at "lc") (zj zb7 (pv 0) zc))
  (zb (zp (i:=4) zaX.nd rfl (by walk_at "lc") (zj zF (zj zS (pv 0) zc) zc))
  (zb (zp (i:=5) zaX.nd rfl (by walk_at "lc") (zj zF (zj zS (pv 0) zc) zc))
  (zb (za6 PassesOwn.never rfl (zcJ rfl T.zb8 (za (pv 1) zd)) (zI (i:=6) zaX.nd rfl (by walk_at "lc"))
  (zb (zp (i:=4) zaX.nd rfl (by walk_at "lc") (zj zS (zj zaB (pv 4) zc) zc))
  (zb (zp (i:=5) zaX.nd rfl (by walk_at "lc") (zj zS (zj zF (zj zaB (pv 5) (pv 5)) (pv 4)) zc))
  (ze (zX (PW.pt (znN (zz zgR (pv 0) (zc4 (v:=1000000000000000000) (by decide +kernel) ⟨by decide,by decide,by decide⟩) (nomark _)) (znN (zz zak (zj zS (pv 0) zc) zc (nomark _)) (zoG (zz zgR (pv 3) zc (nomark _))))))
  (zb (zaa (zcn PySem.F.plainAttrs_list PySem.F.slot_list_append PySem.F.type_list_append zaJ (pv 2) (za (zj zS (pv 3) (zc4 (v:=10000000000000) (by decide +kernel) ⟨by decide,by decide,by decide⟩)) zd)))
  (ze (zp (i:=3) zaX.nd rfl (by walk_at "lc") (zj zcU (pv 3) (zc4 (v:=10000000000000) (by decide +kernel) ⟨by decide,by decide,by decide⟩)))))
  (ze (zaa (zcn PySem.F.plainAttrs_list PySem.F.slot_list_append PySem.F.type_list_append zaJ (pv 2) (za (zj zb7 (zj zS (zj zF (pv 4) (zj zaB (pv 5) zc)) zc) zc) zd)))))))))
  (ze (zo (pv 2)))))))),?_⟩
 have sz:=sizeLine_eq
 nofun
 intro p np
 have sp:=zf np (.lst [])
 nofun
 have o0:0<=c % 2147483647:=ydu _ (by decide)
 have o1:c % 2147483647<2147483647:=ydt _ (by decide)
 have p0:0<=c % 998244353:=ydu _ (by decide)
 have p1:c % 998244353<998244353:=ydt _ (by decide)
 refine zcP (fun i σ H'=>L2.Ee5 fun (ns:List Int) (a b e:Int) (z:Option V)=>L2.Aa5 ((Same H H'/\H' p=some (.lst (ns.map V.int)))) (ns.length=i) ((∀ x∈ns,(0:Int)<=x/\x<10000000000000)) ((0<=a/\a<4294967296/\0<=b/\b<4294967296)) (σ=[some (.int c),some (.int k),some (.ref p),some (.int e),some (.int a),some (.int b),z]))
  ⟨[],_,_,_,_,⟨sp,zh⟩,rfl,fun x hx=>(by cases hx),⟨by ac_rfl,by ac_rfl,by ac_rfl,by ac_rfl⟩,rfl⟩ ?_ ?_
 ·rintro i σ H' hi ⟨ns,a,b,e,z,⟨sH,eP⟩,nl,nn,⟨a0,a1,b0,b1⟩,rfl⟩
  have ab:=ydu (a*48271) (show (2147483647:Int)≠0 by decide)
  have ab1:=ydt (a*48271) (show (0:Int)<2147483647 by decide)
  have bb:=ydu (b*b+a*48271 % 2147483647) (show (998244353:Int)≠0 by decide)
  have bb1:=ydt (b*b+a*48271 % 2147483647) (show (0:Int)<998244353 by decide)
  have snoc:∀ y:Int,(0<=y/\y<10000000000000)->∀ x∈ns++[y],(0:Int)<=x/\x<10000000000000:=fun y hy x hx=>by
   rcases yae.mp hx with hx | hx
   ·exact nn x hx
   ·obtain rfl:x=y:=by simpa using hx
    exact hy
  have eP':∀ y:Int,(upd H' p (.lst (ns.map V.int++[.int y]))) p=some (.lst ((ns++[y]).map V.int)):=fun y=>by rw[yar];exact zh
  have small:∀ z:Int,(0:Int)<=z % 2147483647 / 7/\z % 2147483647 / 7<10000000000000:=fun z=>by
   have:=ydu z (show (2147483647:Int)≠0 by decide)
   have:=ydt z (show (0:Int)<2147483647 by decide)
   ac_rfl
  have i20:i<20:=by ac_rfl
  nofun
  ·refine ⟨.inl ⟨rfl,_,SqL.of eP⟩,?_⟩
   nofun
   refine ⟨p,_,_,rfl,rfl,eP,by rw[yab];ac_rfl,?_⟩
   nofun
   exact ⟨ns++[_],_,_,_,_,⟨zJ sH np,eP' _⟩,by rw[yaf,nl];rfl,snoc _ ⟨ydu _ (by decide),ydt _ (by decide)⟩,⟨ab,by ac_rfl,bb,by ac_rfl⟩,rfl⟩
  all_goals
   refine ⟨.inl ⟨rfl,_,SqL.of eP⟩,?_⟩
   nofun
   refine ⟨p,_,_,rfl,rfl,eP,by rw[yab];ac_rfl,?_⟩
   exact ⟨ns++[_],_,_,_,_,⟨zJ sH np,eP' _⟩,by rw[yaf,nl];rfl,snoc _ (small _),⟨ab,by ac_rfl,bb,by ac_rfl⟩,rfl⟩
 ·rintro σ H' ⟨ns,a,b,e,z,⟨sH,eP⟩,nl,nn,_,rfl⟩
  nofun
  exact h p ns H' sH np eP (by ac_rfl) nn
theorem zuL {ns:List Int} (h:ns.length=8):∃ a b c d e f g i,ns=[a,b,c,d,e,f,g,i]:=by
 match ns,h with
 | [a,b,c,d,e,f,g,i],_=>exact ⟨a,b,c,d,e,f,g,i,rfl⟩
def zwy (k:Ek) (d x:Int):Prop:=zxb k d x/\(k=.still->x<=d+40)
def zkO (K:W.Frag):Sp:=fun vs H Q _=>L2.Ee5 fun (k:Ek) d p (ns:List Int) tp=>L2.Aa8 (vs=[.str k.word,.int d,.ref p,.int tp]) ((5000<=tp/\tp<=1000000)) (SqL K H p (ns.map V.int)) (ns.length=8) ((∀ x∈ns,(0:Int)<=x/\x<10000000000000)) ((0<=d/\d<=999999)) (k≠.base) (∀ x,zwy k d x->Q (.int x) H)
theorem zkJ:zk ["_law_word", "_law_day", "_law_xs", "_law_top", "_law_value_here"] qbm (zg zd8):=by walk_at "sp"
theorem zqx (S:Src K mg "_law_value" zd8 qbm) (T:Txt K mg)  : Def P w K mg base 1 "_law_value" qbm (zkO K):=by
 exists S.okF,zkJ,0
 all_goals obtain ⟨k,d,p,ns,tp,rfl,⟨tp0,tp1⟩,hp,nl,nn,⟨d0,d1⟩,hk,h⟩:=h
 ·rfl
 refine ⟨_,(zb (zp (i:=4) zkJ.nd rfl (by walk_at "lc") (zj zF zc (zj zS (zv zD (pv 2) zc (fun _ _=>rfl)) (zv zD (zat (za zc (za zc (za (pv 3) zd)))) (zj zS (zv zD (pv 2) zc (fun _ _=>rfl)) zc) (fun _ _=>rfl)))))
  (zb (zX (zz zak (pv 0) zB (nomark _))
  (ze (zo (zv zD (zat (za (pv 4) (za (pv 4) (za (zj zah zc (pv 4)) (za zc zd))))) (zj zS (zv zD (pv 2) zc (fun _ _=>rfl)) zc) (fun _ _=>rfl))))
   zO)
  (zb (zX (zz zic (pv 0) (zaf (za zB (za zB zd))) (by with_unfolding_all rfl))
  (ze (zo (zv zD (zat (za zc (za (zj zS (zv zD (pv 2) zc (fun _ _=>rfl)) zc) (za (zj zS (zv zD (pv 2) zc (fun _ _=>rfl)) zc) (za (pv 3) zd))))) (zj zS (zv zD (pv 2) zc (fun _ _=>rfl)) zc) (fun _ _=>rfl))))
   zO)
  (zb (zX (zz zak (pv 0) zB (nomark _))
  (ze (zo (zA (zbu rfl) rfl T.zdp PyProof.Rows.boot_min (za (zc4 (v:=1000000) (by decide +kernel) ⟨by decide,by decide,by decide⟩) (za (zj zF (zj zF (pv 1) zc) (zj zS (zv zD (pv 2) zc (fun _ _=>rfl)) (zv zD (zat (za zc (za zc zd))) (zj zS (zv zD (pv 2) zc (fun _ _=>rfl)) zc) (fun _ _=>rfl)))) zd)))))
   zO)
  (ze (zo (pv 4))))))),?_⟩
 have sz:=sizeLine_eq
 obtain ⟨n0,n1,n2,n3,n4,n5,n6,n7,rfl⟩:=zuL nl
 have p3:=nn n3 (by simp)
 have p4:=nn n4 (by simp)
 have p6:=nn n6 (by simp)
 nofun
 refine ⟨p,_,_,_,rfl,rfl,hp,rfl,?_⟩
 nofun
 intro l1 m1
 have s1:=zf m1 (.lst [.int 9,.int 900,.int tp])
 have hp1:=s1.seq hp
 have z1:SqL K (upd H l1 (.lst [.int 9,.int 900,.int tp])) l1 [.int 9,.int 900,.int tp]:=SqL.of zh
 generalize upd H l1 (.lst [.int 9,.int 900,.int tp])=H1 at s1 hp1 z1 ⊢
 have a40:=ydu n4 (show (3:Int)≠0 by decide)
 have a41:=ydt n4 (show (0:Int)<3 by decide)
 nofun
 refine ⟨p,_,_,_,rfl,rfl,hp1,rfl,?_⟩
 nofun
 obtain ⟨m,am,hm⟩:=zqN (a:=9) (b:=900) (c:=tp) a40 a41
 refine ⟨l1,_,_,_,rfl,rfl,z1,am,?_⟩
 have mp:0<m:=by ac_rfl
 have b0:=ydu n3 (show m≠0 by ac_rfl)
 have b1:=ydt n3 mp
 have w0:1<=1+n3 % m:=by ac_rfl
 have w1:1+n3 % m<=1000000000000:=by ac_rfl
 cases k
 all_goals first | exact absurd rfl hk | skip
 all_goals dsimp only [Ek.word]
 all_goals nofun
 case out =>
  intro t nt
  have st:=zf nt (.tup [.str "rate", .str "late"])
  nofun
  refine ⟨t,_,rfl,.inr (SqT.of zh),rfl,rfl,_,rfl,?_⟩
  nofun
  exact ⟨s1.trans st,h _ ⟨⟨w0,w1⟩,fun z=>by cases z⟩⟩
 case pay =>
  intro t nt
  have st:=zf nt (.tup [.str "rate", .str "late"])
  nofun
  refine ⟨t,_,rfl,.inr (SqT.of zh),rfl,rfl,_,rfl,?_⟩
  nofun
  exact ⟨s1.trans st,h _ ⟨⟨w0,w1⟩,fun z=>by cases z⟩⟩
 case due =>
  intro t nt
  have st:=zf nt (.tup [.str "rate", .str "late"])
  nofun
  refine ⟨t,_,rfl,.inr (SqT.of zh),rfl,rfl,_,rfl,?_⟩
  nofun
  exact ⟨s1.trans st,h _ ⟨⟨w0,w1⟩,fun z=>by cases z⟩⟩
 case turn =>
  intro t nt
  have st:=zf nt (.tup [.str "rate", .str "late"])
  nofun
  refine ⟨t,_,rfl,.inr (SqT.of zh),rfl,rfl,_,rfl,?_⟩
  nofun
  exact ⟨s1.trans st,h _ ⟨trivial,fun z=>by cases z⟩⟩
 case fee =>
  intro l2 n2
  have s2:=zf n2 (.lst [.int (1+n3 % m),.int (1+n3 % m),.int (0-(1+n3 % m)),.int 0])
  have hp2:=s2.seq hp1
  have z2:SqL K (upd H1 l2 (.lst [.int (1+n3 % m),.int (1+n3 % m),.int (0-(1+n3 % m)),.int 0])) l2 [.int (1+n3 % m),.int (1+n3 % m),.int (0-(1+n3 % m)),.int 0]:=SqL.of zh
  generalize upd H1 l2 (.lst [.int (1+n3 % m),.int (1+n3 % m),.int (0-(1+n3 % m)),.int 0])=H2 at s2 hp2 z2 ⊢
  have a0:=ydu n6 (show (4:Int)≠0 by decide)
  have a1:=ydt n6 (show (0:Int)<4 by decide)
  nofun
  refine ⟨p,_,_,_,rfl,rfl,hp2,rfl,?_⟩
  nofun
  obtain ⟨v,hv,hm⟩:=zjM (xs:=[.int (1+n3 % m),.int (1+n3 % m),.int (0-(1+n3 % m)),.int 0]) a0 (by simpa using a1)
  obtain ⟨y,rfl,y0,y1⟩:=(zay ⟨_,rfl,by ac_rfl,by ac_rfl⟩ (zay ⟨_,rfl,by ac_rfl,by ac_rfl⟩ (zay ⟨_,rfl,by ac_rfl,by ac_rfl⟩ (zay ⟨_,rfl,by ac_rfl,by ac_rfl⟩ zoe))):∀ v∈([.int (1+n3 % m),.int (1+n3 % m),.int (0-(1+n3 % m)),.int 0]:List V),∃ w:Int,v=.int w /\ -1000000000000<=w/\w<=1000000000000) v hm
  refine ⟨l2,_,_,_,rfl,rfl,z2,hv,?_⟩
  exact ⟨s1.trans s2,h _ ⟨⟨y0,y1⟩,fun z=>by cases z⟩⟩
 case rate =>
  intro t nt
  have st:=zf nt (.tup [.str "rate", .str "late"])
  nofun
  refine ⟨t,_,rfl,.inr (SqT.of zh),rfl,rfl,_,rfl,?_⟩
  have hpt:=st.seq hp1
  generalize upd H1 t (.tup [.str "rate", .str "late"])=H3 at st hpt ⊢
  nofun
  refine ⟨p,_,_,_,rfl,rfl,hpt,rfl,?_⟩
  nofun
  refine ⟨p,_,_,_,rfl,rfl,hpt,rfl,?_⟩
  nofun
  intro l2 n2
  have s2:=zf n2 (.lst [.int 0,.int (n3 % 100),.int (n3 % 2000),.int tp])
  have hp2:=s2.seq hpt
  have z2:SqL K (upd H3 l2 (.lst [.int 0,.int (n3 % 100),.int (n3 % 2000),.int tp])) l2 [.int 0,.int (n3 % 100),.int (n3 % 2000),.int tp]:=SqL.of zh
  have a0:=ydu n4 (show (4:Int)≠0 by decide)
  have a1:=ydt n4 (show (0:Int)<4 by decide)
  nofun
  refine ⟨p,_,_,_,rfl,rfl,hp2,rfl,?_⟩
  nofun
  obtain ⟨v,hv,hm⟩:=zjM (xs:=[.int 0,.int (n3 % 100),.int (n3 % 2000),.int tp]) a0 (by simpa using a1)
  obtain ⟨y,rfl,y0,y1⟩:=(zay ⟨_,rfl,by ac_rfl,by ac_rfl⟩ (zay ⟨_,rfl,by ac_rfl,by ac_rfl⟩ (zay ⟨_,rfl,by ac_rfl,by ac_rfl⟩ (zay ⟨_,rfl,by ac_rfl,by ac_rfl⟩ zoe))):∀ v∈([.int 0,.int (n3 % 100),.int (n3 % 2000),.int tp]:List V),∃ w:Int,v=.int w/\0<=w/\w<=1000000) v hm
  refine ⟨l2,_,_,_,rfl,rfl,z2,hv,?_⟩
  exact ⟨s1.trans (st.trans s2),h _ ⟨⟨y0,y1⟩,fun z=>by cases z⟩⟩
 case late =>
  intro t nt
  have st:=zf nt (.tup [.str "rate", .str "late"])
  nofun
  refine ⟨t,_,rfl,.inr (SqT.of zh),rfl,rfl,_,rfl,?_⟩
  have hpt:=st.seq hp1
  generalize upd H1 t (.tup [.str "rate", .str "late"])=H3 at st hpt ⊢
  nofun
  refine ⟨p,_,_,_,rfl,rfl,hpt,rfl,?_⟩
  nofun
  refine ⟨p,_,_,_,rfl,rfl,hpt,rfl,?_⟩
  nofun
  intro l2 n2
  have s2:=zf n2 (.lst [.int 0,.int (n3 % 100),.int (n3 % 2000),.int tp])
  have hp2:=s2.seq hpt
  have z2:SqL K (upd H3 l2 (.lst [.int 0,.int (n3 % 100),.int (n3 % 2000),.int tp])) l2 [.int 0,.int (n3 % 100),.int (n3 % 2000),.int tp]:=SqL.of zh
  have a0:=ydu n4 (show (4:Int)≠0 by decide)
  have a1:=ydt n4 (show (0:Int)<4 by decide)
  nofun
  refine ⟨p,_,_,_,rfl,rfl,hp2,rfl,?_⟩
  nofun
  obtain ⟨v,hv,hm⟩:=zjM (xs:=[.int 0,.int (n3 % 100),.int (n3 % 2000),.int tp]) a0 (by simpa using a1)
  obtain ⟨y,rfl,y0,y1⟩:=(zay ⟨_,rfl,by ac_rfl,by ac_rfl⟩ (zay ⟨_,rfl,by ac_rfl,by ac_rfl⟩ (zay ⟨_,rfl,by ac_rfl,by ac_rfl⟩ (zay ⟨_,rfl,by ac_rfl,by ac_rfl⟩ zoe))):∀ v∈([.int 0,.int (n3 % 100),.int (n3 % 2000),.int tp]:List V),∃ w:Int,v=.int w/\0<=w/\w<=1000000) v hm
  refine ⟨l2,_,_,_,rfl,rfl,z2,hv,?_⟩
  exact ⟨s1.trans (st.trans s2),h _ ⟨⟨y0,y1⟩,fun z=>by cases z⟩⟩
 case still =>
  intro t nt
  have st:=zf nt (.tup [.str "rate", .str "late"])
  nofun
  refine ⟨t,_,rfl,.inr (SqT.of zh),rfl,rfl,_,rfl,?_⟩
  have hpt:=st.seq hp1
  generalize upd H1 t (.tup [.str "rate", .str "late"])=H3 at st hpt ⊢
  nofun
  refine ⟨p,_,_,_,rfl,rfl,hpt,rfl,?_⟩
  nofun
  intro l2 n2
  have s2:=zf n2 (.lst [.int 3,.int 40])
  have hp2:=s2.seq hpt
  have z2:SqL K (upd H3 l2 (.lst [.int 3,.int 40])) l2 [.int 3,.int 40]:=SqL.of zh
  generalize upd H3 l2 (.lst [.int 3,.int 40])=H2 at s2 hp2 z2 ⊢
  have a0:=ydu n4 (show (2:Int)≠0 by decide)
  have a1:=ydt n4 (show (0:Int)<2 by decide)
  nofun
  refine ⟨p,_,_,_,rfl,rfl,hp2,rfl,?_⟩
  nofun
  obtain ⟨m2,am2,hm2⟩:=zyk (a:=3) (b:=40) a0 a1
  refine ⟨l2,_,_,_,rfl,rfl,z2,am2,?_⟩
  have c0:=ydu n3 (show m2≠0 by ac_rfl)
  have c1:=ydt n3 (show 0<m2 by ac_rfl)
  nofun
  refine ⟨s1.trans (st.trans s2),h _ ⟨⟨?_,?_⟩,fun _=>?_⟩⟩ <;> split <;> ac_rfl
def zei (K:W.Frag):Sp:=fun vs H Q _=>∃ y,vs=[.int y]/\Q (.bl (Cal.leap y)) H
theorem zqt:zk qaw qaw (zg zfG):=by walk_at "sp"
theorem zsx (S:Src K mg "_law_leap" zfG qaw) (T:Txt K mg)  : Def P w K mg base 1 "_law_leap" qaw (zei K):=by
 exists S.ok,zqt,0
 all_goals obtain ⟨y,rfl,h⟩:=h
 ·rfl
 refine ⟨_,(ze (zo (zk3 (zbc zak (zj zS (pv 0) zc) zc (nomark _)) (zh3 (zw1 (zbc zgR (zj zS (pv 0) zc) zc (nomark _)) (zh3 (zbc zak (zj zS (pv 0) zc) zc (nomark _)))))))),?_⟩
 nofun
 ·exact qb h (by have:¬ y % 100=0:=by ac_rfl
                 simp[Cal.leap,dI, *])
 ·exact qb h (by have:y % 100=0:=by ac_rfl
                 simp[Cal.leap,dI, *])
 ·exact qb h (by simp[Cal.leap,dI, *])
def zgm (K:W.Frag):Sp:=fun vs H Q _=>L2.Ee4 fun q rs (es:List Er) b=>L2.Aa6 (vs=[.ref q,.int b]) (SqL K H q rs) (RL3 H rs es) ((∀ e∈es,isW "still" e=true->b<=e.2.1/\e.2.1<=e.2.2/\e.2.2<=b+249)) (es.length<=1000) (∀ p (fl:List Bool) H',H p=none->Same H H'->H' p=some (.lst (fl.map V.bl))->ztf fl b (prs "still" es)->Q (.ref p) H')
theorem zbH:zk ["_law_rows_here", "_law_base_here", "_law_flags", "_law_word", "_law_day", "_law_value_here", "_law_k"] qar (zg zeM):=by walk_at "sp"
theorem zrD (S:Src K mg "_law_still" zeM qar) (T:Txt K mg)  : Def P w K mg base 1 "_law_still" qar (zgm K):=by
 exists S.ok,zbH,0
 all_goals obtain ⟨q,rs,es,b,rfl,hq,hR,ok,hl,h⟩:=h
 ·rfl
 refine ⟨_,(zb (zp (i:=2) zbH.nd rfl (by walk_at "lc") (zj zyD (zat (za zfm zd)) zc))
  (zb (za6 PassesOwn.never rfl (zQ (pv 0)) (zeh rfl (zV (zI (i:=3) zbH.nd rfl (by walk_at "lc")) (zV (zI (i:=4) zbH.nd rfl (by walk_at "lc")) (zV (zI (i:=5) zbH.nd rfl (by walk_at "lc")) zc3))))
  (ze (zX (zz zak (pv 3) zB (nomark _))
  (ze (za6 PassesOwn.never rfl (zpc rfl T.zb8 (za (zj zah (pv 4) (pv 1)) (za (zj zah (pv 5) (pv 1)) zd))) (zI (i:=6) zbH.nd rfl (by walk_at "lc"))
  (ze (zhx zfm (zuK (pv 2) (pv 6) set_list)))))
   zO)))
  (ze (zo (pv 2))))),?_⟩
 have sz:=sizeLine_eq
 have xl:=hR.length
 nofun
 intro p0 np0
 have s0:=zf np0 (.lst [.bl false])
 nofun
 refine ⟨p0,250,_,rfl,rfl,zh,by decide,by decide,by rw[sz];decide,fun p np=>?_⟩
 rw[zwL,show yat ((250:Int).toNat) (V.bl false)=(yat 250 false).map V.bl from (List.map_replicate ..).symm]
 have s1:=s0.trans (zf np (.lst ((yat 250 false).map V.bl)))
 have npH:=zx s0 np
 have eP0:=zG (.lst ((yat 250 false).map V.bl)) np
 generalize upd (upd H p0 (.lst [.bl false])) p (.lst ((yat 250 false).map V.bl))=H1 at s1 eP0 ⊢
 nofun
 refine ⟨⟨_,s1.seq hq⟩,zbm (xs:=rs) (fun i σ H'=>∃ (fl:List Bool) (y1 y2 y3 y4:Option V),(Same H H'/\H' p=some (.lst (fl.map V.bl)))/\(fl.length=250/\∀ k:Nat,k<250->fl[k]?=some (Spans.isIn (prs "still" (es.take i)) (b+k)))/\σ=[some (.ref q),some (.int b),some (.ref p),y1,y2,y3,y4])
  ⟨yat 250 false,_,_,_,_,⟨s1,eP0⟩,⟨List.length_replicate ..,fun k hk=>by rw[ycc,if_pos hk];rfl⟩,rfl⟩ ?_ ?_ ?_⟩
 ·rintro i σ H' _ ⟨fl,_,_,_,_,⟨sH,_⟩,_⟩
  exact sH.seq hq
 ·rintro i x σ H' hx ⟨fl,y1,y2,y3,y4,⟨sH,eP⟩,⟨fl0,fl1⟩,rfl⟩
  obtain ⟨e,he,t,rfl,ht⟩:=(hR.same sH).get hx
  have tk:es.take (i+1)=es.take i++[e]:=by rw[ybc,he];rfl
  have em:=yah he
  nofun
  refine ⟨t,_,rfl,SqT.of ht,rfl,?_⟩
  nofun
  ·rename_i c
   have isS:isW "still" e=true:=decide_eq_true c
   obtain ⟨o1,o3,o2⟩:=ok e em isS
   have pr:prs "still" (es.take (i+1))=prs "still" (es.take i)++[e.2]:=by
    unfold prs
    rw[tk,ybd,yar,yau isS]
    rfl
   rw[pr]
   refine ⟨⟨by ac_rfl,by ac_rfl,by ac_rfl,by ac_rfl⟩,zcP (fun j σ H2=>∃ (fl':List Bool) (z:Option V),(Same H H2/\H2 p=some (.lst (fl'.map V.bl)))/\FlP fl' b (prs "still" (es.take i)) (e.2.1-b) (e.2.1-b+j)/\σ=[some (.ref q),some (.int b),some (.ref p),some (.str e.1.word),some (.int e.2.1),some (.int e.2.2),z])
    ⟨fl,_,⟨sH,eP⟩,by rw[show e.2.1-b+((0:Nat):Int)=e.2.1-b by ac_rfl];exact FlP.nil fl0 fl1,rfl⟩ ?_ ?_⟩
   ·rintro j σ H2 hj ⟨fl',z,⟨sH2,eP2⟩,F,rfl⟩
    have hj':e.2.1-b+(j:Int)<249:=by ac_rfl
    nofun
    refine ⟨p,_,_,_,rfl,rfl,eP2,zym (by ac_rfl) (by rw[yab,F.1];ac_rfl),?_⟩
    rw[zuw]
    refine ⟨fl'.set (e.2.1-b+j).toNat true,_,⟨zJ sH2 npH,zh⟩,?_,rfl⟩
    have:=F.set (by ac_rfl) (by ac_rfl)
    rw[show e.2.1-b+((j+1:Nat):Int)=e.2.1-b+j+1 by ac_rfl]
    exact this
   ·rintro σ H2 ⟨fl',z,⟨sH2,eP2⟩,F,rfl⟩
    rw[show e.2.1-b+(((e.2.2-b-(e.2.1-b)).toNat:Nat):Int)=e.2.2-b by ac_rfl] at F
    exact ⟨fl',_,_,_,_,⟨sH2,eP2⟩,⟨F.1,FlP.done F⟩,rfl⟩
  ·rename_i c
   have isS:¬ isW "still" e=true:=fun z=>c (of_decide_eq_true z)
   have pr:prs "still" (es.take (i+1))=prs "still" (es.take i):=by
    unfold prs
    rw[tk,ybd,yar,yav isS]
    simp
   rw[pr]
   nofun
   exact ⟨fl,_,_,_,_,⟨sH,eP⟩,⟨fl0,fl1⟩,rfl⟩
 ·rintro σ H' ⟨fl,y1,y2,y3,y4,⟨sH,eP⟩,⟨fl0,fl1⟩,rfl⟩
  rw[xl,yaw (ycx _)] at fl1
  nofun
  refine h p fl H' npH sH eP ⟨fl0,fl1,fun s hs=>?_⟩
  obtain ⟨e,he,rfl⟩:=yag.mp hs
  obtain ⟨h1,h2⟩:=yao.mp he
  exact (ok e h1 h2).2.2
def zkS (K:W.Frag):Sp:=fun vs H Q _=>L2.Ee5 fun p (fl:List Bool) b d l=>L2.Aa5 (vs=[.ref p,.int b,.int d]) (SqL K H p (fl.map V.bl)) (ztf fl b l) ((b<=d/\d<b+250)) (Q (.int (mvd l d)) H)
theorem zgr:zk ["_law_flags", "_law_base_here", "_law_day", "_law_k"] qbn (zg zea):=by walk_at "sp"
theorem zrM (S:Src K mg "_law_falls" zea qbn) (T:Txt K mg)  : Def P w K mg base 1 "_law_falls" qbn (zkS K):=by
 exists S.ok,zgr,0
 all_goals obtain ⟨p,fl,b,d,l,rfl,hS,F,⟨d0,d1⟩,h⟩:=h
 ·rfl
 refine ⟨_,(zb (zp (i:=3) zgr.nd rfl (by walk_at "lc") (zj zah (pv 2) (pv 1)))
  (zb (zdR PassesOwn.never (zcR (zv zD (pv 0) (pv 3) (fun _ _=>rfl)))
  (ze (zp (i:=3) zgr.nd rfl (by walk_at "lc") (zj zF (pv 3) zc))))
  (ze (zo (zj zF (pv 1) (pv 3)))))),?_⟩
 nofun
 refine ⟨fun n σ H'=>H=H'/\∃ k:Nat,σ=[some (.ref p),some (.int b),some (.int d),some (.int k)]/\d<=b+k/\k<250/\(∀ e,d<=e->e<b+k->Spans.Cov l e)/\n=250-k,⟨_,rfl,(d-b).toNat,?_,by ac_rfl,by ac_rfl,fun e h1 h2=>by ac_rfl,rfl⟩,?_⟩
 ·show [some (V.ref p),some (V.int b),some (V.int d),some (V.int (d-b))]=_
  rw[show ((d-b).toNat:Int)=d-b by ac_rfl]
 rintro n σ H' ⟨rfl,k,rfl,k0,k1,cv,rfl⟩
 nofun
 refine ⟨p,_,_,_,rfl,rfl,hS,zaw (by rw[yai,F.at_ k k1];rfl),?_⟩
 cases c:Spans.isIn l (b+k) with
 | true =>
  have hc:=Spans.za9.mp c
  have kk:k+1<250:=by
   obtain ⟨s,hs,h1,h2⟩:=hc
   have:=F.end_ s hs
   ac_rfl
  nofun
  refine ⟨_,fun σ' H' z=>z,?_⟩
  nofun
  refine ⟨250-(k+1),by ac_rfl,rfl,k+1,rfl,by ac_rfl,kk,fun e h1 h2=>?_,rfl⟩
  rcases Int.lt_or_le e (b+k) with g | g
  ·exact cv e h1 g
  ·obtain rfl:e=b+k:=by ac_rfl
   exact hc
 | false =>
  have hc:¬ Spans.Cov l (b+k):=fun z=>by rw[Spans.za9.mpr z] at c;cases c
  nofun
  rw[<-zq9 (m:=b+k) ⟨k0,hc,cv⟩] at h
  exact h
theorem zpk:∀ {xs ys:List Int},xs.Nodup->(∀ x∈xs,x∈ys)->xs.length<=ys.length
 | [],_,_,_=>yda _
 | x::xs,ys,nd,h=>by
  have hx:=h x yap
  obtain ⟨nx,nd'⟩:=ybj.mp nd
  have:=zpk (ys:=ys.erase x) nd' fun z hz=>(ycn (fun (q:z=x)=>nx (by rw[<-q];exact hz))).mpr (h z (yam _ hz))
  rw[ycb hx] at this
  have:=ybv hx
  rw[ybh]
  omega
theorem zvo {acc l:List (Int × Int)} (t:Sby.Tot acc l):acc.length<=l.length:=by
 have:=zpk t.nd fun k hk=>(t.mem k).mp hk
 rw[yab,yab] at this
 exact this
def zht (P:Program) (w:World) (K:W.Frag):Sp:=fun vs H Q _=>L2.Ee4 fun q rs (es:List Er) ww=>L2.Aa5 (vs=[.ref q,.str ww]) (SqL K H q rs) (RL3 H rs es) (es.length<=100) (∀ d acc (ep:Nat) H',H d=none->Same H H'->H' d=some (zch P w d acc ep)->Sby.Tot acc (prs ww es)->Q (.ref d) H')
theorem zcT:zk ["_law_rows_here", "_law_word", "_law_sums_here", "_law_other", "_law_day", "_law_value_here"] qao (zg zfo):=by walk_at "sp"
theorem zsB (S:Src K mg "_law_sums" zfo qao) (T:Txt K mg)  : Def P w K mg base 1 "_law_sums" qao (zht P w K):=by
 exists S.ok,zcT,0
 all_goals obtain ⟨q,rs,es,ww,rfl,hq,hR,hl,h⟩:=h
 ·rfl
 refine ⟨_,(zb (zp (i:=2) zcT.nd rfl (by walk_at "lc") zwx)
  (zb (za6 PassesOwn.never rfl (zQ (pv 0)) (zeh rfl (zV (zI (i:=3) zcT.nd rfl (by walk_at "lc")) (zV (zI (i:=4) zcT.nd rfl (by walk_at "lc")) (zV (zI (i:=5) zcT.nd rfl (by walk_at "lc")) zc3))))
  (ze (zX (zz zak (pv 3) (pv 1) (nomark _))
  (ze (zxU (pv 2) (pv 4) (zj zF (zjE (pv 2) (pv 4) zc) (pv 5))))
   zO)))
  (ze (zo (pv 2))))),?_⟩
 have sz:=sizeLine_eq
 have xl:=hR.length
 nofun
 intro d ep0 nd
 have sd:=zf nd (zch P w d [] ep0)
 have ed:=zG (zch P w d [] ep0) nd
 nofun
 refine ⟨⟨_,sd.seq hq⟩,zbm (xs:=rs) (fun i σ H'=>L2.Ee5 fun (acc:List (Int × Int)) (ep:Nat) (z1 z2 z3:Option V)=>L2.Aa3 ((Same H H'/\H' d=some (zch P w d acc ep))) (Sby.Tot acc (prs ww (es.take i))) (σ=[some (.ref q),some (.str ww),some (.ref d),z1,z2,z3]))
  ⟨[],ep0,_,_,_,⟨sd,ed⟩,Sby.Tot.nil,rfl⟩ ?_ ?_ ?_⟩
 ·rintro i σ H' _ ⟨acc,ep,z1,z2,z3,⟨sH,_⟩,_⟩
  exact sH.seq hq
 ·rintro i x σ H' hx ⟨acc,ep,z1,z2,z3,⟨sH,eD⟩,tt,rfl⟩
  obtain ⟨e,he,t,rfl,ht⟩:=(hR.same sH).get hx
  have tk:es.take (i+1)=es.take i++[e]:=by rw[ybc,he];rfl
  have il:i<es.length:=(yac.mp he).1
  have al:=zvo tt
  have pl:=zgW (w:=ww) (es:=es.take i)
  rw[yaz] at pl
  refine ⟨t,_,rfl,SqT.of ht,rfl,?_⟩
  nofun
  ·rename_i c
   have isS:isW ww e=true:=decide_eq_true c
   have pr:prs ww (es.take (i+1))=prs ww (es.take i)++[e.2]:=by
    unfold prs
    rw[tk,ybd,yar,yau isS]
    rfl
   rw[pr]
   refine ⟨d,acc,ep,rfl,eD,?_⟩
   nofun
   refine ⟨eD,?_⟩
   rw[tt.look]
   nofun
   refine ⟨d,acc,e.2.1,_,ep,rfl,rfl,rfl,eD,by ac_rfl,fun ep'=>?_⟩
   exact ⟨_,ep',_,_,_,⟨zJ sH nd,zh⟩,tt.step e.2.1 e.2.2,rfl⟩
  ·rename_i c
   have isS:¬ isW ww e=true:=fun z=>c (of_decide_eq_true z)
   have pr:prs ww (es.take (i+1))=prs ww (es.take i):=by
    unfold prs
    rw[tk,ybd,yar,yav isS]
    simp
   rw[pr]
   exact ⟨acc,ep,_,_,_,⟨sH,eD⟩,tt,rfl⟩
 ·rintro σ H' ⟨acc,ep,z1,z2,z3,⟨sH,eD⟩,tt,rfl⟩
  rw[xl,yaw (ycx _)] at tt
  nofun
  exact h d acc ep H' nd sH eD tt
def zkD (K:W.Frag):Sp:=fun vs H Q _=>L2.Ee5 fun t u m n (q:Q4)=>L2.Aa4 (vs=[.int u,.int m,.int n,.ref t]) ((0<u/\u<1152921504606846976)) (SqT K H t [.int q.1,.int q.2.1,.int q.2.2.1,.int q.2.2.2]) (∀ a,H a=none->Q (.ref a) (upd H a (.tup [.int (doD u q (m,n)).1,.int (doD u q (m,n)).2])))
theorem zaC:zk ["_law_unit_here", "_law_principal", "_law_units", "_law_deeds_here", "_law_lent", "_law_fees", "_law_turned", "_law_paid"] qbo (zg zeP):=by walk_at "sp"
theorem zrE (S:Src K mg "_law_deeds" zeP qbo) (T:Txt K mg)  : Def P w K mg base 1 "_law_deeds" qbo (zkD K):=by
 exists S.ok,zaC,0
 all_goals obtain ⟨t,u,m,n,q,rfl,⟨u0,u1⟩,ht,h⟩:=h
 ·rfl
 refine ⟨_,(zb (zhx (pv 3) (zeh rfl (zV (zI (i:=4) zaC.nd rfl (by walk_at "lc")) (zV (zI (i:=5) zaC.nd rfl (by walk_at "lc")) (zV (zI (i:=6) zaC.nd rfl (by walk_at "lc")) (zV (zI (i:=7) zaC.nd rfl (by walk_at "lc")) zc3))))))
  (zb (zp (i:=2) zaC.nd rfl (by walk_at "lc") (zj zF (pv 2) (zj zaB (pv 0) (pv 4))))
  (zb (zp (i:=1) zaC.nd rfl (by walk_at "lc") (zA (zbu rfl) rfl T.zdp PyProof.Rows.boot_min (za (zj zF (pv 1) (pv 4)) (za (zA (zbt rfl) rfl T.zdr PyProof.Rows.boot_max (za zc (za (zj zcU (pv 2) (pv 0)) zd))) zd))))
  (zb (zp (i:=2) zaC.nd rfl (by walk_at "lc") (zj zF (pv 2) (zj zaB (pv 0) (pv 5))))
  (zb (zp (i:=1) zaC.nd rfl (by walk_at "lc") (zA (zbu rfl) rfl T.zdp PyProof.Rows.boot_min (za (pv 1) (za (zA (zbt rfl) rfl T.zdr PyProof.Rows.boot_max (za zc (za (zj zcU (pv 2) (pv 0)) zd))) zd))))
  (zb (zX (zz zak (pv 6) zc (nomark _))
  (ze (zp (i:=1) zaC.nd rfl (by walk_at "lc") (zA (zbt rfl) rfl T.zdr PyProof.Rows.boot_max (za zc (za (zj zcU (pv 2) (pv 0)) zd)))))
   zO)
  (zb (zp (i:=2) zaC.nd rfl (by walk_at "lc") (zj zah (pv 2) (zj zaB (pv 0) (pv 7))))
  (ze (zo (zaf (za (zA (zbu rfl) rfl T.zdp PyProof.Rows.boot_min (za (pv 1) (za (zA (zbt rfl) rfl T.zdr PyProof.Rows.boot_max (za zc (za (zj zcU (pv 2) (pv 0)) zd))) zd))) (za (pv 2) zd)))))))))))),?_⟩
 obtain ⟨x,f,w,y⟩:=q
 change SqT K H t [.int x,.int f,.int w,.int y] at ht
 unfold doD at h
 dsimp only at h
 nofun
 refine ⟨t,_,rfl,ht,rfl,?_⟩
 nofun
 ·rename_i c
  rw[if_pos c] at h
  unfold Dbt.step at h
  dsimp only at h
  rw[Int.mul_neg,<-Int.sub_eq_add_neg] at h
  intro a na
  exact h a na
 ·rename_i c
  rw[if_neg c] at h
  unfold Dbt.step at h
  dsimp only at h
  rw[Int.mul_neg,<-Int.sub_eq_add_neg] at h
  intro a na
  exact h a na
def zjx (P:Program) (w:World) (K:W.Frag):Sp:=fun vs H Q _=>L2.Ee4 fun q rs (es:List Er) ww=>L2.Aa5 (vs=[.ref q,.str ww]) (H q=some (.lst rs)) (RL3 H rs es) (es.length<=61) (∀ d H',H d=none->Same H H'->H' d=some (zb1 P w d (zcD (prs ww es)))->Q (.ref d) H')
theorem zoU:zk qao qao (zg zdB):=by walk_at "sp"
theorem zpI (S:Src K mg "_law_by_day" zdB qao) (T:Txt K mg)  : Def P w K mg base 1 "_law_by_day" qao (zjx P w K):=by
 exists S.ok,zoU,0
 all_goals obtain ⟨q,rs,es,ww,rfl,hq,hR,hl,h⟩:=h
 ·rfl
 refine ⟨_,(ze (zo (zM (zc5 rfl) rfl T.zd4 PyProof.Rows.boot_dict (za (ztZ (ix:=[1]) ⟨rfl,by decide +kernel,rfl,by decide +kernel,rfl,rfl,rfl,  (show (["_law_other", "_law_day", "_law_value_here", "_law_word"]:List Str).Nodup by decide +kernel),by walk_at "cap", by walk_at "sub", by walk_at "has"⟩ (zQ (pv 0)) (fun b=>(zz zak (pv 0) (pv 3) (nomark _))) (fun b=>(zaf (za (pv 1) (za (pv 2) zd))))) zd)))),?_⟩
 have sz:=sizeLine_eq
 have xl:=hR.length
 nofun
 refine ⟨⟨_,SqL.of hq⟩,fun l nl=>?_⟩
 refine zlc (zab (SqL.of hq)) nl (by ac_rfl) es xl.symm (fun e=>(V.str e.1.word,V.int e.2.1,V.int e.2.2)) (fun i x e hx he=>?_) (isW ww) (fun H' v e=>∃ t,v=.ref t/\H' t=some (.tup [.int e.2.1,.int e.2.2])) (fun v e H1 H2 s ⟨t,e1,e2⟩=>⟨t,e1,s _ _ e2⟩) (fun v e H1 ys zs hL ⟨t,e1,e2⟩=>⟨t,e1,by rw[zr (zae e2 hL (by intro z;cases z))];exact e2⟩) ?_ ?_ ?_
 ·obtain ⟨e',he',t,rfl,ht⟩:=hR.get hx
  obtain rfl:e'=e:=Option.some.inj (he'.symm.trans he)
  exact ⟨t,rfl,ht⟩
 ·rintro e H' Q' em sH hq'
  nofun
  exact hq' _ (Same.refl _)
 ·rintro e H' Q' em fe sH hq'
  nofun
  intro t nt
  exact hq' _ _ (zf nt _) ⟨t,rfl,zh⟩
 rintro ys H' sH eL hL
 have hP:zH K H' ys (prs ww es):=zmf hL
 have pl:=zgW (w:=ww) (es:=es)
 nofun
 refine ⟨l,ys,prs ww es,rfl,eL,hP,by ac_rfl,fun d H2 nd s2 eD=>?_⟩
 exact h d H2 (zx sH nd) (sH.trans s2) eD
def zhP (K:W.Frag):Sp:=fun vs H Q _=>∃ (p:Addr) (ds:List Int) (x:Int),vs=[.ref p,.int x]/\SqL K H p (ds.map V.int)/\ds.length<=100/\0<=x /\
 ∀ q rs H',H q=none->Same H H'->H' q=some (.lst rs)->RL3 H' rs (zaD (evn ds x))->Q (.ref q) H'
theorem zqL:zk qaz qaz (zg zfP):=by walk_at "sp"
theorem zso (S:Src K mg "_law_pays" zfP qaz) (T:Txt K mg)  : Def P w K mg base 1 "_law_pays" qaz (zhP K):=by
 exists S.ok,zqL,0
 all_goals obtain ⟨p,ds,x,rfl,hp,dl,x0,h⟩:=h
 ·rfl
 refine ⟨_,(zb (zX (zz zak (pv 1) zc (nomark _))
  (ze (zo (zat zd)))
   zO)
  (ze (zo (zbk (ix:=[1]) ⟨rfl,by decide +kernel,rfl,by decide +kernel,rfl,(show (["_law_day", "_law_amount"]:List Str).Nodup by decide +kernel),by walk_at "cap", by walk_at "sub", by walk_at "has"⟩ (zQ (pv 0)) (fun b=>(zaf (za zB (za (pv 0) (za (pv 1) zd))))))))),?_⟩
 have sz:=sizeLine_eq
 have lm:(ds.map V.int).length=ds.length:=yab ..
 nofun
 ·rename_i c
  intro q nq
  obtain rfl:x=0:=c
  exact h q [] _ nq (zf nq _) zh (by rw[zvY];exact .nil)
 ·rename_i c
  have c':¬ x=0:=c
  refine ⟨⟨_,hp⟩,fun l nl=>?_⟩
  refine comp_map (zab hp) nl (by ac_rfl) (zaD (evn ds x)) (by rw[ztB (by ac_rfl),yab,yab]) (fun H v e=>∃ t,v=.ref t/\H t=some (.tup (zcB e.1 e.2.1 e.2.2))) (fun v e H1 H2 s ⟨t,e1,e2⟩=>⟨t,e1,s _ _ e2⟩) (fun v e H1 ys zs hL ⟨t,e1,e2⟩=>⟨t,e1,by rw[zr (zae e2 hL (by intro z;cases z))];exact e2⟩) ?_ ?_
  ·rintro j v e H2 Q' hv hs sH2 hq
   rw[ztB (by ac_rfl)] at hs
   rw[yai] at hv hs
   obtain ⟨d,hd,rfl⟩:=Option.map_eq_some_iff.mp hv
   rw[hd] at hs
   obtain rfl:=Option.some.inj hs
   nofun
   intro t nt
   exact hq _ _ (zf nt _) ⟨t,rfl,zh⟩
  ·rintro zs H2 s2 eL hL
   exact h l zs H2 nl s2 eL hL
def zkG (K:W.Frag):Sp:=fun vs H Q _=>L2.Ee4 fun r k d x=>L2.Aa4 (vs=[.ref r]) (H r=some (.tup (zcB k d x))) (k≠.base) (∀ t H',Same H H'->H' t=some (.tup (zm7 k d x))->Q (.ref t) H')
theorem zqa:zk qas qas (zg zey):=by walk_at "sp"
theorem zrC (S:Src K mg "_law_plain" zey qas) (T:Txt K mg)  : Def P w K mg base 1 "_law_plain" qas (zkG K):=by
 exists S.ok,zqa,0
 all_goals obtain ⟨r,k,d,x,rfl,hr',hk,h⟩:=h
 ·rfl
 refine ⟨_,(zb (zX (zz zak (zv zam (pv 0) zc (fun _ _=>rfl)) zB (nomark _))
  (ze (zo (zj8 zyv (pv 0) zo3 (zjL zc))))
   zO)
  (ze (zo (pv 0)))),?_⟩
 cases k
 all_goals first | exact absurd rfl hk | skip
 all_goals nofun
 all_goals first | exact h r H (Same.refl _) hr' | skip
 refine ⟨r,_,rfl,SqT.of hr',(by intro z;exact absurd (show HT.sIx 3 3 (some 2)=3 from z.2) (by decide)),fun t nt=>?_⟩
 exact h t _ (zf nt _) zh
def zmw (K:W.Frag):Sp:=fun vs H Q _=>L2.Ee4 fun a xs (t:List (Int × Int)) d=>L2.Aa6 (vs=[.ref a,.int d]) (SqL K H a xs) (zH K H xs t) ((t.Pairwise fun s u=>s.1<u.1)) ((∀ s∈t,0<=s.1)) (Q (.int (Sums.valOf t d)) H)
theorem zmI:zk ["table", "day", "many"] qbp (zg zgL):=by walk_at "sp"
theorem zuu (S:Src K mg "value_at" zgL qbp) (T:Txt K mg) (zc1:Def P w K mg base 1 "begun" qax (zkz K)):Def P w K mg base 2 "value_at" qbp (zmw K):=by
 exists S.ok,zmI,0
 all_goals obtain ⟨a,xs,t,d,rfl,hS,hR,up,t0,h⟩:=h
 ·rfl
 refine ⟨_,(zb (zp (i:=2) zmI.nd rfl (by walk_at "lc") (zt zc1 hr (za (pv 0) (za (pv 1) zd))))
  (zb (zX (zz zak (pv 2) zc (nomark _))
  (ze (zo zc))
   zO)
  (ze (zo (zv zam (zv zD (pv 0) (zj zah (pv 2) zc) (fun _ _=>rfl)) zc (fun _ _=>rfl)))))),?_⟩
 have xl:=hR.length
 nofun
 refine ⟨a,xs,t.map (·.1),d,rfl,hS,zts hR,by rw[ybp];exact up,?_⟩
 intro n B'
 have B:=B'.rows
 nofun
 ·rename_i q
  have:n=0:=by ac_rfl
  subst this
  rw[Stills.zwl t0 B] at h
  exact h
 ·rename_i q
  obtain ⟨k,rfl⟩:∃ k,n=k+1:=⟨n-1,by ac_rfl⟩
  have kl:=B.le
  obtain ⟨p,s,ex,es,hp⟩:=hR.get (yaa (by ac_rfl:k<xs.length))
  have ek:((k+1:Nat):Int)-1=(k:Int):=by ac_rfl
  have at_:atI xs (((k+1:Nat):Int)-1)=some (.ref p):=by
   rw[ek]
   exact zaw (by rw[yaa (by ac_rfl:k<xs.length),ex])
  refine ⟨a,_,_,_,rfl,rfl,hS,at_,?_⟩
  nofun
  rw[Stills.zwK t0 up B es] at h
  exact h
def zll (K:W.Frag):Sp:=fun vs H Q _=>∃ (a:Addr) (A:BkA) (b:BkT),vs=[.ref a]/\zaK K H a A b /\
 ∀ p ws H',H p=none->Same H H'->H' p=some (.lst ws)->zH K H' ws (runs 0 (shf b.g b.dues))->Q (.ref p) H'
theorem zse:zk qag qag (zg zfj):=by walk_at "sp"
theorem zsR (S:Src K mg "late_sums" zfj qag) (T:Txt K mg) (zbw:Def P w K mg base 1 "running_sums" qam (zd3 K)) (zcy:zu P w K mg base 1 (cA K "Book") "dues" qaa (zhp K)) (zaS:zu P w K mg base 1 (cA K "Book") "grace" qaa (zdz K)):Def P w K mg base 2 "late_sums" qag (zll K):=by
 exists S.ok,zse,0
 all_goals obtain ⟨a,A,b,rfl,B,h⟩:=h
 ·rfl
 refine ⟨_,(ze (zo (zt zbw hr (za (zbk (ix:=[0]) ⟨rfl,by decide +kernel,rfl,by decide +kernel,rfl,(show (["due", "book"]:List Str).Nodup by decide +kernel),by walk_at "cap", by walk_at "sub", by walk_at "has"⟩ (zQ (zK zcy T.zy hr (pv 0))) (fun b=>(zaf (za (zj zF (zv (zbI K) (pv 0) zc (fun _ _=>rfl)) (zK zaS T.zy hr (pv 1))) (za (zv (zbI K) (pv 0) zc (fun _ _=>rfl)) zd))))) zd)))),?_⟩
 have sz:=sizeLine_eq
 nofun
 refine ⟨a,A.dx,_,rfl,B.ins,rfl,a,A,b,rfl,B,fun q xs nq hR hl=>?_⟩
 have s1:=zf nq (.lst xs)
 have eQ:=zG (.lst xs) nq
 have hR1:=hR.same s1
 have xl:=hR.length
 generalize upd H q (.lst xs)=H1 at s1 eQ hR1 ⊢
 have B1:=B.same s1
 nofun
 refine ⟨⟨_,SqL.of eQ⟩,fun l nl=>?_⟩
 refine comp_map (zab (SqL.of eQ)) nl (by ac_rfl) b.dues xl.symm (fun H' v s=>∃ t,v=.ref t/\H' t=some (.tup [.int (s.1+b.g),.int s.2])) (fun v e H1 H2 s ⟨t,e1,e2⟩=>⟨t,e1,s _ _ e2⟩) (fun v e H1 ys zs hL ⟨t,e1,e2⟩=>⟨t,e1,by rw[zr (zae e2 hL (by intro z;cases z))];exact e2⟩) ?_ ?_
 ·rintro i x s H' Q' hx hs sH hq
  obtain ⟨u,s',rfl,hs',hu⟩:=(hR1.same sH).get hx
  obtain rfl:s'=s:=Option.some.inj (hs'.symm.trans hs)
  have B':=B1.same sH
  nofun
  refine ⟨a,A.dx,_,rfl,B'.ins,rfl,a,A,b,rfl,B',?_⟩
  nofun
  intro t nt
  exact hq _ _ (zf nt _) ⟨t,rfl,zh⟩
 rintro ys H2 s2 eL hL
 have hS:zH K H2 ys (shf b.g b.dues):=by
  unfold shf
  clear eL
  revert hL
  generalize b.dues=l
  intro hL
  induction hL with
  | nil=>exact .nil
  | cons h _ ih =>
   obtain ⟨t,rfl,e⟩:=h
   exact .cons e ih
 have sl:(shf b.g b.dues).length<=1000:=by unfold shf;rw[yab];exact hl
 nofun
 rename_i p ws H3
 intro np s3 eP rP
 exact h p ws H3 (zx (s1.trans s2) np) (s1.trans (s2.trans s3)) eP rP
def zbV (K:W.Frag):Sp:=fun vs H Q _=>L2.Ee6 fun p dx u m n x=>L2.Aa4 (vs=[.ref p,.int x]) (Deb K H p dx u m n) ((0<u/\u<1152921504606846976)) (Q .non (upd H p (.ins (cA K "Debt") dx (zaz u (Dbt.mn m (Dbt.mx 0 ((n+u*x) / u))) (n+u*x)))))
theorem zmr:zk qad qad (zg zcp):=by walk_at "sp"
theorem zm1 (S:zq K (cA K "Debt") "add_cents" "Debt.add_cents" zcp qad) (T:Txt K mg) (zbd:zu P w K mg base 1 (cA K "Debt") "owed" qaa (zek K)):zu P w K mg base 2 (cA K "Debt") "add_cents" qad (zbV K):=by
 exists S.ok,zmr,0
 all_goals obtain ⟨p,dx,u,m,n,x,rfl,e,⟨u0,u1⟩,h⟩:=h
 ·rfl
 refine ⟨_,(zb (zaG T.zR T.zai (pv 0) (zj zF (zZ T.zR T.zai (pv 0)) (zj zaB (zZ T.zR T.za1 (pv 0)) (pv 1))))
  (ze (zaG T.zR T.zP (pv 0) (zA (zbu rfl) rfl T.zdp PyProof.Rows.boot_min (za (zZ T.zR T.zP (pv 0)) (za (zA (zbt rfl) rfl T.zdr PyProof.Rows.boot_max (za zc (za (zK zbd T.zR hr (pv 0)) zd))) zd)))))),?_⟩
 nofun
 refine ⟨p,dx,_,_,rfl,e,rfl,?_⟩
 nofun
 refine ⟨p,dx,_,_,rfl,e,rfl,?_⟩
 nofun
 refine ⟨p,dx,_,rfl,e,zbT,?_⟩
 rw[zt8]
 have e1:Deb K (upd H p (.ins (cA K "Debt") dx (zaz u m (n+u*x)))) p dx u m (n+u*x):=zh
 nofun
 refine ⟨p,dx,_,_,rfl,e1,rfl,?_⟩
 nofun
 refine ⟨p,dx,_,rfl,e1,rfl,p,dx,u,m,_,rfl,e1,⟨u0,u1⟩,?_⟩
 nofun
 refine ⟨p,dx,_,rfl,e1,zbT,?_⟩
 rw[zqi,zad]
 exact h
def zk0 (K:W.Frag):Sp:=fun vs H Q _=>L2.Ee5 fun p dx u m n=>L2.Aa4 (vs=[.ref p]) (Deb K H p dx u m n) ((0<u/\u<1152921504606846976)) (Q .non (upd H p (.ins (cA K "Debt") dx (zaz u (Dbt.step u .turn 0 m n).1 (Dbt.step u .turn 0 m n).2))))
theorem zrj:zk qaa qaa (zg zfu):=by walk_at "sp"
theorem zsq (S:zq K (cA K "Debt") "turn" "Debt.turn" zfu qaa) (T:Txt K mg) (zbd:zu P w K mg base 1 (cA K "Debt") "owed" qaa (zek K)):zu P w K mg base 2 (cA K "Debt") "turn" qaa (zk0 K):=by
 exists S.ok,zrj,0
 all_goals obtain ⟨p,dx,u,m,n,rfl,e,hu,h⟩:=h
 ·rfl
 refine ⟨_,(ze (zaG T.zR T.zP (pv 0) (zA (zbt rfl) rfl T.zdr PyProof.Rows.boot_max (za zc (za (zK zbd T.zR hr (pv 0)) zd))))),?_⟩
 nofun
 refine ⟨p,dx,_,rfl,e,rfl,p,dx,u,m,n,rfl,e,hu,?_⟩
 nofun
 refine ⟨p,dx,_,rfl,e,zbT,?_⟩
 rw[zqi]
 exact h
def znn (K:W.Frag):Sp:=fun vs H Q _=>L2.Ee4 fun a xs l d=>L2.Aa5 (vs=[.ref a,.int d]) (SqL K H a xs) (zH K H xs l) (Spans.Joined l) (∀ m,Stills.Free l d m->Q (.int m) H)
theorem zqF:zk ["spans", "day", "many"] qap (zg zmj):=by walk_at "sp"
theorem zxP (S:Src K mg "moved" zmj qap) (T:Txt K mg) (zc1:Def P w K mg base 1 "begun" qax (zkz K)):Def P w K mg base 2 "moved" qap (znn K):=by
 exists S.ok,zqF,0
 all_goals obtain ⟨a,xs,l,d,rfl,hS,hR,J,h⟩:=h
 ·rfl
 refine ⟨_,(zb (zp (i:=2) zqF.nd rfl (by walk_at "lc") (zt zc1 hr (za (pv 0) (za (pv 1) zd))))
  (zb (zX (zz zak (pv 2) zc (nomark _))
  (ze (zo (pv 1)))
   zO)
  (ze (zo (zA (zbt rfl) rfl T.zdr PyProof.Rows.boot_max (za (pv 1) (za (zv zam (zv zD (pv 0) (zj zah (pv 2) zc) (fun _ _=>rfl)) zc (fun _ _=>rfl)) zd))))))),?_⟩
 have xl:=hR.length
 nofun
 refine ⟨a,xs,l.map (·.1),d,rfl,hS,zts hR,ybp.mpr (Stills.zvj J),?_⟩
 intro n B0
 have B:=B0.rows
 nofun
 ·rename_i q
  have:n=0:=by ac_rfl
  subst this
  exact h _ (Stills.ztM B)
 ·rename_i q
  obtain ⟨k,rfl⟩:∃ k,n=k+1:=⟨n-1,by ac_rfl⟩
  have kl:=B.le
  obtain ⟨p,s,ex,es,hp⟩:=hR.get (yaa (by ac_rfl:k<xs.length))
  have ek:((k+1:Nat):Int)-1=(k:Int):=by ac_rfl
  have at_:atI xs (((k+1:Nat):Int)-1)=some (.ref p):=by
   rw[ek]
   exact zaw (by rw[yaa (by ac_rfl:k<xs.length),ex])
  refine ⟨a,_,_,_,rfl,rfl,hS,at_,?_⟩
  nofun
  exact h _ (Stills.zui J B es)
def zim (K:W.Frag):Sp:=fun vs H Q _=>∃ a A b,vs=[.ref a]/\zaK K H a A b/\BOk b /\
 ∀ p (ns:List Int) H',H p=none->Same H H'->H' p=some (.lst (ns.map V.int))->ns.Pairwise (·<·)->(∀ d,d∈ns↔TDay b d)->ns.length<64->Q (.ref p) H'
theorem zex:zk ["book", "days", "span"] qag (zg zc6):=by walk_at "sp"
theorem zok (S:Src K mg "turning_days" zc6 qag) (T:Txt K mg) (zb9:zu P w K mg base 1 (cA K "Book") "rates" qaa (zf6 K)) (zca:zu P w K mg base 1 (cA K "Book") "lates" qaa (zf7 K)) (zbg:zu P w K mg base 1 (cA K "Book") "pays" qaa (zel K)) (zcy:zu P w K mg base 1 (cA K "Book") "dues" qaa (zhp K)) (zaS:zu P w K mg base 1 (cA K "Book") "grace" qaa (zdz K)) (zbK:zu P w K mg base 1 (cA K "Book") "stills" qaa (zfd K)):Def P w K mg base 2 "turning_days" qag (zim K):=by
 exists S.ok,zex,0
 all_goals obtain ⟨a,A,b,rfl,B,O,h⟩:=h
 ·rfl
 refine ⟨_,(zb (zp (i:=1) zex.nd rfl (by walk_at "lc") (zat (za zc zd)))
  (zb (zaa (zcn PySem.F.plainAttrs_list PySem.F.slot_list_extend PySem.F.type_list_extend zpm (pv 1) (za (zbk (ix:=[]) ⟨rfl,by decide +kernel,rfl,by decide +kernel,rfl,(show (["row"]:List Str).Nodup by decide +kernel),by walk_at "cap", by walk_at "sub", by walk_at "has"⟩ (zQ (zj zeb (zj zeb (zK zb9 T.zy hr (pv 0)) (zK zca T.zy hr (pv 0))) (zK zbg T.zy hr (pv 0)))) (fun b=>(zv (zbI K) (pv 0) zc (fun _ _=>rfl)))) zd)))
  (zb (zaa (zcn PySem.F.plainAttrs_list PySem.F.slot_list_extend PySem.F.type_list_extend zpm (pv 1) (za (zbk (ix:=[0]) ⟨rfl,by decide +kernel,rfl,by decide +kernel,rfl,(show (["row", "book"]:List Str).Nodup by decide +kernel),by walk_at "cap", by walk_at "sub", by walk_at "has"⟩ (zQ (zK zcy T.zy hr (pv 0))) (fun b=>(zj zF (zv (zbI K) (pv 0) zc (fun _ _=>rfl)) (zK zaS T.zy hr (pv 1))))) zd)))
  (zb (za6 PassesOwn.never rfl (zQ (zK zbK T.zy hr (pv 0))) (zI (i:=2) zex.nd rfl (by walk_at "lc"))
  (ze (zaa (zcn PySem.F.plainAttrs_list PySem.F.slot_list_extend PySem.F.type_list_extend zt2 (pv 1) (za (pv 2) zd)))))
  (ze (zo (zA (zec rfl) rfl T.zbU PyProof.Rows.boot_sorted (za (zM (zii rfl) rfl T.zmc PyProof.Rows.boot_set (za (pv 1) zd)) zd)))))))),?_⟩
 have sz:=sizeLine_eq
 have osz:=O.sz
 nofun
 intro p np
 have s1:=zf np (.lst [.int 0])
 have eP:=zG (.lst [.int 0]) np
 generalize upd H p (.lst [.int 0])=H1 at s1 eP ⊢
 have B1:=B.same s1
 nofun
 refine ⟨.inl ⟨rfl,_,SqL.of eP⟩,?_⟩
 nofun
 refine ⟨a,A.dx,_,rfl,B1.ins,rfl,a,A,b,rfl,B1,fun q1 x1 n1 r1 l1=>?_⟩
 have t1:=zf n1 (.lst x1)
 have e1:=zG (.lst x1) n1
 have B2:=B1.same t1
 nofun
 refine ⟨a,A.dx,_,rfl,B2.ins,rfl,a,A,b,rfl,B2,fun q2 x2 n2 r2 l2=>?_⟩
 have t2:=zf n2 (.lst x2)
 have e2:=zG (.lst x2) n2
 have c1:=r1.length
 have c2:=r2.length
 refine ⟨q1,q2,x1,x2,rfl,rfl,t2 _ _ e1,e2,by ac_rfl,fun q3 n3=>?_⟩
 have t3:=zf n3 (.lst (x1++x2))
 have e3:=zG (.lst (x1++x2)) n3
 have B4:=B2.same (t2.trans t3)
 nofun
 refine ⟨a,A.dx,_,rfl,B4.ins,rfl,a,A,b,rfl,B4,fun q4 x4 n4 r4 l4=>?_⟩
 have t4:=zf n4 (.lst x4)
 have e4:=zG (.lst x4) n4
 have c4:=r4.length
 refine ⟨q3,q4,x1++x2,x4,rfl,rfl,t4 _ _ e3,e4,by rw[yaf];ac_rfl,fun q5 n5=>?_⟩
 have t5:=zf n5 (.lst (x1++x2++x4))
 have e5:=zG (.lst (x1++x2++x4)) n5
 have t15:=t1.trans (t2.trans (t3.trans (t4.trans t5)))
 have rX:zH K _ (x1++x2++x4) (b.rates++b.lates++b.pays):=zj9 (zj9 (r1.same t15) (r2.same (t2.trans (t3.trans (t4.trans t5))))) (r4.same (t4.trans t5))
 have eP5:=t15 _ _ eP
 have s15:=s1.trans t15
 generalize upd (upd (upd (upd (upd H1 q1 (.lst x1)) q2 (.lst x2)) q3 (.lst (x1++x2))) q4 (.lst x4)) q5 (.lst (x1++x2++x4))=H5 at rX eP5 s15 e5 ⊢
 have xl:=rX.length
 clear t15 t1 t2 t3 t4 t5 e1 e2 e3 e4 B2 B4 r1 r2 r4
 nofun
 refine ⟨⟨_,SqL.of e5⟩,fun l6 n6=>?_⟩
 have gd:∀ (u:List (Int × Int)) (f:Int × Int->Int) (i:Nat) (s:Int × Int),u[i]?=some s->(u.map f).getD i 0=f s:=fun u f i s e=>by
  rw[yad,yai,e];rfl
 have xl2:(x1++x2++x4).length<=63:=by rw[yaf,yaf];ac_rfl
 refine zis (fun i v=>v=.int (((b.rates++b.lates++b.pays).map (·.1)).getD i 0)) (SqL.of e5) n6 (by ac_rfl) ?_ ?_
 ·intro i x H' Q' hx sH hq
  obtain ⟨p,s,rfl,e,ht⟩:=rX.get hx
  nofun
  exact ⟨p,_,_,_,rfl,rfl,SqT.of (sH _ _ ht),rfl,hq _ (by rw[gd _ _ i s e])⟩
 intro ys1 len1 hp1
 obtain rfl:=zoY (ns:=(b.rates++b.lates++b.pays).map (·.1)) (by rw[len1,yab,xl]) hp1
 have s6:=zf n6 (.lst (((b.rates++b.lates++b.pays).map (·.1)).map V.int))
 have e6:=zG (.lst (((b.rates++b.lates++b.pays).map (·.1)).map V.int)) n6
 have eP6:=s6 _ _ eP5
 have kl:((b.rates++b.lates++b.pays).map (·.1)).length=b.rates.length+b.lates.length+b.pays.length:=by rw[yab,yaf,yaf]
 nofun
 refine ⟨p,l6,_,_,rfl,rfl,eP6,e6,by rw[yab];show 1+_<=_;ac_rfl,?_⟩
 generalize hD1:(b.rates++b.lates++b.pays).map (·.1)=D1 at *
 have s7:Same H (upd (upd H5 l6 (.lst (D1.map V.int))) p (.lst ([.int 0]++D1.map V.int))):=zJ (s15.trans s6) np
 have eP7:(upd (upd H5 l6 (.lst (D1.map V.int))) p (.lst ([.int 0]++D1.map V.int))) p=some (.lst ((0::D1).map V.int)):=zh
 generalize upd (upd H5 l6 (.lst (D1.map V.int))) p (.lst ([.int 0]++D1.map V.int))=H7 at s7 eP7 ⊢
 have B7:=B.same s7
 nofun
 refine ⟨.inl ⟨rfl,_,SqL.of eP7⟩,?_⟩
 nofun
 refine ⟨a,A.dx,_,rfl,B7.ins,rfl,a,A,b,rfl,B7,fun q8 x8 n8 r8 l8=>?_⟩
 have s8:=zf n8 (.lst x8)
 have e8:=zG (.lst x8) n8
 have r8':=r8.same s8
 have c8:=r8.length
 have eP8:=s8 _ _ eP7
 have s78:=s7.trans s8
 generalize upd H7 q8 (.lst x8)=H8 at s8 e8 r8' eP8 s78 ⊢
 have B8:=B.same s78
 nofun
 refine ⟨⟨_,SqL.of e8⟩,fun l9 n9=>?_⟩
 refine zis (fun i v=>v=.int ((b.dues.map fun s=>s.1+b.g).getD i 0)) (SqL.of e8) n9 (by ac_rfl) ?_ ?_
 ·intro i x H' Q' hx sH hq
  obtain ⟨u,s,rfl,e,ht⟩:=r8'.get hx
  have hu:=sH _ _ ht
  nofun
  refine ⟨a,A.dx,_,rfl,(B8.same sH).ins,rfl,a,A,b,rfl,B8.same sH,?_⟩
  nofun
  exact hq _ (by rw[gd _ _ i s e])
 intro ys2 len2 hp2
 obtain rfl:=zoY (ns:=b.dues.map fun s=>s.1+b.g) (by rw[len2,yab,c8]) hp2
 have s9:=zf n9 (.lst ((b.dues.map fun s=>s.1+b.g).map V.int))
 have e9:=zG (.lst ((b.dues.map fun s=>s.1+b.g).map V.int)) n9
 have eP9:=s9 _ _ eP8
 have kl2:(b.dues.map fun s=>s.1+b.g).length=b.dues.length:=yab ..
 nofun
 refine ⟨p,l9,_,_,rfl,rfl,eP9,e9,by rw[yab,yab];show D1.length+1+_<=_;ac_rfl,?_⟩
 generalize hD2:(b.dues.map fun s=>s.1+b.g)=D2 at *
 have cat:(0::D1).map V.int++D2.map V.int=(0::D1++D2).map V.int:=by rw[yar]
 rw[cat]
 have sA:Same H (upd (upd H8 l9 (.lst (D2.map V.int))) p (.lst ((0::D1++D2).map V.int))):=zJ (s78.trans s9) np
 have ePA:(upd (upd H8 l9 (.lst (D2.map V.int))) p (.lst ((0::D1++D2).map V.int))) p=some (.lst ((0::D1++D2).map V.int)):=zh
 generalize upd (upd H8 l9 (.lst (D2.map V.int))) p (.lst ((0::D1++D2).map V.int))=HA at sA ePA ⊢
 have BA:=B.same sA
 nofun
 refine ⟨a,A.dx,_,rfl,BA.ins,rfl,a,A,b,rfl,BA,fun qS xS nS rS lS=>?_⟩
 have sS:=zf nS (.lst xS)
 have eS:=zG (.lst xS) nS
 have rS':=rS.same sS
 have cS:=rS.length
 have ePS:=sS _ _ ePA
 have sB:=sA.trans sS
 have nqp:qS≠p:=(zY ePA nS).symm
 generalize upd HA qS (.lst xS)=HB at sS eS rS' ePS sB ⊢
 nofun
 refine ⟨⟨_,SqL.of eS⟩,zbm (xs:=xS) (fun i σ H'=>∃ (D3:List Int) (z:Option V),(Same H H'/\H' p=some (.lst ((0::D1++D2++D3).map V.int))/\H' qS=some (.lst xS)/\zH K H' xS b.spans)/\D3.length=2*i/\(∀ d,d∈D3↔∃ s∈b.spans.take i,d=s.1\/d=s.2)/\σ=[some (.ref a),some (.ref p),z])
  ⟨[],_,⟨sB,by rw[ycs];exact ePS,eS,rS'⟩,rfl,fun d=>by simp,rfl⟩ ?_ ?_ ?_⟩
 ·rintro i σ H' _ ⟨D3,z,⟨_,_,e,_⟩,_⟩
  exact SqL.of e
 ·rintro i x σ H' hx ⟨D3,z,⟨sH,eP',eS',rS''⟩,dl,mem,rfl⟩
  obtain ⟨u,s,rfl,hs,hu⟩:=rS''.get hx
  have il:i<b.spans.length:=(yac.mp hs).1
  have tk:b.spans.take (i+1)=b.spans.take i++[s]:=by rw[ybc,hs];rfl
  nofun
  refine ⟨.inl ⟨rfl,_,SqL.of eP'⟩,?_⟩
  nofun
  refine ⟨p,u,_,_,rfl,rfl,eP',hu,by simp;ac_rfl,?_⟩
  refine ⟨D3++[s.1,s.2],_,⟨zJ sH np,by rw[<-yct,yar (l₂:=[s.1,s.2])];exact zh,by rw[zr nqp];exact eS',rS''.put eP'⟩,by rw[yaf];show D3.length+2=_;ac_rfl,fun d=>?_,rfl⟩
  rw[yae,mem,tk]
  constructor
  ·rintro (⟨u,hu,e⟩ | e)
   ·exact ⟨u,yae.mpr (.inl hu),e⟩
   ·exact ⟨s,yae.mpr (.inr (by simp)),by simpa using e⟩
  ·rintro ⟨u,hu,e⟩
   rcases yae.mp hu with hu | hu
   ·exact .inl ⟨u,hu,e⟩
   ·obtain rfl:u=s:=by simpa using hu
    exact .inr (by simpa using e)
 ·rintro σ H' ⟨D3,z,⟨sH,eP',eS',rS''⟩,dl,mem,rfl⟩
  rw[cS,yci] at mem
  rw[cS] at dl
  nofun
  refine ⟨p,_,rfl,SqL.of eP',by simp;ac_rfl,fun pS HS ms nPS sPS ePS2 nd mm lm=>?_⟩
  nofun
  refine ⟨pS,ms,rfl,ePS2,ycz lm (by simp;ac_rfl),fun pR HR ns nPR sPR ePR pm up=>?_⟩
  refine h pR ns HR (zx (sH.trans sPS) nPR) (sH.trans (sPS.trans sPR)) ePR (zlJ pm nd up) (fun d=>?_) (by rw[pm.length_eq];exact ycz lm (by simp;ac_rfl))
  rw[pm.mem_iff,mm,yae,yae,yal,mem,<-hD1,<-hD2]
  unfold TDay
  constructor
  ·rintro (((h1 | h1) | h1) | h1)
   ·exact .inl h1
   ·obtain ⟨s,hs,e⟩:=yag.mp h1
    exact .inr (.inl ⟨s,hs,e.symm⟩)
   ·obtain ⟨s,hs,e⟩:=yag.mp h1
    exact .inr (.inr (.inl ⟨s,hs,e.symm⟩))
   ·exact .inr (.inr (.inr h1))
  ·rintro (h1 | ⟨s,hs,e⟩ | ⟨s,hs,e⟩ | h1)
   ·exact .inl (.inl (.inl h1))
   ·exact .inl (.inl (.inr (yag.mpr ⟨s,hs,e.symm⟩)))
   ·exact .inl (.inr (yag.mpr ⟨s,hs,e.symm⟩))
   ·exact .inr h1
def zkI (P:Program) (w:World) (K:W.Frag):Sp:=fun vs H Q _=>L2.Ee6 fun a p A (b:BkT) (ms:List Int) z=>L2.Aa6 (vs=[.ref a,.ref p]) (zaK K H a A b) (zbj b) (H p=some (.lst ((ms++[z]).map V.int))) (b.outs.length+b.fees.length+b.pays.length+b.turns.length+ms.length<=60) (∀ q ws (ds:List Int) H',H q=none->Same H H'->H' q=some (.lst ws)->R5 b H' ws ds->ds.Pairwise (·<·)->(∀ d,d∈ds↔(DDay b d/\d<z)\/d∈ms++[z])->ds.length<=62->Q (.ref q) H')
theorem zbL:zk ["book", "days", "outs", "fees", "turns", "pays", "all_days"] qah (zg zd5):=by walk_at "sp"
theorem zrT (S:Src K mg "deeds_upto" zd5 qah) (T:Txt K mg) (ziC:zu P w K mg base 1 (cA K "Book") "outs" qaa (zlk K)) (ziP:zu P w K mg base 1 (cA K "Book") "fees" qaa (zla K)) (zha:zu P w K mg base 1 (cA K "Book") "turns" qaa (zkQ K)) (zbg:zu P w K mg base 1 (cA K "Book") "pays" qaa (zel K)) (zdS:zu P w K mg base 1 (cA K "Book") "deed_days" qaa (zgw K)):Def P w K mg base 2 "deeds_upto" qah (zkI P w K):=by
 exists S.ok,zbL,0
 all_goals obtain ⟨a,p,A,b,ms,z,rfl,B,I,hp,osz,h⟩:=h
 ·rfl
 refine ⟨_,(zb (zp (i:=2) zbL.nd rfl (by walk_at "lc") (zM (zc5 rfl) rfl T.zd4 PyProof.Rows.boot_dict (za (zK ziC T.zy hr (pv 0)) zd)))
  (zb (zp (i:=3) zbL.nd rfl (by walk_at "lc") (zM (zc5 rfl) rfl T.zd4 PyProof.Rows.boot_dict (za (zK ziP T.zy hr (pv 0)) zd)))
  (zb (zp (i:=4) zbL.nd rfl (by walk_at "lc") (zM (zc5 rfl) rfl T.zd4 PyProof.Rows.boot_dict (za (zbk (ix:=[]) ⟨rfl,by decide +kernel,rfl,by decide +kernel,rfl,(show (["turn"]:List Str).Nodup by decide +kernel),by walk_at "cap", by walk_at "sub", by walk_at "has"⟩ (zQ (zK zha T.zy hr (pv 0))) (fun b=>(zaf (za (pv 0) (za zc zd))))) zd)))
  (zb (zp (i:=5) zbL.nd rfl (by walk_at "lc") (zM (zc5 rfl) rfl T.zd4 PyProof.Rows.boot_dict (za (zK zbg T.zy hr (pv 0)) zd)))
  (zb (zp (i:=6) zbL.nd rfl (by walk_at "lc") (zA (zec rfl) rfl T.zbU PyProof.Rows.boot_sorted (za (zM (zii rfl) rfl T.zmc PyProof.Rows.boot_set (za (zj zeb (zcQ (ix:=[1]) ⟨rfl,by decide +kernel,rfl,by decide +kernel,rfl,(show (["deed", "days"]:List Str).Nodup by decide +kernel),by walk_at "cap", by walk_at "sub", by walk_at "has"⟩ (zQ (zK zdS T.zy hr (pv 0))) (fun b=>(zz zgI (pv 0) (zv (zgZ K) (pv 1) (zkA zg2 zc) (fun _ _=>rfl)) (nomark _))) (fun b=>(pv 0))) (pv 1)) zd)) zd)))
  (ze (zo (zbk (ix:=[3,2,5,4]) ⟨rfl,by decide +kernel,rfl,by decide +kernel,rfl,(show (["deed", "fees", "outs", "pays", "turns"]:List Str).Nodup by decide +kernel),by walk_at "cap", by walk_at "sub", by walk_at "has"⟩ (zQ (pv 6)) (fun b=>(zaf (za (pv 0) (za (zkn P w (pv 2) (pv 0) zc) (za (zkn P w (pv 1) (pv 0) zc) (za (zkn P w (pv 4) (pv 0) zc) (za (zkn P w (pv 3) (pv 0) zc) zd))))))))))))))),?_⟩
 have sz:=sizeLine_eq
 nofun
 refine ⟨a,A.dx,_,rfl,B.ins,rfl,a,A,b,rfl,B,fun q1 x1 n1 r1 l1=>?_⟩
 have s1:=zf n1 (.lst x1)
 have e1:=zG (.lst x1) n1
 have r1':=r1.same s1
 generalize upd H q1 (.lst x1)=G1 at s1 e1 r1' ⊢
 nofun
 refine ⟨q1,x1,b.outs,rfl,e1,r1',by ac_rfl,fun d1 H1 nd1 t1 ed1=>?_⟩
 have u1:=s1.trans t1
 have B1:=B.same u1
 nofun
 refine ⟨a,A.dx,_,rfl,B1.ins,rfl,a,A,b,rfl,B1,fun q2 x2 n2 r2 l2=>?_⟩
 have s2:=zf n2 (.lst x2)
 have e2:=zG (.lst x2) n2
 have r2':=r2.same s2
 generalize upd H1 q2 (.lst x2)=G2 at s2 e2 r2' ⊢
 nofun
 refine ⟨q2,x2,b.fees,rfl,e2,r2',by ac_rfl,fun d2 H2 nd2 t2 ed2=>?_⟩
 have u2:=s2.trans t2
 have u12:=u1.trans u2
 have B2:=B.same u12
 have tnd:b.turns.Nodup:=Sby.zem I.turns.up
 nofun
 refine ⟨a,A.dx,_,rfl,B2.ins,rfl,a,A,b,rfl,B2,fun q3 n3=>?_⟩
 have s3:=zf n3 (.lst (b.turns.map V.int))
 have e3:=zG (.lst (b.turns.map V.int)) n3
 generalize upd H2 q3 (.lst (b.turns.map V.int))=G3 at s3 e3 ⊢
 nofun
 refine ⟨⟨_,SqL.of e3⟩,fun l4 nl4=>?_⟩
 refine comp_map (zab (SqL.of e3)) nl4 (by rw[yab];ac_rfl) b.turns (by rw[yab]) (fun H' v d=>∃ t,v=.ref t/\H' t=some (.tup [.int d,.int 1])) (fun v e H1 H2 s ⟨t,e1,e2⟩=>⟨t,e1,s _ _ e2⟩) (fun v e H1 ys zs hL ⟨t,e1,e2⟩=>⟨t,e1,by rw[zr (zae e2 hL (by intro z;cases z))];exact e2⟩) ?_ ?_
 ·rintro i x d H' Q' hx hd sH hq
  rw[yai,hd] at hx
  cases hx
  nofun
  intro t nt
  exact hq _ _ (zf nt _) ⟨t,rfl,zh⟩
 rintro y4 H4 t4 e4 hL4
 have r4:zH K H4 y4 (b.turns.map fun d=>(d,1)):=by
  clear e4 tnd
  revert hL4
  generalize b.turns=l
  intro hL
  induction hL with
  | nil=>exact .nil
  | cons h _ ih =>
   obtain ⟨t,rfl,e⟩:=h
   exact .cons e ih
 have u34:=s3.trans t4
 nofun
 refine ⟨l4,y4,b.turns.map fun d=>(d,1),rfl,e4,r4,by rw[yab];ac_rfl,fun d3 H5 nd3 t5 ed3=>?_⟩
 have u35:=u34.trans t5
 have u15:=u12.trans u35
 have B5:=B.same u15
 nofun
 refine ⟨a,A.dx,_,rfl,B5.ins,rfl,a,A,b,rfl,B5,fun q6 x6 n6 r6 l6=>?_⟩
 have s6:=zf n6 (.lst x6)
 have e6:=zG (.lst x6) n6
 have r6':=r6.same s6
 generalize upd H5 q6 (.lst x6)=G6 at s6 e6 r6' ⊢
 nofun
 refine ⟨q6,x6,b.pays,rfl,e6,r6',by ac_rfl,fun d6 H6 nd6 t6 ed6=>?_⟩
 have u6:=s6.trans t6
 have u16:=u15.trans u6
 have B6:=B.same u16
 nofun
 refine ⟨a,A.dx,_,rfl,B6.ins,rfl,a,A,b,rfl,B6,by ac_rfl,fun q7 ns H7 n7 t7 e7 up7 mem7 len7=>?_⟩
 have hp7:=(u16.trans t7) _ _ hp
 have atz:∀ xs:List Int,atI ((xs++[z]).map V.int) (-1)=some (.int z):=fun xs=>by
  unfold atI ixN
  simp
  rw[if_pos (by ac_rfl),Option.bind_some,show (-1+((xs.length:Int)+1)).toNat=xs.length by ac_rfl,ybf (by simp)]
  simp
 nofun
 refine ⟨⟨_,SqL.of e7⟩,fun l8 nl8=>?_⟩
 refine zo9 (zab (SqL.of e7)) nl8 (by rw[yab];ac_rfl) ns (by rw[yab]) (fun d=>decide (d<z)) (fun H' v d=>v=.int d) (fun v e H1 H2 s e1=>e1) (fun v e H1 ys zs hL e1=>e1) ?_ ?_ ?_
 ·rintro i x d H' Q' hx hd sH hq
  rw[yai,hd] at hx
  cases hx
  nofun
  refine ⟨p,_,_,_,rfl,rfl,SqL.of (sH _ _ hp7),atz ms,?_⟩
  nofun
  exact hq _ (Same.refl _)
 ·rintro i x d H' Q' hx hd fd sH hq
  rw[yai,hd] at hx
  cases hx
  nofun
  exact hq _ _ (Same.refl _) rfl
 rintro y8 H8 t8 e8 hL8
 obtain rfl:y8=(ns.filter fun d=>decide (d<z)).map V.int:=by
  clear e8
  revert hL8
  generalize ns.filter (fun d=>decide (d<z))=l
  intro hL
  induction hL with
  | nil=>rfl
  | cons h _ ih=>rw[h,ih];rfl
 have fl:=yay (fun d=>decide (d<z)) ns
 have hp8:=t8 _ _ hp7
 have ml:(ms++[z]).length=ms.length+1:=by simp
 nofun
 refine ⟨l8,p,_,_,rfl,rfl,e8,hp8,by rw[yab,yab];ac_rfl,fun q9 n9=>?_⟩
 rw[<-yar]
 have s9:=zf n9 (.lst (((ns.filter fun d=>decide (d<z))++(ms++[z])).map V.int))
 have e9:=zG (.lst (((ns.filter fun d=>decide (d<z))++(ms++[z])).map V.int)) n9
 have u19:=u16.trans (t7.trans (t8.trans s9))
 have u29:=u2.trans (u35.trans (u6.trans (t7.trans (t8.trans s9))))
 have u39:=u35.trans (u6.trans (t7.trans (t8.trans s9)))
 have u59:=u6.trans (t7.trans (t8.trans s9))
 have u69:=t7.trans (t8.trans s9)
 generalize upd H8 q9 (.lst (((ns.filter fun d=>decide (d<z))++(ms++[z])).map V.int))=H9 at s9 e9 u19 u29 u39 u59 u69 ⊢
 have dl:((ns.filter fun d=>decide (d<z))++(ms++[z])).length<=61:=by rw[yaf];ac_rfl
 nofun
 refine ⟨q9,_,rfl,SqL.of e9,by ac_rfl,fun pS HS ks nPS sPS ePS nd mm lm=>?_⟩
 nofun
 refine ⟨pS,ks,rfl,ePS,by ac_rfl,fun pR HR ds nPR sPR ePR pm up=>?_⟩
 have v1:=(u29.trans (sPS.trans sPR)) _ _ ed1
 have v2:=(u39.trans (sPS.trans sPR)) _ _ ed2
 have v3:=(u59.trans (sPS.trans sPR)) _ _ ed3
 have v4:=(u69.trans (sPS.trans sPR)) _ _ ed6
 have vH:=u19.trans (sPS.trans sPR)
 have dsl:ds.length<=62:=by rw[pm.length_eq];ac_rfl
 nofun
 refine ⟨⟨_,SqL.of ePR⟩,fun lZ nlZ=>?_⟩
 refine comp_map (zab (SqL.of ePR)) nlZ (by rw[yab];ac_rfl) ds (by rw[yab]) (fun H' v d=>∃ t,v=.ref t/\H' t=some (.tup [.int d,.int (ddo b d).1,.int (ddo b d).2.1,.int (ddo b d).2.2.1,.int (ddo b d).2.2.2])) (fun v e H1 H2 s ⟨t,e1,e2⟩=>⟨t,e1,s _ _ e2⟩) (fun v e H1 ys zs hL ⟨t,e1,e2⟩=>⟨t,e1,by rw[zr (zae e2 hL (by intro z;cases z))];exact e2⟩) ?_ ?_
 ·rintro i x d H' Q' hx hd sH hq
  rw[yai,hd] at hx
  cases hx
  have w1:=sH _ _ v1
  have w2:=sH _ _ v2
  have w3:=sH _ _ v3
  have w4:=sH _ _ v4
  have tE:(if d∈b.turns then (1:Int) else 0)=if d∈dys "turn" b.es then 1 else 0:=by
   by_cases c:d∈b.turns
   ·rw[if_pos c,if_pos ((I.turns.mem d).mp c)]
   ·rw[if_neg c,if_neg fun z=>c ((I.turns.mem d).mpr z)]
  nofun
  refine ⟨d1,_,rfl,w1,?_⟩
  nofun
  refine ⟨w1,?_⟩
  rw[zoW I.outs]
  nofun
  refine ⟨d2,_,rfl,w2,?_⟩
  nofun
  refine ⟨w2,?_⟩
  rw[zoW I.fees]
  nofun
  refine ⟨d3,_,rfl,w3,?_⟩
  nofun
  refine ⟨w3,?_⟩
  rw[zwu tnd,tE]
  nofun
  refine ⟨d6,_,rfl,w4,?_⟩
  nofun
  refine ⟨w4,?_⟩
  rw[zoW I.pays]
  nofun
  intro t nt
  exact hq _ _ (zf nt _) ⟨t,rfl,zh⟩
 rintro yZ HZ tZ eZ hZ
 refine h lZ yZ ds HZ (zx vH nlZ) (vH.trans tZ) eZ hZ (zlJ pm nd up) (fun d=>?_) dsl
 rw[pm.mem_iff,mm,yae,yao,mem7]
 simp
noncomputable def zqk:V->Bool
 | .int i=>decide (0<=i) && decide (i<=999999)
 | _=>false
def zpl (K:W.Frag):Sp:=fun vs H Q _=>∃ x T,vs=[x]/\zvd K H x T/\Q (.bl (zqk x)) H
theorem zuR:zk qak qak (zg zku):=by walk_at "sp"
theorem zv7 (S:Src K mg "is_day" zku qak) (T:Txt K mg) (zda:Def P w K mg base 1 "is_whole" qak (zjl K)):Def P w K mg base 2 "is_day" qak (zpl K):=by
 exists S.ok,zuR,0
 all_goals obtain ⟨x,Tk,rfl,hk,h⟩:=h
 ·rfl
 refine ⟨_,(ze (zo (zk3 (zt zda hr (za (pv 0) zd)) (zh3 (zrs zd2 zd2 zc (pv 0) (zbJ T.zkk)))))),?_⟩
 nofun
 refine ⟨_,_,rfl,hk,?_⟩
 nofun
 ·rename_i z
  subst z
  obtain ⟨i,rfl⟩:=ty_int hk.1
  nofun
  ·exact qb h (by simp[zqk, *])
  ·exact qb h (by simp[zqk, *])
 ·rename_i z
  refine qb h ?_
  cases x with
  | int i=>exact absurd (zyM hk.1) z
  | _=>rfl
def zkH (K:W.Frag):Sp:=fun vs H Q _=>∃ y m,vs=[.int y,.int m]/\1<=m/\m<=12/\Q (.int (Cal.mlen y m)) H
theorem zpw:zk qbd qbd (zg zeH):=by walk_at "sp"
theorem zrN (S:Src K mg "month_days" zeH qbd) (T:Txt K mg) (zdW:Def P w K mg base 1 "is_leap" qaj (zkt K)):Def P w K mg base 2 "month_days" qbd (zkH K):=by
 exists S.ok,zpw,0
 all_goals obtain ⟨y,m,rfl,h1,h2,h⟩:=h
 ·rfl
 refine ⟨_,(zb (zX (PW.pt (znN (zz zak (pv 1) zc (nomark _)) (zoG (zcR (zt zdW hr (za (pv 0) zd))))))
  (ze (zo zc))
   zO)
  (ze (zo (zv zam (zxk T.zlR) (zj zah (pv 1) zc) (fun _ _=>rfl))))),?_⟩
 have tab:∀ a:Addr,(∀ H,SqT K H a [.int 31,.int 28,.int 31,.int 30,.int 31,.int 30,.int 31,.int 31,.int 30,.int 31,.int 30,.int 31])->(m=2->Cal.leap y=false) ->
   ∃ p xs i v,V.ref a=.ref p/\V.int (m-1)=.int i/\SqT K H p xs/\atI xs i=some v/\Q v H:=fun a ha hb=>by
  have q:m=1\/m=2\/m=3\/m=4\/m=5\/m=6\/m=7\/m=8\/m=9\/m=10\/m=11\/m=12:=by ac_rfl
  rcases q with rfl | rfl | rfl | rfl | rfl | rfl | rfl | rfl | rfl | rfl | rfl | rfl
  all_goals refine ⟨_,_,_,_,rfl,rfl,ha H,rfl,qi h (by simp[Cal.mlen,Cal.lp, *])⟩
 nofun
 ·refine ifB (fun hb=>?_) (fun hb=>?_)
  ·exact qi h (by simp[Cal.mlen,Cal.lp, *])
  ·intro a ha
   nofun
   exact tab a ha (fun _=>hb)
 ·intro a ha
  nofun
  exact tab a ha (fun z=>absurd z (by assumption))
def zkp (K:W.Frag):Sp:=fun vs H Q _=>∃ d,vs=[.int d]/\∀ y,Cal.ny y<=d->d<Cal.ny (y+1)->Q (.int y) H
theorem zj6:zk ["day", "year"] qat (zg zik):=by walk_at "sp"
theorem zvc (S:Src K mg "year_of" zik qat) (T:Txt K mg) (zbs:Def P w K mg base 1 "new_year" qaj (zfk K)):Def P w K mg base 2 "year_of" qat (zkp K):=by
 exists S.ok,zj6,0
 all_goals obtain ⟨d,rfl,h⟩:=h
 ·rfl
 refine ⟨_,(zb (zp (i:=1) zj6.nd rfl (by walk_at "lc") (zj zah (zj zF (zbJ T.zb6) (zj zcU (zj zaB (pv 0) (zbJ T.zgo)) (zbJ T.zhz))) zc))
  (zb (zdR PassesOwn.never (zz zd2 (zt zbs hr (za (zj zF (pv 1) zc) zd)) (pv 0) (nomark _))
  (ze (zp (i:=1) zj6.nd rfl (by walk_at "lc") (zj zF (pv 1) zc))))
  (ze (zo (pv 1))))),?_⟩
 nofun
 refine ⟨fun n σ H'=>H=H'/\∃ y,σ=[some (.int d),some (.int y)]/\Cal.ny y<=d/\n=(d-Cal.ny y).toNat,⟨_,rfl,_,rfl,Cal.zur,rfl⟩,?_⟩
 rintro n σ H' ⟨rfl,y,rfl,hy,rfl⟩
 nofun
 ·refine ⟨_,fun σ' H' z=>z,?_⟩
  nofun
  have e:=Cal.zbv y
  have l:=Cal.zkr y
  exact ⟨_,by ac_rfl,rfl,_,rfl,by assumption,rfl⟩
 ·exact h y hy (by ac_rfl)
def zk4 (kd:Kd) (K:W.Frag):Sp:=fun vs H Q _=>∃ a,vs=[.ref a]/\zbR K H a kd/\Q (.int (10000*yr kd)) H
theorem zpJ:zk qaa qaa (zg zaU):=by walk_at "sp"
theorem zeo (kd:Kd) (hk:kd=.plain\/kd=.bank\/kd=.thirty\/kd=.exact) (S:zq K (cA K kd.cls) "unit" "Count.unit" zaU qaa) (T:Txt K mg) (zcj:∀ kd:Kd,zu P w K mg base 1 (cA K kd.cls) "year" qaa (zcH kd K)):zu P w K mg base 2 (cA K kd.cls) "unit" qaa (zk4 kd K):=by
 exists S.ok,zpJ,0
 all_goals obtain ⟨a,rfl,hc,h⟩:=h
 ·rfl
 refine ⟨_,(ze (zo (zj zaB (zbJ T.zhb) (zfS zcj T.cls hr (pv 0))))),?_⟩
 nofun
 refine ⟨kd,a,rfl,hc,?_⟩
 nofun
 exact h
def zeY (k:Ek) (K:W.Frag):Sp:=fun vs H Q _=>L2.Ee4 fun a dx d x=>L2.Aa3 (vs=[.ref a]) (zeO K H a dx k d x) (∀ q,H q=none->Q (.ref q) (upd H q (.tup (zm7 k d x))))
theorem zrf:zk qaa qaa (zg zcs):=by walk_at "sp"
theorem zmJ (kd:Ek) (hk:kd=.turn\/kd=.base) (S:zq K (cA K kd.cls) "row" "Entry.row" zcs qaa) (T:Txt K mg) (zW:∀ k:Ek,zu P w K mg base 1 (cA K k.cls) "word" qaa (zas k K)):zu P w K mg base 2 (cA K kd.cls) "row" qaa (zeY kd K):=by
 exists S.ok,zrf,0
 all_goals obtain ⟨a,dx,d,x,rfl,e,h⟩:=h
 ·rfl
 refine ⟨_,(ze (zo (zaf (za (zfT zW T.clE hr (pv 0)) (za (zfR (pv 0) rfl) zd))))),?_⟩
 rcases hk with rfl | rfl
 ·nofun
  refine ⟨.turn,a,dx,_,rfl,e,zaZ .turn d x,a,rfl,?_⟩
  nofun
  refine ⟨a,_,dx,_,_,rfl,e,T.clE .turn,T.zau .turn,rfl,?_⟩
  nofun
  intro q nq
  exact h q nq
 ·nofun
  refine ⟨.base,a,dx,_,rfl,e,zaZ .base d x,a,rfl,?_⟩
  nofun
  refine ⟨a,_,dx,_,_,rfl,e,T.clE .base,T.zau .base,rfl,?_⟩
  nofun
  intro q nq
  exact h q nq
def zaR (K:W.Frag):Sp:=fun vs H Q _=>L2.Ee5 fun p C dx d x=>L2.Aa6 (vs=[.ref p,.int d,.int x]) (H p=some (.ins C dx [])) (Cls K C) (zac K C "day") (zac K C "amount") (Q .non (upd H p (.ins C dx [("day", .int d),("amount", .int x)])))
theorem zkV:zk qai qai (zg zag):=by walk_at "sp"
theorem zbS (x:Str) (S:zq K (cA K x) "__init__" "AmountEntry.__init__" zag qai) (T:Txt K mg) (zaj:zou P w K mg base 1 (cA K "Entry") "__init__" qac (zbM K)):zu P w K mg base 2 (cA K x) "__init__" qai (zaR K):=by
 exists S.ok,zkV,0
 all_goals obtain ⟨p,C,dx,d,x,rfl,e,hc,n1,n2,h⟩:=h
 ·rfl
 refine ⟨_,(zb (zaa (zrr zaj (zgT (v:=.ref (cA K "Entry")) rfl T.zjF rfl) hr (za (pv 0) (za (pv 1) zd))))
  (ze (zlj (pv 0) (pv 2) rfl))),?_⟩
 nofun
 refine ⟨p,C,dx,[],d,rfl,e,hc,n1,by decide,?_⟩
 nofun
 refine ⟨p,C,dx,_,rfl,zh,hc,n2,ycz (ycx 1) (by decide),?_⟩
 rw[zad]
 exact h
theorem zlL:zk qaa qaa (zg zao):=by walk_at "sp"
theorem zbZ (kd:Ek) (hk:kd=.out\/kd=.fee\/kd=.pay\/kd=.due) (S:zq K (cA K kd.cls) "row" "AmountEntry.row" zao qaa) (T:Txt K mg) (zW:∀ k:Ek,zu P w K mg base 1 (cA K k.cls) "word" qaa (zas k K)):zu P w K mg base 2 (cA K kd.cls) "row" qaa (zeY kd K):=by
 exists S.ok,zlL,0
 all_goals obtain ⟨a,dx,d,x,rfl,e,h⟩:=h
 ·rfl
 refine ⟨_,(ze (zo (zaf (za (zfT zW T.clE hr (pv 0)) (za (zfR (pv 0) rfl) (za (zfR (pv 0) rfl) zd)))))),?_⟩
 rcases hk with rfl | rfl | rfl | rfl
 ·nofun
  refine ⟨.out,a,dx,_,rfl,e,zaZ .out d x,a,rfl,?_⟩
  nofun
  refine ⟨a,_,dx,_,_,rfl,e,T.clE .out,T.zau .out,rfl,?_⟩
  nofun
  refine ⟨a,_,dx,_,_,rfl,e,T.clE .out,T.zbe .out,rfl,?_⟩
  nofun
  intro q nq
  exact h q nq
 ·nofun
  refine ⟨.fee,a,dx,_,rfl,e,zaZ .fee d x,a,rfl,?_⟩
  nofun
  refine ⟨a,_,dx,_,_,rfl,e,T.clE .fee,T.zau .fee,rfl,?_⟩
  nofun
  refine ⟨a,_,dx,_,_,rfl,e,T.clE .fee,T.zbe .fee,rfl,?_⟩
  nofun
  intro q nq
  exact h q nq
 ·nofun
  refine ⟨.pay,a,dx,_,rfl,e,zaZ .pay d x,a,rfl,?_⟩
  nofun
  refine ⟨a,_,dx,_,_,rfl,e,T.clE .pay,T.zau .pay,rfl,?_⟩
  nofun
  refine ⟨a,_,dx,_,_,rfl,e,T.clE .pay,T.zbe .pay,rfl,?_⟩
  nofun
  intro q nq
  exact h q nq
 ·nofun
  refine ⟨.due,a,dx,_,rfl,e,zaZ .due d x,a,rfl,?_⟩
  nofun
  refine ⟨a,_,dx,_,_,rfl,e,T.clE .due,T.zau .due,rfl,?_⟩
  nofun
  refine ⟨a,_,dx,_,_,rfl,e,T.clE .due,T.zbe .due,rfl,?_⟩
  nofun
  intro q nq
  exact h q nq
def zdk (K:W.Frag):Sp:=fun vs H Q _=>L2.Ee5 fun p C dx d x=>L2.Aa6 (vs=[.ref p,.int d,.int x]) (H p=some (.ins C dx [])) (Cls K C) (zac K C "day") (zac K C "rate") (Q .non (upd H p (.ins C dx [("day", .int d),("rate", .int x)])))
theorem zmq:zk qau qau (zg zba):=by walk_at "sp"
theorem zh2 (x:Str) (S:zq K (cA K x) "__init__" "RateEntry.__init__" zba qau) (T:Txt K mg) (zaj:zou P w K mg base 1 (cA K "Entry") "__init__" qac (zbM K)):zu P w K mg base 2 (cA K x) "__init__" qau (zdk K):=by
 exists S.ok,zmq,0
 all_goals obtain ⟨p,C,dx,d,x,rfl,e,hc,n1,n2,h⟩:=h
 ·rfl
 refine ⟨_,(zb (zaa (zrr zaj (zgT (v:=.ref (cA K "Entry")) rfl T.zjF rfl) hr (za (pv 0) (za (pv 1) zd))))
  (ze (zlj (pv 0) (pv 2) rfl))),?_⟩
 nofun
 refine ⟨p,C,dx,[],d,rfl,e,hc,n1,by decide,?_⟩
 nofun
 refine ⟨p,C,dx,_,rfl,zh,hc,n2,ycz (ycx 1) (by decide),?_⟩
 rw[zad]
 exact h
theorem znl:zk qaa qaa (zg zbl):=by walk_at "sp"
theorem zid (kd:Ek) (hk:kd=.rate\/kd=.late) (S:zq K (cA K kd.cls) "row" "RateEntry.row" zbl qaa) (T:Txt K mg) (zW:∀ k:Ek,zu P w K mg base 1 (cA K k.cls) "word" qaa (zas k K)):zu P w K mg base 2 (cA K kd.cls) "row" qaa (zeY kd K):=by
 exists S.ok,znl,0
 all_goals obtain ⟨a,dx,d,x,rfl,e,h⟩:=h
 ·rfl
 refine ⟨_,(ze (zo (zaf (za (zfT zW T.clE hr (pv 0)) (za (zfR (pv 0) rfl) (za (zfR (pv 0) rfl) zd)))))),?_⟩
 rcases hk with rfl | rfl
 ·nofun
  refine ⟨.rate,a,dx,_,rfl,e,zaZ .rate d x,a,rfl,?_⟩
  nofun
  refine ⟨a,_,dx,_,_,rfl,e,T.clE .rate,T.zau .rate,rfl,?_⟩
  nofun
  refine ⟨a,_,dx,_,_,rfl,e,T.clE .rate,T.zhZ .rate,rfl,?_⟩
  nofun
  intro q nq
  exact h q nq
 ·nofun
  refine ⟨.late,a,dx,_,rfl,e,zaZ .late d x,a,rfl,?_⟩
  nofun
  refine ⟨a,_,dx,_,_,rfl,e,T.clE .late,T.zau .late,rfl,?_⟩
  nofun
  refine ⟨a,_,dx,_,_,rfl,e,T.clE .late,T.zhZ .late,rfl,?_⟩
  nofun
  intro q nq
  exact h q nq
def zkT (K:W.Frag):Sp:=fun vs H Q _=>L2.Ee5 fun p C dx d x=>L2.Aa6 (vs=[.ref p,.int d,.int x]) (H p=some (.ins C dx [])) (Cls K C) (zac K C "day") (zac K C "until") (Q .non (upd H p (.ins C dx [("day", .int d),("until", .int x)])))
theorem zpR:zk qbe qbe (zg zeJ):=by walk_at "sp"
theorem zqM (x:Str) (S:zq K (cA K x) "__init__" "Still.__init__" zeJ qbe) (T:Txt K mg) (zaj:zou P w K mg base 1 (cA K "Entry") "__init__" qac (zbM K)):zu P w K mg base 2 (cA K x) "__init__" qbe (zkT K):=by
 exists S.ok,zpR,0
 all_goals obtain ⟨p,C,dx,d,x,rfl,e,hc,n1,n2,h⟩:=h
 ·rfl
 refine ⟨_,(zb (zaa (zrr zaj (zgT (v:=.ref (cA K "Entry")) rfl T.zjF rfl) hr (za (pv 0) (za (pv 1) zd))))
  (ze (zlj (pv 0) (pv 2) rfl))),?_⟩
 nofun
 refine ⟨p,C,dx,[],d,rfl,e,hc,n1,by decide,?_⟩
 nofun
 refine ⟨p,C,dx,_,rfl,zh,hc,n2,ycz (ycx 1) (by decide),?_⟩
 rw[zad]
 exact h
theorem zrb:zk qaa qaa (zg zfn):=by walk_at "sp"
theorem zsD (kd:Ek) (hk:kd=.still) (S:zq K (cA K kd.cls) "row" "Still.row" zfn qaa) (T:Txt K mg) (zW:∀ k:Ek,zu P w K mg base 1 (cA K k.cls) "word" qaa (zas k K)):zu P w K mg base 2 (cA K kd.cls) "row" qaa (zeY kd K):=by
 subst hk
 exists S.ok,zrb,0
 all_goals obtain ⟨a,dx,d,x,rfl,e,h⟩:=h
 ·rfl
 refine ⟨_,(ze (zo (zaf (za (zfT zW T.clE hr (pv 0)) (za (zfR (pv 0) rfl) (za (zfR (pv 0) rfl) zd)))))),?_⟩
 ·nofun
  refine ⟨.still,a,dx,_,rfl,e,zaZ .still d x,a,rfl,?_⟩
  nofun
  refine ⟨a,_,dx,_,_,rfl,e,T.clE .still,T.zau .still,rfl,?_⟩
  nofun
  refine ⟨a,_,dx,_,_,rfl,e,T.clE .still,T.zia .still,rfl,?_⟩
  nofun
  intro q nq
  exact h q nq
def zlI (K:W.Frag):Sp:=fun vs H Q _=>∃ i a b,vs=[.int i,.int a,.int b]/\(a<=i/\i<=b)/\Q (.bl true) H
theorem zrZ:zk qbf qbf (zg zfL):=by walk_at "sp"
theorem zsS (S:Src K mg "is_within" zfL qbf) (T:Txt K mg) (zda:Def P w K mg base 1 "is_whole" qak (zjl K)):Def P w K mg base 2 "is_within" qbf (zlI K):=by
 exists S.ok,zrZ,0
 all_goals obtain ⟨i,a,b,rfl,⟨h1,h2⟩,h⟩:=h
 ·rfl
 refine ⟨_,(ze (zo (zk3 (zt zda hr (za (pv 0) zd)) (zh3 (zrs zd2 zd2 (pv 1) (pv 0) (pv 2)))))),?_⟩
 nofun
 refine ⟨_, "int", rfl,⟨.int i,by simp[kinds]⟩,?_⟩
 nofun
 all_goals first
  | exact absurd rfl (by assumption)
  | (exfalso;ac_rfl)
  | (refine qb h ?_;simp[h1,h2])
def zlx (K:W.Frag):Sp:=fun vs H Q _=>L2.Ee4 fun p xs (es:List Er) w=>L2.Aa6 (vs=[.ref p,.str w]) (SqL K H p xs) (EL K H xs es) (es.length<=61) (AmW w) (∀ q H' ws r,H q=none->Same H H'->H' q=some (.lst ws)->zH K H' ws r->Sby.Tab r (prs w es)->Q (.ref q) H')
theorem zuI:zk qae qae (zg zko):=by walk_at "sp"
theorem zvU (S:Src K mg "sum_by" zko qae) (T:Txt K mg) (zfb:Def P w K mg base 1 "summed" qal (zlD K)) (zW:∀ k:Ek,zu P w K mg base 1 (cA K k.cls) "word" qaa (zas k K)):Def P w K mg base 2 "sum_by" qae (zlx K):=by
 exists S.ok,zuI,0
 all_goals obtain ⟨p,xs,es,ww,rfl,ep,hE,hl,hw,h⟩:=h
 ·rfl
 refine ⟨_,(ze (zo (zt zfb hr (za (zcQ (ix:=[1]) ⟨rfl,by decide +kernel,rfl,by decide +kernel,rfl,(show (["entry", "word"]:List Str).Nodup by decide +kernel),by walk_at "cap", by walk_at "sub", by walk_at "has"⟩ (zQ (pv 0)) (fun b=>(zz zak (zeK K zW T.clE hr (pv 0)) (pv 1) (nomark _))) (fun b=>(zaf (za (zde K (pv 0) rfl) (za (zde K (pv 0) rfl) zd))))) zd)))),?_⟩
 have sz:=sizeLine_eq
 nofun
 have xl:=hE.length
 refine ⟨⟨_,ep⟩,fun l nl=>?_⟩
 refine zeU (zab ep) nl (by ac_rfl) es xl.symm (isW ww) (fun H' v e=>∃ t,v=.ref t/\H' t=some (.tup [.int e.2.1,.int e.2.2])) (fun v e H1 H2 s ⟨t,e1,e2⟩=>⟨t,e1,s _ _ e2⟩) (fun v e H1 ys zs hL ⟨t,e1,e2⟩=>⟨t,e1,by rw[zr (zae e2 hL (by intro z;cases z))];exact e2⟩) ?_ ?_ ?_
 ·rintro i x e H' Q' hx he sH hq
  obtain ⟨e',he',a,dx,rfl,hi⟩:=(hE.same sH).get hx
  obtain rfl:e'=e:=Option.some.inj (he'.symm.trans he)
  nofun
  refine ⟨e'.1,a,dx,_,rfl,hi,zaZ _ _ _,a,rfl,?_⟩
  nofun
  exact hq
 ·rintro i x e H' Q' hx he fe sH hq
  obtain ⟨e',he',a,dx,rfl,hi⟩:=(hE.same sH).get hx
  obtain rfl:e'=e:=Option.some.inj (he'.symm.trans he)
  nofun
  refine ⟨a,_,dx,_,_,rfl,hi,T.clE _,T.zau _,zhY _ _ _,?_⟩
  nofun
  refine ⟨a,_,dx,_,_,rfl,hi,T.clE _,T.zbe _,(amt hw fe).1,?_⟩
  nofun
  intro t nt
  exact hq _ _ (zf nt _) ⟨t,rfl,zh⟩
 ·rintro ys H' sH eL hL
  have hR:zH K H' ys (prs ww es):=zmf hL
  nofun
  refine ⟨l,ys,prs ww es,rfl,eL,hR,?_,fun q H2 ws r nq s2 eq hr' tb=>?_⟩
  ·unfold prs
   rw[yab]
   exact ydc (yay _ _) hl
  ·exact h q H2 ws r (zx sH nq) (sH.trans s2) eq hr' tb
def znu (K:W.Frag):Sp:=fun vs H Q _=>L2.Ee4 fun p xs (es:List Er) w=>L2.Aa5 (vs=[.ref p,.str w]) (SqL K H p xs) (EL K H xs es) (es.length<=61) (∀ q H' (ns:List Int),H q=none->Same H H'->H' q=some (.lst (ns.map V.int))->Days ns (dys w es)->Q (.ref q) H')
theorem zt6:zk qae qae (zg ziv):=by walk_at "sp"
theorem zuH (S:Src K mg "days_of" ziv qae) (T:Txt K mg) (zW:∀ k:Ek,zu P w K mg base 1 (cA K k.cls) "word" qaa (zas k K)):Def P w K mg base 2 "days_of" qae (znu K):=by
 exists S.ok,zt6,0
 all_goals obtain ⟨p,xs,es,ww,rfl,ep,hE,hl,h⟩:=h
 ·rfl
 refine ⟨_,(ze (zo (zA (zec rfl) rfl T.zbU PyProof.Rows.boot_sorted (za (zM (zii rfl) rfl T.zmc PyProof.Rows.boot_set (za (zcQ (ix:=[1]) ⟨rfl,by decide +kernel,rfl,by decide +kernel,rfl,(show (["entry", "word"]:List Str).Nodup by decide +kernel),by walk_at "cap", by walk_at "sub", by walk_at "has"⟩ (zQ (pv 0)) (fun b=>(zz zak (zeK K zW T.clE hr (pv 0)) (pv 1) (nomark _))) (fun b=>(zde K (pv 0) rfl))) zd)) zd)))),?_⟩
 have sz:=sizeLine_eq
 have xl:=hE.length
 nofun
 refine ⟨⟨_,ep⟩,fun l nl=>?_⟩
 refine zeU (zab ep) nl (by ac_rfl) es xl.symm (isW ww) (fun _ v e=>v=.int e.2.1) (fun v e H1 H2 s q=>q) (fun v e H1 ys zs hL q=>q) ?_ ?_ ?_
 ·rintro i x e H' Q' hx he sH hq
  obtain ⟨e',he',a,dx,rfl,hi⟩:=(hE.same sH).get hx
  obtain rfl:e'=e:=Option.some.inj (he'.symm.trans he)
  nofun
  refine ⟨e'.1,a,dx,_,rfl,hi,zaZ _ _ _,a,rfl,?_⟩
  nofun
  exact hq
 ·rintro i x e H' Q' hx he fe sH hq
  obtain ⟨e',he',a,dx,rfl,hi⟩:=(hE.same sH).get hx
  obtain rfl:e'=e:=Option.some.inj (he'.symm.trans he)
  nofun
  refine ⟨a,_,dx,_,_,rfl,hi,T.clE _,T.zau _,zhY _ _ _,?_⟩
  exact hq _ _ (Same.refl _) rfl
 ·rintro ys H' sH eL hL
  have ey:ys=(dys ww es).map V.int:=by
   have:=hL.eqm (g:=fun e:Er=>V.int e.2.1)
   rw[this]
   unfold dys
   rw[ybl]
   rfl
  subst ey
  nofun
  refine ⟨l,dys ww es,rfl,SqL.of eL,ycz ztc (by ac_rfl),fun p1 H1 ms np1 s1 e1 nd mm ml=>?_⟩
  nofun
  refine ⟨p1,ms,rfl,e1,?_,fun q H2 ns nq s2 eq pm up=>?_⟩
  ·exact ycz (ydc (zg7 nd fun d hd=>(mm d).mp hd) ztc) (by ac_rfl)
  ·exact h q H2 ns (zx (sH.trans s1) nq) (sH.trans (s1.trans s2)) eq (Days.of nd mm pm up)
def zkU (K:W.Frag):Sp:=fun vs H Q _=>L2.Ee4 fun p xs (es:List Er) w=>L2.Aa7 (vs=[.ref p,.str w]) (SqL K H p xs) (EL K H xs es) (es.length<=61) (RtW w) ((∀ e∈es,0<=e.2.1)) (∀ q H' ws (r:List (Int × Int)),H q=none->Same H H'->H' q=some (.lst ws)->zH K H' ws r->Stills.TabOf (prs w es) r->r=(r.map (·.1)).map (fun d=>(d,Sums.valOf (prs w es) d))->r.length<=61->Q (.ref q) H')
theorem zp5:zk qae qae (zg zeq):=by walk_at "sp"
theorem zqr (S:Src K mg "rate_table" zeq qae) (T:Txt K mg) (zj3:Def P w K mg base 1 "table_of" qal (zmM K)) (zW:∀ k:Ek,zu P w K mg base 1 (cA K k.cls) "word" qaa (zas k K)):Def P w K mg base 2 "rate_table" qae (zkU K):=by
 exists S.ok,zp5,0
 all_goals obtain ⟨p,xs,es,ww,rfl,ep,hE,hl,hw,e0,h⟩:=h
 ·rfl
 refine ⟨_,(ze (zo (zt zj3 hr (za (zcQ (ix:=[1]) ⟨rfl,by decide +kernel,rfl,by decide +kernel,rfl,(show (["entry", "word"]:List Str).Nodup by decide +kernel),by walk_at "cap", by walk_at "sub", by walk_at "has"⟩ (zQ (pv 0)) (fun b=>(zz zak (zeK K zW T.clE hr (pv 0)) (pv 1) (nomark _))) (fun b=>(zaf (za (zde K (pv 0) rfl) (za (zde K (pv 0) rfl) zd))))) zd)))),?_⟩
 have sz:=sizeLine_eq
 nofun
 have xl:=hE.length
 have pl:=ydc (zgW (w:=ww) (es:=es)) hl
 refine ⟨⟨_,ep⟩,fun l nl=>?_⟩
 refine zeU (zab ep) nl (by ac_rfl) es xl.symm (isW ww) (fun H' v e=>∃ t,v=.ref t/\H' t=some (.tup [.int e.2.1,.int e.2.2])) (fun v e H1 H2 s ⟨t,e1,e2⟩=>⟨t,e1,s _ _ e2⟩) (fun v e H1 ys zs hL ⟨t,e1,e2⟩=>⟨t,e1,by rw[zr (zae e2 hL (by intro z;cases z))];exact e2⟩) ?_ ?_ ?_
 ·rintro i x e H' Q' hx he sH hq
  obtain ⟨e',he',a,dx,rfl,hi⟩:=(hE.same sH).get hx
  obtain rfl:e'=e:=Option.some.inj (he'.symm.trans he)
  nofun
  refine ⟨e'.1,a,dx,_,rfl,hi,zaZ _ _ _,a,rfl,?_⟩
  nofun
  exact hq
 ·rintro i x e H' Q' hx he fe sH hq
  obtain ⟨e',he',a,dx,rfl,hi⟩:=(hE.same sH).get hx
  obtain rfl:e'=e:=Option.some.inj (he'.symm.trans he)
  nofun
  refine ⟨a,_,dx,_,_,rfl,hi,T.clE _,T.zau _,zhY _ _ _,?_⟩
  nofun
  refine ⟨a,_,dx,_,_,rfl,hi,T.clE _,T.zhZ _,rtl hw fe,?_⟩
  nofun
  intro t nt
  exact hq _ _ (zf nt _) ⟨t,rfl,zh⟩
 ·rintro ys H' sH eL hL
  have hR:zH K H' ys (prs ww es):=zmf hL
  nofun
  refine ⟨l,ys,prs ww es,rfl,eL,hR,by ac_rfl,?_,fun q H2 ws r nq s2 eq hr' tb er rl=>?_⟩
  ·intro s hs
   obtain ⟨e,he,rfl⟩:=yag.mp hs
   exact e0 e (yao.mp he).1
  ·exact h q H2 ws r (zx sH nq) (sH.trans s2) eq hr' tb er (by ac_rfl)
def zjI (K:W.Frag):Sp:=fun vs H Q _=>∃ (p:Addr) (xs:List V) (es:List Er),vs=[.ref p]/\SqL K H p xs/\EL K H xs es/\es.length<=61 /\
 ∀ q H' ws (r:List (Int × Int)),H q=none->Same H H'->H' q=some (.lst ws)->zH K H' ws r->Spans.Joined r->(∀ d,Spans.Cov r d↔Spans.Cov (prs "still" es) d)->r.length<=61->Q (.ref q) H'
theorem zjH:zk ["entries", "stills"] qbq (zg zdu):=by walk_at "sp"
theorem zp4 (S:Src K mg "still_spans" zdu qbq) (T:Txt K mg) (zW:∀ k:Ek,zu P w K mg base 1 (cA K k.cls) "word" qaa (zas k K)) (zmQ:Def P w K mg base 1 "joined" ["spans"] (zo5 K)):Def P w K mg base 2 "still_spans" qbq (zjI K):=by
 exists S.ok,zjH,0
 all_goals obtain ⟨p,xs,es,rfl,ep,hE,hl,h⟩:=h
 ·rfl
 refine ⟨_,(zb (zvH (i:=1) zjH.nd rfl rfl (ix:=[]) ⟨rfl,by decide +kernel,rfl,by decide +kernel,rfl,(show (["entry"]:List Str).Nodup by decide +kernel),by walk_at "cap", by walk_at "sub", by walk_at "has"⟩ (zQ (pv 0)) (fun b=>(zz zak (zeK K zW T.clE hr (pv 0)) zB (nomark _))) (fun b=>(pv 0)))
  (ze (zo (zt zmQ hr (za (zcQ (ix:=[]) ⟨rfl,by decide +kernel,rfl,by decide +kernel,rfl,(show (["entry"]:List Str).Nodup by decide +kernel),by walk_at "cap", by walk_at "sub", by walk_at "has"⟩ (zQ (pv 1)) (fun b=>(zz zgI (zde K (pv 0) rfl) (zde K (pv 0) rfl) (nomark _))) (fun b=>(zaf (za (zde K (pv 0) rfl) (za (zde K (pv 0) rfl) zd))))) zd))))),?_⟩
 have sz:=sizeLine_eq
 nofun
 have xl:=hE.length
 refine ⟨⟨_,ep⟩,fun l nl=>?_⟩
 refine zeU (zab ep) nl (by ac_rfl) es xl.symm (isW "still") (fun H' v e=>∃ a dx,v=.ref a/\zeO K H' a dx e.1 e.2.1 e.2.2) (fun v e H1 H2 s ⟨t,dx,e1,e2⟩=>⟨t,dx,e1,s _ _ e2⟩) (fun v e H1 ys zs hL ⟨t,dx,e1,e2⟩=>⟨t,dx,e1,by rw[zeO,zr (zae e2 hL (by intro z;cases z))];exact e2⟩) ?_ ?_ ?_
 ·rintro i x e H' Q' hx he sH hq
  obtain ⟨e',he',a,dx,rfl,hi⟩:=(hE.same sH).get hx
  obtain rfl:e'=e:=Option.some.inj (he'.symm.trans he)
  nofun
  refine ⟨e'.1,a,dx,_,rfl,hi,zaZ _ _ _,a,rfl,?_⟩
  nofun
  exact hq
 ·rintro i x e H' Q' hx he fe sH hq
  obtain ⟨e',he',a,dx,rfl,hi⟩:=(hE.same sH).get hx
  obtain rfl:e'=e:=Option.some.inj (he'.symm.trans he)
  nofun
  exact hq _ _ (Same.refl _) ⟨a,dx,rfl,hi⟩
 ·rintro ys H1 s1 eL hL
  have hE1:EL K H1 ys (es.filter (isW "still")):=hL
  have yl:=hE1.length
  have fl:=yay (isW "still") es
  nofun
  refine ⟨⟨_,SqL.of eL⟩,fun l2 nl2=>?_⟩
  have isS:∀ {i:Nat} {e:Er},(es.filter (isW "still"))[i]?=some e->isW "still" e=true:=fun {i e} he=>(yao.mp (yah he)).2
  refine zeU (zab (SqL.of eL)) nl2 (by ac_rfl) (es.filter (isW "still")) yl.symm (fun e:Er=>decide (e.2.1<e.2.2)) (fun H' v e=>∃ t,v=.ref t/\H' t=some (.tup [.int e.2.1,.int e.2.2])) (fun v e H1 H2 s ⟨t,e1,e2⟩=>⟨t,e1,s _ _ e2⟩) (fun v e H1 ys zs hL ⟨t,e1,e2⟩=>⟨t,e1,by rw[zr (zae e2 hL (by intro z;cases z))];exact e2⟩) ?_ ?_ ?_
  ·rintro i x e H' Q' hx he sH hq
   obtain ⟨e',he',a,dx,rfl,hi⟩:=(hE1.same sH).get hx
   obtain rfl:e'=e:=Option.some.inj (he'.symm.trans he)
   nofun
   refine ⟨a,_,dx,_,_,rfl,hi,T.clE _,T.zau _,zhY _ _ _,?_⟩
   nofun
   refine ⟨a,_,dx,_,_,rfl,hi,T.clE _,T.zia _,stl (isS he),?_⟩
   nofun
   exact hq
  ·rintro i x e H' Q' hx he fe sH hq
   obtain ⟨e',he',a,dx,rfl,hi⟩:=(hE1.same sH).get hx
   obtain rfl:e'=e:=Option.some.inj (he'.symm.trans he)
   nofun
   refine ⟨a,_,dx,_,_,rfl,hi,T.clE _,T.zau _,zhY _ _ _,?_⟩
   nofun
   refine ⟨a,_,dx,_,_,rfl,hi,T.clE _,T.zia _,stl (isS he),?_⟩
   nofun
   intro t nt
   exact hq _ _ (zf nt _) ⟨t,rfl,zh⟩
  ·rintro zs H2 s2 eL2 hL2
   have hR:zH K H2 zs (((es.filter (isW "still")).filter fun e:Er=>decide (e.2.1<e.2.2)).map (·.2)):=zmf hL2
   have em:((es.filter (isW "still")).filter fun e:Er=>decide (e.2.1<e.2.2)).map (·.2)=(prs "still" es).filter fun s=>decide (s.1<s.2):=by
    unfold prs
    rw[List.filter_map]
    rfl
   rw[em] at hR
   have pl:=yay (fun s:Int × Int=>decide (s.1<s.2)) (prs "still" es)
   have pl2:=zgW (w:="still") (es:=es)
   nofun
   refine ⟨l2,zs,_,rfl,SqL.of eL2,hR,by ac_rfl,fun s hs=>?_,fun q ws r H3 s3 nq eq rR J cv rl=>?_⟩
   ·simpa using (yao.mp hs).2
   ·exact h q H3 ws r (zx (s1.trans s2) nq) (s1.trans (s2.trans s3)) eq rR J (fun d=>(cv d).trans (zvV _ d)) (by ac_rfl)
def zmO (K:W.Frag):Sp:=fun vs H Q _=>∃ c b tp,vs=[.int c,.int b,.int tp]/\(0<=b/\b<=999800)/\(5000<=tp/\tp<=1000000)/\∀ r k d x H',Same H H'->H r=none->H' r=some (.tup (zcB k d x))->k≠.base->(b<=d/\d<b+200)->zwy k d x->Q (.ref r) H'
theorem zdm:zk ["_law_cell", "_law_base_here", "_law_top", "_law_xs", "_law_day", "_law_words", "_law_word"] qbr (zg zgP):=by walk_at "sp"
theorem zt4 (S:Src K mg "_law_row" zgP qbr) (T:Txt K mg) (zaE:Def P w K mg base 1 "_law_draws" qav (zcr K)) (zhS:Def P w K mg base 1 "_law_value" qbm (zkO K)):Def P w K mg base 2 "_law_row" qbr (zmO K):=by
 exists S.ok,zdm,0
 all_goals obtain ⟨c,b,tp,rfl,⟨b0,b1⟩,htp,h⟩:=h
 ·rfl
 refine ⟨_,(zb (zp (i:=3) zdm.nd rfl (by walk_at "lc") (zt zaE hr (za (pv 0) (za zc zd))))
  (zb (zp (i:=4) zdm.nd rfl (by walk_at "lc") (zj zF (pv 1) (zj zS (zv zD (pv 3) zc (fun _ _=>rfl)) (zv zD (zat (za zc (za zc (za zc zd)))) (zj zS (zv zD (pv 3) zc (fun _ _=>rfl)) zc) (fun _ _=>rfl)))))
  (zb (zp (i:=5) zdm.nd rfl (by walk_at "lc") (zat (za zB (za zB (za zB (za zB (za zB (za zB (za zB (za zB (za zB (za zB (za zB (za zB (za zB zd)))))))))))))))
  (zb (zp (i:=6) zdm.nd rfl (by walk_at "lc") (zv zD (pv 5) (zj zS (zv zD (pv 3) zc (fun _ _=>rfl)) zc) (fun _ _=>rfl)))
  (ze (zo (zaf (za (pv 6) (za (pv 4) (za (zt zhS hr (za (pv 6) (za (pv 4) (za (pv 3) (za (pv 2) zd))))) zd)))))))))),?_⟩
 have sz:=sizeLine_eq
 nofun
 intro p ns H1 s1 np ep nl nn
 have nl8:ns.length=8:=by ac_rfl
 obtain ⟨n0,n1,n2,n3,n4,n5,n6,n7,rfl⟩:=zuL nl8
 have p0:=nn n0 (by simp)
 have p1:=nn n1 (by simp)
 have p2:=nn n2 (by simp)
 have hp:SqL K H1 p (List.map V.int [n0,n1,n2,n3,n4,n5,n6,n7]):=SqL.of ep
 nofun
 refine ⟨p,_,_,_,rfl,rfl,hp,rfl,?_⟩
 nofun
 intro l2 m2
 have s2:=zf m2 (.lst [.int 4,.int 30,.int 90])
 have hp2:=s2.seq hp
 have z2:SqL K (upd H1 l2 (.lst [.int 4,.int 30,.int 90])) l2 [.int 4,.int 30,.int 90]:=SqL.of zh
 generalize upd H1 l2 (.lst [.int 4,.int 30,.int 90])=H2 at s2 hp2 z2 ⊢
 have a0:=ydu n1 (show (3:Int)≠0 by decide)
 have a1:=ydt n1 (show (0:Int)<3 by decide)
 nofun
 refine ⟨p,_,_,_,rfl,rfl,hp2,rfl,?_⟩
 nofun
 obtain ⟨m,am,hm⟩:=zqN (a:=4) (b:=30) (c:=90) a0 a1
 refine ⟨l2,_,_,_,rfl,rfl,z2,am,?_⟩
 have c0:=ydu n0 (show m≠0 by ac_rfl)
 have c1:=ydt n0 (show 0<m by ac_rfl)
 nofun
 intro l3 m3
 have s3:=zf m3 (.lst [.str "out", .str "pay", .str "due", .str "rate", .str "fee", .str "pay", .str "out", .str "late", .str "turn", .str "due", .str "still", .str "pay", .str "rate"])
 have hp3:=s3.seq hp2
 have z3:SqL K (upd H2 l3 (.lst [.str "out", .str "pay", .str "due", .str "rate", .str "fee", .str "pay", .str "out", .str "late", .str "turn", .str "due", .str "still", .str "pay", .str "rate"])) l3 [.str "out", .str "pay", .str "due", .str "rate", .str "fee", .str "pay", .str "out", .str "late", .str "turn", .str "due", .str "still", .str "pay", .str "rate"]:=SqL.of zh
 generalize upd H2 l3 (.lst [.str "out", .str "pay", .str "due", .str "rate", .str "fee", .str "pay", .str "out", .str "late", .str "turn", .str "due", .str "still", .str "pay", .str "rate"])=H3 at s3 hp3 z3 ⊢
 have e0:=ydu n2 (show (13:Int)≠0 by decide)
 have e1:=ydt n2 (show (0:Int)<13 by decide)
 nofun
 refine ⟨p,_,_,_,rfl,rfl,hp3,rfl,?_⟩
 nofun
 obtain ⟨v,hv,hw⟩:=zjM (xs:=[.str "out", .str "pay", .str "due", .str "rate", .str "fee", .str "pay", .str "out", .str "late", .str "turn", .str "due", .str "still", .str "pay", .str "rate"]) e0 (by simpa using e1)
 obtain ⟨k,rfl,hk⟩:=((zay ⟨.out,rfl,by intro z;cases z⟩ (zay ⟨.pay,rfl,by intro z;cases z⟩ (zay ⟨.due,rfl,by intro z;cases z⟩ (zay ⟨.rate,rfl,by intro z;cases z⟩ (zay ⟨.fee,rfl,by intro z;cases z⟩ (zay ⟨.pay,rfl,by intro z;cases z⟩ (zay ⟨.out,rfl,by intro z;cases z⟩ (zay ⟨.late,rfl,by intro z;cases z⟩ (zay ⟨.turn,rfl,by intro z;cases z⟩ (zay ⟨.due,rfl,by intro z;cases z⟩ (zay ⟨.still,rfl,by intro z;cases z⟩ (zay ⟨.pay,rfl,by intro z;cases z⟩ (zay ⟨.rate,rfl,by intro z;cases z⟩ zoe))))))))))))):∀ v∈([.str "out", .str "pay", .str "due", .str "rate", .str "fee", .str "pay", .str "out", .str "late", .str "turn", .str "due", .str "still", .str "pay", .str "rate"]:List V),∃ k:Ek,v=.str k.word/\k≠.base) v hw
 refine ⟨l3,_,_,_,rfl,rfl,z3,hv,?_⟩
 nofun
 refine ⟨k,_,p,_,tp,rfl,htp,hp3,nl8,nn,⟨by ac_rfl,by ac_rfl⟩,hk,fun x hx=>?_⟩
 nofun
 intro r nr
 exact h r k _ x _ (s1.trans (s2.trans (s3.trans (zf nr _)))) (zx (s1.trans (s2.trans s3)) nr) zh hk ⟨by ac_rfl,by ac_rfl⟩ hx
noncomputable def baseOf (ns:List Int):Int:=cellAt ns 1 % 999801
theorem zix (ns:List Int):0<=baseOf ns/\baseOf ns<=999800:=by
 unfold baseOf
 omega
def zcI (K:W.Frag):Sp:=fun vs H Q _=>∃ (p:Addr) (ns:List Int),vs=[.ref p]/\SqL K H p (ns.map V.int)/\Q (.int (baseOf ns)) H
theorem zr4:zk qab qab (zg zfE):=by walk_at "sp"
theorem zsZ (S:Src K mg "_law_base" zfE qab) (T:Txt K mg) (zE:Def P w K mg base 1 "_law_cell_at" qan (zaI K)):Def P w K mg base 2 "_law_base" qab (zcI K):=by
 exists S.ok,zr4,0
 all_goals obtain ⟨p,ns,rfl,hp,h⟩:=h
 ·rfl
 refine ⟨_,(ze (zo (zj zS (zt zE hr (za (pv 0) (za zc zd))) zc))),?_⟩
 nofun
 refine ⟨p,ns,1,rfl,hp,?_⟩
 nofun
 exact h
noncomputable def zaQ (ns:List Int):Int:=(fun c:Int=>if c % 5=4 then c / 5 % 367 else if c % 5=3 then 30 else if c % 5=2 then 3 else 0) (cellAt ns 0 / 4)
theorem zgE (ns:List Int):0<=zaQ ns/\zaQ ns<=366:=by
 unfold zaQ
 generalize cellAt ns 0 / 4=c
 dsimp only
 split
 ·omega
 ·split
  ·omega
  ·split <;> omega
def zgg (K:W.Frag):Sp:=fun vs H Q _=>∃ (p:Addr) (ns:List Int),vs=[.ref p]/\SqL K H p (ns.map V.int)/\Q (.int (zaQ ns)) H
theorem zkR:zk ["_law_script", "_law_cell"] qab (zg zeB):=by walk_at "sp"
theorem zr7 (S:Src K mg "_law_grace" zeB qab) (T:Txt K mg) (zE:Def P w K mg base 1 "_law_cell_at" qan (zaI K)):Def P w K mg base 2 "_law_grace" qab (zgg K):=by
 exists S.okF,zkR,0
 all_goals obtain ⟨p,ns,rfl,hp,h⟩:=h
 ·rfl
 refine ⟨_,(zb (zp (i:=1) zkR.nd rfl (by walk_at "lc") (zj zb7 (zt zE hr (za (pv 0) (za zc zd))) zc))
  (ze (zo (zv zD (zat (za zc (za zc (za zc (za zc (za (zj zS (zj zb7 (pv 1) zc) zc) zd)))))) (zj zS (pv 1) zc) (fun _ _=>rfl))))),?_⟩
 nofun
 refine ⟨p,ns,0,rfl,hp,?_⟩
 nofun
 intro q nq
 have c0:=ydu (cellAt ns 0 / 4) (show (5:Int)≠0 by decide)
 have c1:=ydt (cellAt ns 0 / 4) (show (0:Int)<5 by decide)
 nofun
 have at_:atI [V.int 0,V.int 0,V.int 3,V.int 30,V.int (cellAt ns 0 / 4 / 5 % 367)] (cellAt ns 0 / 4 % 5)=some (.int (zaQ ns)):=by
  unfold zaQ
  generalize cellAt ns 0 / 4=c at c0 c1 ⊢
  dsimp only
  rcases (show c % 5=0\/c % 5=1\/c % 5=2\/c % 5=3\/c % 5=4 by ac_rfl) with e | e | e | e | e <;> rw[e] <;> rfl
 refine ⟨q,_,_,_,rfl,rfl,SqL.of zh,at_,?_⟩
 exact ⟨zf nq _,h⟩
noncomputable def kindOf (ns:List Int):Kd:=(fun c:Int=>if c=0 then .plain else if c=1 then .bank else if c=2 then .thirty else .exact) (cellAt ns 0 % 4)
def zkK (K:W.Frag):Sp:=fun vs H Q _=>∃ (p:Addr) (ns:List Int),vs=[.ref p]/\SqL K H p (ns.map V.int)/\∀ c H',H c=none->Same H H'->zbR K H' c (kindOf ns)->Q (.ref c) H'
theorem zpC:zk qab qab (zg zeQ):=by walk_at "sp"
theorem zsa (S:Src K mg "_law_count" zeQ qab) (T:Txt K mg) (zE:Def P w K mg base 1 "_law_cell_at" qan (zaI K)):Def P w K mg base 2 "_law_count" qab (zkK K):=by
 exists S.ok,zpC,0
 all_goals obtain ⟨p,ns,rfl,hp,h⟩:=h
 ·rfl
 refine ⟨_,(ze (zo (zv zD (zat (za (zmo (T.mk0 .plain) T.zl9) (za (zmo (T.mk0 .bank) T.zqS) (za (zmo (T.mk0 .thirty) T.zng) (za (zmo (T.mk0 .exact) T.zoA) zd))))) (zj zS (zt zE hr (za (pv 0) (za zc zd))) zc) (fun _ _=>rfl)))),?_⟩
 have c0:=ydu (cellAt ns 0) (show (4:Int)≠0 by decide)
 have c1:=ydt (cellAt ns 0) (show (0:Int)<4 by decide)
 have new:∀ (kd:Kd) (H1:Hp) (x dx:Addr),H1 x=none->H1 dx=none->dx≠x->Same H1 (upd (upd H1 dx (.own x)) x (.ins (cA K kd.cls) dx []))/\zbR K (upd (upd H1 dx (.own x)) x (.ins (cA K kd.cls) dx [])) x kd:=fun kd H1 x dx nx nd ne =>
  ⟨(zf nd _).trans (zf (by rw[zr ne.symm];exact nx) _),dx,zh⟩
 nofun
 intro x1 d1 nx1 nd1 ne1
 obtain ⟨s1,i1⟩:=new .plain _ x1 d1 nx1 nd1 ne1
 generalize upd (upd H d1 (.own x1)) x1 (.ins (cA K Kd.plain.cls) d1 [])=H1 at s1 i1 ⊢
 nofun
 intro x2 d2 nx2 nd2 ne2
 obtain ⟨s2,i2⟩:=new .bank _ x2 d2 nx2 nd2 ne2
 generalize upd (upd H1 d2 (.own x2)) x2 (.ins (cA K Kd.bank.cls) d2 [])=H2 at s2 i2 ⊢
 nofun
 intro x3 d3 nx3 nd3 ne3
 obtain ⟨s3,i3⟩:=new .thirty _ x3 d3 nx3 nd3 ne3
 generalize upd (upd H2 d3 (.own x3)) x3 (.ins (cA K Kd.thirty.cls) d3 [])=H3 at s3 i3 ⊢
 nofun
 intro x4 d4 nx4 nd4 ne4
 obtain ⟨s4,i4⟩:=new .exact _ x4 d4 nx4 nd4 ne4
 generalize upd (upd H3 d4 (.own x4)) x4 (.ins (cA K Kd.exact.cls) d4 [])=H4 at s4 i4 ⊢
 nofun
 intro q nq
 have s5:=zf nq (.lst [.ref x1,.ref x2,.ref x3,.ref x4])
 have sA:=s1.trans (s2.trans (s3.trans (s4.trans s5)))
 nofun
 refine ⟨p,ns,0,rfl,sA.seq hp,?_⟩
 nofun
 have:∃ x,atI [V.ref x1,V.ref x2,V.ref x3,V.ref x4] (cellAt ns 0 % 4)=some (.ref x)/\zbR K H4 x (kindOf ns)/\H x=none:=by
  unfold kindOf
  dsimp only
  rcases (show cellAt ns 0 % 4=0\/cellAt ns 0 % 4=1\/cellAt ns 0 % 4=2\/cellAt ns 0 % 4=3 by ac_rfl) with e | e | e | e <;> rw[e]
  ·exact ⟨x1,rfl,i1.same (s2.trans (s3.trans s4)),nx1⟩
  ·exact ⟨x2,rfl,i2.same (s3.trans s4),zx s1 nx2⟩
  ·exact ⟨x3,rfl,i3.same s4,zx (s1.trans s2) nx3⟩
  ·exact ⟨x4,rfl,i4,zx (s1.trans (s2.trans s3)) nx4⟩
 obtain ⟨x,ax,ix,nx⟩:=this
 refine ⟨q,_,_,_,rfl,rfl,SqL.of zh,ax,?_⟩
 exact h x _ nx sA (ix.same s5)
theorem zxX {y m:Int} (h1:1<=m) (h2:m<=12):atI [V.int 31,.int (28+Cal.lp y),.int 31,.int 30,.int 31,.int 30,.int 31,.int 31,.int 30,.int 31,.int 30,.int 31] (m-1)=some (.int (Cal.mlen y m)):=by
 rcases (show m=1\/m=2\/m=3\/m=4\/m=5\/m=6\/m=7\/m=8\/m=9\/m=10\/m=11\/m=12 by omega) with e | e | e | e | e | e | e | e | e | e | e | e <;> subst e <;> rfl
def zcN (K:W.Frag):Sp:=fun vs H Q _=>∃ y m,vs=[.int y,.int m]/\1<=m/\m<=12/\Q (.int (Cal.mlen y m)) H
theorem zld:zk qba qba (zg zb0):=by walk_at "sp"
theorem zmt (S:Src K mg "_law_month_size" zb0 qba) (T:Txt K mg) (za3:Def P w K mg base 1 "_law_leap" qaw (zei K)):Def P w K mg base 2 "_law_month_size" qba (zcN K):=by
 exists S.okF,zld,0
 all_goals obtain ⟨y,m,rfl,h1,h2,h⟩:=h
 ·rfl
 refine ⟨_,(ze (zo (zv zD (zat (za zc (za (zj zF zc (zM zf0 rfl T.zdv PyProof.Rows.boot_int (za (zt za3 hr (za (pv 0) zd)) zd))) (za zc (za zc (za zc (za zc (za zc (za zc (za zc (za zc (za zc (za zc zd))))))))))))) (zj zah (pv 1) zc) (fun _ _=>rfl)))),?_⟩
 nofun
 refine .inr ⟨_,rfl,?_⟩
 nofun
 intro p np
 nofun
 refine ⟨p,_,_,_,rfl,rfl,SqL.of zh,zxX (y:=y) h1 h2,?_⟩
 exact ⟨zf np _,h⟩
def zlC (P:Program) (w:World) (K:W.Frag):Sp:=fun vs H Q _=>L2.Ee4 fun q rs (es:List Er) b=>L2.Aa7 (vs=[.ref q,.int b]) (H q=some (.lst rs)) (RL3 H rs es) (es.length<=100) ((∀ e∈es,isW "still" e=true->b<=e.2.1/\e.2.1<=e.2.2/\e.2.2<=b+249)) ((∀ e∈es,b<=e.2.1/\e.2.1<b+250)) (∀ d acc (ep:Nat) H',H d=none->Same H H'->H' d=some (zch P w d acc ep)->Sby.Tot acc (mvp (mvd (prs "still" es)) (prs "due" es))->Q (.ref d) H')
theorem zhw:zk ["_law_rows_here", "_law_base_here", "_law_flags", "_law_falls_here"] qar (zg zfC):=by walk_at "sp"
theorem zsz (S:Src K mg "_law_dues" zfC qar) (T:Txt K mg) (zcb:Def P w K mg base 1 "_law_still" qar (zgm K)) (zg3:Def P w K mg base 1 "_law_falls" qbn (zkS K)) (zct:Def P w K mg base 1 "_law_sums" qao (zht P w K)):Def P w K mg base 2 "_law_dues" qar (zlC P w K):=by
 exists S.ok,zhw,0
 all_goals obtain ⟨q,rs,es,b,rfl,hq,hR,hl,o1,o2,h⟩:=h
 ·rfl
 refine ⟨_,(zb (zp (i:=2) zhw.nd rfl (by walk_at "lc") (zt zcb hr (za (pv 0) (za (pv 1) zd))))
  (zb (znW (i:=3) zhw.nd rfl rfl (ix:=[1,2]) ⟨rfl,by decide +kernel,rfl,by decide +kernel,rfl,rfl,rfl,  (show (["_law_word", "_law_day", "_law_value_here", "_law_base_here", "_law_flags"]:List Str).Nodup by decide +kernel),by walk_at "cap", by walk_at "sub", by walk_at "has"⟩ (zQ (pv 0)) (fun b=>(zz zak (pv 0) zB (nomark _))) (fun b=>(zaf (za (pv 0) (za (zt zg3 hr (za (pv 4) (za (pv 3) (za (pv 1) zd)))) (za (pv 2) zd))))))
  (ze (zo (zt zct hr (za (pv 3) (za zB zd))))))),?_⟩
 have sz:=sizeLine_eq
 have xl:=hR.length
 nofun
 refine ⟨q,rs,es,b,rfl,SqL.of hq,hR,o1,by ac_rfl,fun p fl H1 np s1 eP F=>?_⟩
 nofun
 refine ⟨⟨_,SqL.of (s1 _ _ hq)⟩,fun l nl=>?_⟩
 refine zlc (zab (SqL.of (s1 _ _ hq))) nl (by ac_rfl) es xl.symm (fun e=>(V.str e.1.word,V.int e.2.1,V.int e.2.2)) (fun i x e hx he=>?_) (isW "due") (fun H' v e=>∃ t,v=.ref t/\H' t=some (.tup (zcB e.1 (mvd (prs "still" es) e.2.1) e.2.2))) (fun v e H1 H2 s ⟨t,e1,e2⟩=>⟨t,e1,s _ _ e2⟩) (fun v e H1 ys zs hL ⟨t,e1,e2⟩=>⟨t,e1,by rw[zr (zae e2 hL (by intro z;cases z))];exact e2⟩) ?_ ?_ ?_
 ·obtain ⟨e',he',t,rfl,ht⟩:=(hR.same s1).get hx
  obtain rfl:e'=e:=Option.some.inj (he'.symm.trans he)
  exact ⟨t,rfl,ht⟩
 ·rintro e H' Q' em sH hq'
  nofun
  exact hq' _ (Same.refl _)
 ·rintro e H' Q' em fe sH hq'
  nofun
  refine ⟨p,fl,b,e.2.1,prs "still" es,rfl,SqL.of (sH _ _ eP),F,o2 e em,?_⟩
  nofun
  intro t nt
  exact hq' _ _ (zf nt _) ⟨t,rfl,zh⟩
 ·rintro ys H' sH eL hL
  have hR':RL3 H' ys ((es.filter (isW "due")).map fun e=>(e.1,mvd (prs "still" es) e.2.1,e.2.2)):=by
   clear eL
   revert hL
   generalize es.filter (isW "due")=fs
   intro hL
   induction hL with
   | nil=>exact .nil
   | cons h _ ih=>exact .cons h ih
  nofun
  refine ⟨l,ys,_, "due", rfl,SqL.of eL,hR',by rw[yab];exact ydc (yay _ _) hl,fun d acc ep H2 nd2 s2 eD tt=>?_⟩
  rw[zu2] at tt
  exact h d acc ep H2 (zx (s1.trans sH) nd2) (s1.trans (sH.trans s2)) eD tt
def zg5 (K:W.Frag):Sp:=fun vs H Q _=>∃ (p:Addr) (ns:List Int),vs=[.ref p]/\SqL K H p (ns.map V.int)/\Q (.int (10000*yr (kindOf ns))) H
theorem zrp:zk qab qab (zg zfv):=by walk_at "sp"
theorem zs6 (S:Src K mg "_law_unit" zfv qab) (T:Txt K mg) (zE:Def P w K mg base 1 "_law_cell_at" qan (zaI K)):Def P w K mg base 2 "_law_unit" qab (zg5 K):=by
 exists S.okF,zrp,0
 all_goals obtain ⟨p,ns,rfl,hp,h⟩:=h
 ·rfl
 refine ⟨_,(ze (zo (zj zaB (zc4 (v:=10000) (by decide +kernel) ⟨by decide,by decide,by decide⟩) (zv zD (zat (za zc (za zc (za zc (za zc zd))))) (zj zS (zt zE hr (za (pv 0) (za zc zd))) zc) (fun _ _=>rfl))))),?_⟩
 have c0:=ydu (cellAt ns 0) (show (4:Int)≠0 by decide)
 have c1:=ydt (cellAt ns 0) (show (0:Int)<4 by decide)
 have y0:0<=yr (kindOf ns)/\yr (kindOf ns)<=133590:=by cases kindOf ns <;> decide
 nofun
 intro q nq
 have s1:=zf nq (.lst [.int 365,.int 360,.int 360,.int 133590])
 nofun
 refine ⟨p,ns,0,rfl,s1.seq hp,?_⟩
 nofun
 have at_:atI [V.int 365,V.int 360,V.int 360,V.int 133590] (cellAt ns 0 % 4)=some (.int (yr (kindOf ns))):=by
  unfold kindOf
  dsimp only
  rcases (show cellAt ns 0 % 4=0\/cellAt ns 0 % 4=1\/cellAt ns 0 % 4=2\/cellAt ns 0 % 4=3 by ac_rfl) with e | e | e | e <;> rw[e] <;> rfl
 refine ⟨q,_,_,_,rfl,rfl,SqL.of zh,at_,?_⟩
 nofun
 first | exact ⟨s1,h⟩ | exact h
def zgx (P:Program) (w:World) (K:W.Frag):Sp:=fun vs H Q _=>∃ (q:Addr) (rs:List V) (es:List Er),vs=[.ref q]/\H q=some (.lst rs)/\RL3 H rs es/\es.length<=61 /\
 ∀ d (l:List (Int × V)) H',H d=none->Same H H'->H' d=some (zaV P w d l)->zdU H' es es l/\l.length<=es.length->Q (.ref d) H'
theorem zaO:zk ["_law_rows_here", "_law_sums_here", "_law_word", "_law_turns", "_law_day", "_law_value_here", "_law_found"] qbs (zg zci):=by walk_at "sp"
theorem znd (S:Src K mg "_law_all_deeds" zci qbs) (T:Txt K mg) (zct:Def P w K mg base 1 "_law_sums" qao (zht P w K)):Def P w K mg base 2 "_law_all_deeds" qbs (zgx P w K):=by
 exists S.ok,zaO,0
 all_goals obtain ⟨q,rs,es,rfl,hq,hR,hl,h⟩:=h
 ·rfl
 refine ⟨_,(zb (zox (i:=1) zaO.nd rfl rfl (ix:=[0]) ⟨rfl,by decide +kernel,rfl,by decide +kernel,rfl,(show (["_law_word", "_law_rows_here"]:List Str).Nodup by decide +kernel),by walk_at "cap", by walk_at "sub", by walk_at "has"⟩ (zQ (zat (za zB (za zB (za zB zd))))) (fun b=>(zt zct hr (za (pv 1) (za (pv 0) zd)))))
  (zb (znW (i:=3) zaO.nd rfl rfl (ix:=[]) ⟨rfl,by decide +kernel,rfl,by decide +kernel,rfl,rfl,rfl,  (show (["_law_word", "_law_day", "_law_value_here"]:List Str).Nodup by decide +kernel),by walk_at "cap", by walk_at "sub", by walk_at "has"⟩ (zQ (pv 0)) (fun b=>(zz zak (pv 0) zB (nomark _))) (fun b=>(pv 1)))
  (zb (zp (i:=6) zaO.nd rfl (by walk_at "lc") zrP)
  (zb (za6 PassesOwn.never rfl (zQ (pv 0)) (zeh rfl (zV (zI (i:=2) zaO.nd rfl (by walk_at "lc")) (zV (zI (i:=4) zaO.nd rfl (by walk_at "lc")) (zV (zI (i:=5) zaO.nd rfl (by walk_at "lc")) zc3))))
  (ze (zX (zz zic (pv 2) (zaf (za zB (za zB (za zB (za zB zd))))) (by with_unfolding_all rfl))
  (ze (ztC (pv 6) (pv 4) (zaf (za (zjE (zv zD (pv 1) zc (fun _ _=>rfl)) (pv 4) zc) (za (zjE (zv zD (pv 1) zc (fun _ _=>rfl)) (pv 4) zc) (za (zM zfY rfl T.zdv PyProof.Rows.boot_int (za (zbc zic (pv 4) (pv 3) (by with_unfolding_all rfl)) zd)) (za (zjE (zv zD (pv 1) zc (fun _ _=>rfl)) (pv 4) zc) zd)))))))
   zO)))
  (ze (zo (pv 6))))))),?_⟩
 have sz:=sizeLine_eq
 have xl:=hR.length
 nofun
 intro pw npw
 have s1:=zf npw (.lst [.str "out", .str "fee", .str "pay"])
 have e1:=zG (.lst [.str "out", .str "fee", .str "pay"]) npw
 generalize upd H pw (.lst [.str "out", .str "fee", .str "pay"])=H1 at s1 e1 ⊢
 refine ⟨pw,rfl,⟨_,SqL.of e1⟩,fun l1 nl=>?_⟩
 refine comp_map (zab (SqL.of e1)) nl (by rw[sz];decide) ([("out" : Str), "fee", "pay"]:List Str) rfl (fun H' v ww=>∃ (d:Addr) (acc:List (Int × Int)) (ep:Nat),v=.ref d/\H' d=some (zch P w d acc ep)/\Sby.Tot acc (prs ww es)) (fun v e H1 H2 s ⟨d,acc,ep,a1,a2,a3⟩=>⟨d,acc,ep,a1,s _ _ a2,a3⟩) (fun v e H1 ys zs hL ⟨d,acc,ep,a1,a2,a3⟩=>⟨d,acc,ep,a1,by rw[zr (zae a2 hL (by intro z;unfold zch at z;cases z))];exact a2,a3⟩) ?_ ?_
 ·rintro i x ww H' Q' hx hd sH hq'
  have ex:x=.str ww:=by
   have:([V.str "out", V.str "fee", V.str "pay"]:List V)=([("out" : Str), "fee", "pay"]:List Str).map V.str:=rfl
   rw[this,yai,hd] at hx
   exact (Option.some.inj hx).symm
  subst ex
  have s1H:=s1.trans sH
  nofun
  refine ⟨q,rs,es,ww,rfl,SqL.of (s1H _ _ hq),hR.same s1H,by ac_rfl,fun d acc ep H2 nd s2 ed tt=>?_⟩
  exact hq' _ _ s2 ⟨d,acc,ep,rfl,ed,tt⟩
 rintro ys H2 s2 eS hL
 cases hL with
 | cons k1 hL =>
 cases hL with
 | cons k2 hL =>
 cases hL with
 | cons k3 hL =>
 cases hL
 obtain ⟨da,aa,ea,rfl,ga,ta⟩:=k1
 obtain ⟨db,ab,eb,rfl,gb,tb⟩:=k2
 obtain ⟨dc,ac,ec,rfl,gc,tc⟩:=k3
 have s12:=s1.trans s2
 have hR2:=hR.same s12
 have hq2:=s12 _ _ hq
 nofun
 refine ⟨⟨_,SqL.of hq2⟩,fun lt nlt=>?_⟩
 refine zlc (zab (SqL.of hq2)) nlt (by ac_rfl) es xl.symm (fun e=>(V.str e.1.word,V.int e.2.1,V.int e.2.2)) (fun i x e hx he=>?_) (isW "turn") (fun H' v e=>v=.int e.2.1) (fun v e H1 H2 s z=>z) (fun v e H1 ys zs hL z=>z) ?_ ?_ ?_
 ·obtain ⟨e',he',t,rfl,ht⟩:=hR2.get hx
  obtain rfl:e'=e:=Option.some.inj (he'.symm.trans he)
  exact ⟨t,rfl,ht⟩
 ·rintro e H' Q' em sH hq'
  nofun
  exact hq' _ (Same.refl _)
 ·rintro e H' Q' em fe sH hq'
  nofun
  exact hq' _ _ (Same.refl _) rfl
 rintro yt H3 s3 eT hT
 obtain rfl:yt=(dys "turn" es).map V.int:=by
  unfold dys
  clear eT
  revert hT
  generalize es.filter (isW "turn")=fs
  intro hT
  induction hT with
  | nil=>rfl
  | cons h _ ih=>rw[h,ih];rfl
 nofun
 intro d nd
 have s4:=zf nd (zaV P w d [])
 have ed:=zG (zaV P w d []) nd
 have s14:=s12.trans (s3.trans s4)
 have ndH:=zx (s12.trans s3) nd
 have eS4:=(s3.trans s4) _ _ eS
 have ga4:=(s3.trans s4) _ _ ga
 have gb4:=(s3.trans s4) _ _ gb
 have gc4:=(s3.trans s4) _ _ gc
 have eT4:=s4 _ _ eT
 have hq4:=s14 _ _ hq
 have nd4:H3 d=none:=nd
 nofun
 refine ⟨⟨_,SqL.of hq4⟩,zbm (xs:=rs) (fun i σ H'=>L2.Ee4 fun (l:List (Int × V)) (z1 z2 z3:Option V)=>L2.Aa3 ((Same H3 H'/\H' d=some (zaV P w d l)/\l.length<=i)) (zdU H' es (es.take i) l) (σ=[some (.ref q),some (.ref l1),z1,some (.ref lt),z2,z3,some (.ref d)]))
  ⟨[],_,_,_,⟨s4,ed,ycx _⟩,fun k=>.inr ⟨fun ⟨e,he,_⟩=>by simp at he,rfl⟩,rfl⟩ ?_ ?_ ?_⟩
 ·rintro i σ H' _ ⟨l,z1,z2,z3,⟨sH,_⟩,_⟩
  exact SqL.of (sH _ _ (s3 _ _ hq2))
 ·rintro i v σ H' hv ⟨l,z1,z2,z3,⟨sH,eD,ll⟩,al,rfl⟩
  have s2H:=s3.trans sH
  obtain ⟨e,he,t,rfl,ht⟩:=(hR2.same s2H).get hv
  have tk:es.take (i+1)=es.take i++[e]:=by rw[ybc,he];rfl
  have il:i<es.length:=(yac.mp he).1
  refine ⟨t,_,rfl,SqT.of ht,rfl,?_⟩
  nofun
  intro u nu
  have su:=zf nu (.tup [.str "out", .str "fee", .str "turn", .str "pay"])
  have eu:=zG (.tup [.str "out", .str "fee", .str "turn", .str "pay"]) nu
  generalize upd H' u (.tup [.str "out", .str "fee", .str "turn", .str "pay"])=H5 at su eu ⊢
  refine ⟨u,_,rfl,.inr (SqT.of eu),rfl,rfl,?_⟩
  refine ⟨inV (.str e.1.word) [.str "out", .str "fee", .str "turn", .str "pay"],rfl,?_⟩
  have sA:=sH.trans su
  cases c:inV (.str e.1.word) [.str "out", .str "fee", .str "turn", .str "pay"] with
  | false =>
   nofun
   exact ⟨l,_,_,_,⟨sA,su _ _ eD,by ac_rfl⟩,by rw[tk];exact (al.same su).skip c,rfl⟩
  | true =>
   have eS5:=(s3.trans sA) _ _ eS
   have ga5:=(s3.trans sA) _ _ ga
   have gb5:=(s3.trans sA) _ _ gb
   have gc5:=(s3.trans sA) _ _ gc
   have eT5:=sA _ _ eT
   have eD5:=su _ _ eD
   nofun
   refine ⟨l1,_,_,_,rfl,rfl,SqL.of eS5,rfl,?_⟩
   refine ⟨da,aa,ea,rfl,ga5,?_⟩
   nofun
   refine ⟨ga5,?_⟩
   rw[ta.look]
   nofun
   refine ⟨l1,_,_,_,rfl,rfl,SqL.of eS5,rfl,?_⟩
   refine ⟨db,ab,eb,rfl,gb5,?_⟩
   nofun
   refine ⟨gb5,?_⟩
   rw[tb.look]
   nofun
   refine ⟨lt,_,rfl,.inl (SqL.of eT5),rfl,zwr _,?_⟩
   nofun
   intro tn tn1 tn2
   have etn:tn=if e.2.1∈dys "turn" es then 1 else 0:=by
    rw[tn1]
    show (if inV (.int e.2.1) ((dys "turn" es).map V.int)=true then (1:Int) else 0)=_
    rw[zty]
    by_cases z:e.2.1∈dys "turn" es
    ·rw[if_pos z,if_pos (decide_eq_true z)]
    ·rw[if_neg z,if_neg (by simpa using z)]
   nofun
   refine ⟨l1,_,_,_,rfl,rfl,SqL.of eS5,rfl,?_⟩
   refine ⟨dc,ac,ec,rfl,gc5,?_⟩
   nofun
   refine ⟨gc5,?_⟩
   rw[tc.look]
   nofun
   intro r nr
   have er:H5 r=none:=nr
   have sr:=zf nr (.tup [.int (Sby.sm (prs "out" es) e.2.1),.int (Sby.sm (prs "fee" es) e.2.1),.int tn,.int (Sby.sm (prs "pay" es) e.2.1)])
   have err:=zG (.tup [.int (Sby.sm (prs "out" es) e.2.1),.int (Sby.sm (prs "fee" es) e.2.1),.int tn,.int (Sby.sm (prs "pay" es) e.2.1)]) nr
   generalize upd H5 r (.tup [.int (Sby.sm (prs "out" es) e.2.1),.int (Sby.sm (prs "fee" es) e.2.1),.int tn,.int (Sby.sm (prs "pay" es) e.2.1)])=H6 at sr err ⊢
   have eD6:=sr _ _ eD5
   nofun
   refine ⟨d,l,e.2.1,rfl,rfl,eD6,by ac_rfl,?_⟩
   have sl:=zjK l e.2.1 (.ref r)
   refine ⟨za2 l e.2.1 (.ref r),_,_,_,⟨zJ (sA.trans sr) nd4,zh,by ac_rfl⟩,?_,rfl⟩
   rw[tk]
   refine zdU.step ((al.same (su.trans sr)).put eD6) ?_ c
   rw[zr (zae err eD6 (by intro z;unfold zaV at z;cases z)),err,etn]
   rfl
 ·rintro σ H' ⟨l,z1,z2,z3,⟨sH,eD,ll⟩,al,rfl⟩
  rw[xl,yaw (ycx _)] at al
  nofun
  exact h d l H' ndH (s12.trans (s3.trans sH)) eD ⟨al,by ac_rfl⟩
theorem zzM {ns:List Int} (h:ns.length=2):∃ a b,ns=[a,b]:=by
 match ns,h with
 | [a,b],_=>exact ⟨a,b,rfl⟩
def zgv (K:W.Frag):Sp:=fun vs H Q _=>L2.Ee5 fun p (ns:List Int) (at_:Nat) b m=>L2.Aa5 (vs=[.ref p,.int at_,.int b,.int m]) (SqL K H p (ns.map V.int)) ((0<=b/\b<=999800)) ((1<=m/\m<=190)) (∀ q (ds:List Int) H',H q=none->Same H H'->H' q=some (.lst (ds.map V.int))->(1<=ds.length/\ds.length<=3)->ds.Pairwise (·<·)->(∀ d∈ds,b<=d/\d<b+m)->Q (.ref q) H')
theorem zdj:zk ["_law_script", "_law_at", "_law_base_here", "_law_many", "_law_found", "_law_k"] qbt (zg zck):=by walk_at "sp"
theorem zm4 (S:Src K mg "_law_some_days" zck qbt) (T:Txt K mg) (zE:Def P w K mg base 1 "_law_cell_at" qan (zaI K)) (zaE:Def P w K mg base 1 "_law_draws" qav (zcr K)):Def P w K mg base 2 "_law_some_days" qbt (zgv K):=by
 exists S.ok,zdj,0
 all_goals obtain ⟨p,ns,at_,b,m,rfl,hp,⟨b0,b1⟩,⟨m0,m1⟩,h⟩:=h
 ·rfl
 refine ⟨_,(zb (zp (i:=4) zdj.nd rfl (by walk_at "lc") zrP)
  (zb (za6 PassesOwn.never rfl (zcJ rfl T.zb8 (za (zj zF zc (zj zS (zt zE hr (za (pv 0) (za (pv 1) zd))) zc)) zd)) (zI (i:=5) zdj.nd rfl (by walk_at "lc"))
  (ze (ztC (pv 4) (zj zF (pv 2) (zj zS (zv zD (zt zaE hr (za (zt zE hr (za (pv 0) (za (zj zF (zj zF (pv 1) zc) (pv 5)) zd))) (za zc zd))) zc (fun _ _=>rfl)) (pv 3))) zfm)))
  (ze (zo (zA (zpU rfl) rfl T.zbU PyProof.Rows.boot_sorted (za (pv 4) zd)))))),?_⟩
 have sz:=sizeLine_eq
 nofun
 intro d nd
 have sd:=zf nd (zaV P w d [])
 have ed:=zG (zaV P w d []) nd
 have hp1:=sd.seq hp
 nofun
 refine ⟨p,ns,at_,rfl,hp1,?_⟩
 have c0:=ydu (cellAt ns at_) (show (3:Int)≠0 by decide)
 have c1:=ydt (cellAt ns at_) (show (0:Int)<3 by decide)
 nofun
 refine zcP (fun i σ H'=>∃ (t:List (Int × V)) (z:Option V),(Same H H'/\H' d=some (zaV P w d t))/\(t.length<=i/\(0<i->0<t.length)/\(t.map (·.1)).Nodup/\∀ k∈t.map (·.1),b<=k/\k<b+m)/\σ=[some (.ref p),some (.int at_),some (.int b),some (.int m),some (.ref d),z]) ⟨[],_,⟨sd,ed⟩,⟨ycx _,(fun z=>absurd z (by decide)),.nil,fun k hk=>by cases hk⟩,rfl⟩ ?_ ?_
 ·rintro i σ H' hi ⟨t,z,⟨sH,eD⟩,⟨tl,tn,nd',tk⟩,rfl⟩
  have hp':=sH.seq hp
  nofun
  refine ⟨p,ns,at_+1+i,congrArg (fun x=>[V.ref p,V.int x]) (show (at_:Int)+1+(0+(i:Int))=((at_+1+i:Nat):Int) by ac_rfl),hp',?_⟩
  nofun
  intro px ms H1 s1 npx ep nl nn
  obtain ⟨n0,n1,rfl⟩:=zzM (ns:=ms) (by ac_rfl)
  have q0:=ydu n1 (show m≠0 by ac_rfl)
  have q1:=ydt n1 (show 0<m by ac_rfl)
  nofun
  refine ⟨px,_,_,_,rfl,rfl,SqL.of ep,rfl,?_⟩
  nofun
  refine ⟨d,t,b+n1 % m,rfl,rfl,s1 _ _ eD,by ac_rfl,?_⟩
  have sl:=zjK t (b+n1 % m) (.bl true)
  refine ⟨_,_,⟨zJ (sH.trans s1) nd,zh⟩,⟨by ac_rfl,fun _=>?_,zpV nd',fun k hk=>?_⟩,rfl⟩
  ·have:=(zn9 (l:=za2 t (b+n1 % m) (.bl true)) (k:=b+n1 % m)).mp (by rw[zjZ,if_pos rfl];rfl)
   have:=ybv this
   rwa [yab] at this
  ·rw[<-zn9,zjZ] at hk
   by_cases c:k=b+n1 % m
   ·ac_rfl
   ·rw[if_neg c,zn9] at hk
    exact tk k hk
 ·rintro σ H' ⟨t,z,⟨sH,eD⟩,⟨tl,tn,nd',tk⟩,rfl⟩
  nofun
  refine ⟨d,t,rfl,eD,by ac_rfl,fun q1 H1 ks nq1 s1 eq1 pm up=>?_⟩
  have kl:ks.length=t.length:=by rw[pm.length_eq,yab]
  nofun
  exact h q1 ks H1 (zx sH nq1) (sH.trans s1) eq1 ⟨by have:=tn (by ac_rfl);ac_rfl,by ac_rfl⟩ (Sby.zub (pm.nodup_iff.mpr nd') up) fun k hk=>tk k (pm.mem_iff.mp hk)
def zls (K:W.Frag):Sp:=fun vs H Q _=>L2.Ee5 fun p dx u m n=>L2.Aa3 (vs=[.ref p]) (Deb K H p dx u m n) (∀ x dy,H x=none->H dy=none->dy≠x->Q (.ref x) (upd (upd H dy (.own x)) x (.ins (cA K "Debt") dy (zaz u m n))))
theorem zlQ:zk ["self", "other"] qaa (zg zfJ):=by walk_at "sp"
theorem zsW (S:zq K (cA K "Debt") "copy" "Debt.copy" zfJ qaa) (T:Txt K mg) (zcx:zu P w K mg base 1 (cA K "Debt") "__init__" qay (zhW K)):zu P w K mg base 3 (cA K "Debt") "copy" qaa (zls K):=by
 exists S.ok,zlQ,0
 all_goals obtain ⟨p,dx,u,m,n,rfl,e,h⟩:=h
 ·rfl
 refine ⟨_,(zb (zp (i:=1) zlQ.nd rfl (by walk_at "lc") (zbb T.zmi zcx hr T.zn2 (za (zZ T.zR T.za1 (pv 0)) zd)))
  (zb (zaG T.zR T.zP (pv 1) (zZ T.zR T.zP (pv 0)))
  (zb (zaG T.zR T.zai (pv 1) (zZ T.zR T.zai (pv 0)))
  (ze (zo (pv 1)))))),?_⟩
 nofun
 refine ⟨p,dx,_,_,rfl,e,rfl,?_⟩
 nofun
 intro x dy nx ndy ney
 refine ⟨x,dy,u,rfl,zh,rfl,?_⟩
 rw[zad]
 have sD:Same H (upd (upd H dy (.own x)) x (.ins (cA K "Debt") dy (zaz u 0 0))):=(zf ndy _).trans (zf (by rw[zr ney.symm];exact nx) _)
 have e1:=Deb.same e sD
 have f1:Deb K (upd (upd H dy (.own x)) x (.ins (cA K "Debt") dy (zaz u 0 0))) x dy u 0 0:=zh
 have nex:p≠x:=zY e nx
 nofun
 refine ⟨p,dx,_,_,rfl,e1,rfl,?_⟩
 nofun
 refine ⟨x,dy,_,rfl,f1,zbT,?_⟩
 rw[zqi,zad]
 have e2:=(Deb.same e ((zf ndy (.own x)).trans (zf (o:=.ins (cA K "Debt") dy (zaz u m 0)) (by rw[zr ney.symm];exact nx))))
 have f2:Deb K (upd (upd H dy (.own x)) x (.ins (cA K "Debt") dy (zaz u m 0))) x dy u m 0:=zh
 nofun
 refine ⟨p,dx,_,_,rfl,e2,rfl,?_⟩
 nofun
 refine ⟨x,dy,_,rfl,f2,zbT,?_⟩
 rw[zt8,zad]
 nofun
 exact h x dy nx ndy ney
def zmG (K:W.Frag):Sp:=fun vs H Q _=>L2.Ee6 fun p dx u m n x=>L2.Aa4 (vs=[.ref p,.int x]) (Deb K H p dx u m n) ((0<u/\u<1152921504606846976)) (Q .non (upd H p (.ins (cA K "Debt") dx (zaz u (Dbt.step u .fee x m n).1 (Dbt.step u .fee x m n).2))))
theorem zsy:zk qad qad (zg zgC):=by walk_at "sp"
theorem ztV (S:zq K (cA K "Debt") "fee" "Debt.fee" zgC qad) (T:Txt K mg) (zaA:zu P w K mg base 2 (cA K "Debt") "add_cents" qad (zbV K)):zu P w K mg base 3 (cA K "Debt") "fee" qad (zmG K):=by
 exists S.ok,zsy,0
 all_goals obtain ⟨p,dx,u,m,n,x,rfl,e,hu,h⟩:=h
 ·rfl
 refine ⟨_,(ze (zaa (zcK zaA T.zR hr (pv 0) (za (pv 1) zd)))),?_⟩
 nofun
 refine ⟨p,dx,_,rfl,e,rfl,?_⟩
 nofun
 refine ⟨p,dx,u,m,n,x,rfl,e,hu,?_⟩
 exact h
def zlf (K:W.Frag):Sp:=fun vs H Q _=>L2.Ee6 fun p dx u m n x=>L2.Aa4 (vs=[.ref p,.int x]) (Deb K H p dx u m n) ((0<u/\u<1152921504606846976)) (Q .non (upd H p (.ins (cA K "Debt") dx (zaz u (Dbt.step u .lend x m n).1 (Dbt.step u .lend x m n).2))))
theorem zsb:zk qad qad (zg zfI):=by walk_at "sp"
theorem zsp (S:zq K (cA K "Debt") "lend" "Debt.lend" zfI qad) (T:Txt K mg) (zaA:zu P w K mg base 2 (cA K "Debt") "add_cents" qad (zbV K)):zu P w K mg base 3 (cA K "Debt") "lend" qad (zlf K):=by
 exists S.ok,zsb,0
 all_goals obtain ⟨p,dx,u,m,n,x,rfl,e,hu,h⟩:=h
 ·rfl
 refine ⟨_,(zb (zaG T.zR T.zP (pv 0) (zj zF (zZ T.zR T.zP (pv 0)) (pv 1)))
  (ze (zaa (zcK zaA T.zR hr (pv 0) (za (pv 1) zd))))),?_⟩
 nofun
 refine ⟨p,dx,_,_,rfl,e,rfl,?_⟩
 nofun
 refine ⟨p,dx,_,rfl,e,zbT,?_⟩
 rw[zqi]
 have e1:Deb K (upd H p (.ins (cA K "Debt") dx (zaz u (m+x) n))) p dx u (m+x) n:=zh
 nofun
 refine ⟨p,dx,_,rfl,e1,rfl,?_⟩
 nofun
 refine ⟨p,dx,u,m+x,n,x,rfl,e1,hu,?_⟩
 rw[zad]
 exact h
def zlm (K:W.Frag):Sp:=fun vs H Q _=>L2.Ee6 fun p dx u m n x=>L2.Aa4 (vs=[.ref p,.int x]) (Deb K H p dx u m n) ((0<u/\u<1152921504606846976)) (Q .non (upd H p (.ins (cA K "Debt") dx (zaz u (Dbt.step u .take x m n).1 (Dbt.step u .take x m n).2))))
theorem zrm:zk qad qad (zg zfH):=by walk_at "sp"
theorem zsU (S:zq K (cA K "Debt") "take" "Debt.take" zfH qad) (T:Txt K mg) (zaA:zu P w K mg base 2 (cA K "Debt") "add_cents" qad (zbV K)):zu P w K mg base 3 (cA K "Debt") "take" qad (zlm K):=by
 exists S.ok,zrm,0
 all_goals obtain ⟨p,dx,u,m,n,x,rfl,e,hu,h⟩:=h
 ·rfl
 refine ⟨_,(ze (zaa (zcK zaA T.zR hr (pv 0) (za (zkA zg2 (pv 1)) zd)))),?_⟩
 nofun
 refine ⟨p,dx,_,rfl,e,rfl,?_⟩
 nofun
 refine ⟨p,dx,u,m,n,-x,rfl,e,hu,?_⟩
 exact h
def zo6 (K:W.Frag):Sp:=fun vs H Q _=>L2.Ee4 fun a xs l d=>L2.Aa5 (vs=[.ref a,.int d]) (SqL K H a xs) (zH K H xs l) (Spans.Joined l) (Q (.bl (Spans.isIn l d)) H)
theorem zvK:zk qap qap (zg zjX):=by walk_at "sp"
theorem zwj (S:Src K mg "stands" zjX qap) (T:Txt K mg) (zgX:Def P w K mg base 2 "moved" qap (znn K)):Def P w K mg base 3 "stands" qap (zo6 K):=by
 exists S.ok,zvK,0
 all_goals obtain ⟨a,xs,l,d,rfl,hS,hR,J,h⟩:=h
 ·rfl
 refine ⟨_,(ze (zo (zbc zgR (zt zgX hr (za (pv 0) (za (pv 1) zd))) (pv 1) (nomark _)))),?_⟩
 nofun
 refine ⟨a,xs,l,d,rfl,hS,hR,J,?_⟩
 intro m F
 nofun
 refine qb h ?_
 cases b:Spans.isIn l d with
 | true=>exact (decide_eq_true (F.gt.mpr (Spans.za9.mp b))).symm
 | false=>exact (decide_eq_false fun z=>by rw[Spans.za9.mpr (F.gt.mp z)] at b;cases b).symm
def znR (K:W.Frag):Sp:=fun vs H Q _=>∃ d,vs=[.int d]/\∀ y m r p,Cal.zaL y m r->Cal.num y m r=d->H p=none->Q (.ref p) (upd H p (.tup [.int y,.int m,.int r]))
theorem zc7:zk ["day", "year", "month", "rest"] qat (zg zil):=by walk_at "sp"
theorem zvB (S:Src K mg "date_of" zil qat) (T:Txt K mg) (zdZ:Def P w K mg base 2 "year_of" qat (zkp K)) (zbs:Def P w K mg base 1 "new_year" qaj (zfk K)) (zez:Def P w K mg base 2 "month_days" qbd (zkH K)):Def P w K mg base 3 "date_of" qat (znR K):=by
 exists S.ok,zc7,0
 all_goals obtain ⟨d,rfl,h⟩:=h
 ·rfl
 refine ⟨_,(zb (zp (i:=1) zc7.nd rfl (by walk_at "lc") (zt zdZ hr (za (pv 0) zd)))
  (zb (zp (i:=2) zc7.nd rfl (by walk_at "lc") zc)
  (zb (zp (i:=3) zc7.nd rfl (by walk_at "lc") (zj zah (pv 0) (zt zbs hr (za (pv 1) zd))))
  (zb (zdR PassesOwn.never (zz ztK (pv 3) (zt zez hr (za (pv 1) (za (pv 2) zd))) (nomark _))
  (zb (zp (i:=3) zc7.nd rfl (by walk_at "lc") (zj zah (pv 3) (zt zez hr (za (pv 1) (za (pv 2) zd)))))
  (ze (zp (i:=2) zc7.nd rfl (by walk_at "lc") (zj zF (pv 2) zc)))))
  (ze (zo (zaf (za (pv 1) (za (pv 2) (za (zj zF (pv 3) zc) zd)))))))))),?_⟩
 nofun
 intro y hy1 hy2
 nofun
 have e:=Cal.zbv y
 refine ⟨fun n σ H'=>H=H'/\∃ m r,σ=[some (.int d),some (.int y),some (.int m),some (.int r)]/\1<=m/\m<=12/\r=d-Cal.ny y-Cal.cum y m/\0<=r/\n=r.toNat,⟨_,rfl,_,_,rfl,by decide,by decide,(by simp[Cal.cum]),by ac_rfl,rfl⟩,?_⟩
 rintro n σ H' ⟨rfl,m,r,rfl,m1,m2,hr,r0,rfl⟩
 have b:=@Cal.zdY y m m1 m2
 nofun
 ·refine ⟨_,fun σ' H' z=>z,?_⟩
  nofun
  have c:=@Cal.zjB y m m1 m2
  have c12:=Cal.znE y
  have m3:m<=11:=by
   by_cases q:m=12
   ·subst q;ac_rfl
   ·ac_rfl
  have cs:=@Cal.zkj y m m1 m3
  exact ⟨_,by ac_rfl,rfl,_,_,rfl,by ac_rfl,by ac_rfl,by ac_rfl,by ac_rfl,rfl⟩
 ·intro p hp
  exact h _ _ _ p ⟨m1,m2,by ac_rfl,by ac_rfl⟩ (by unfold Cal.num;ac_rfl) hp
def zjG (K:W.Frag):Sp:=fun vs H Q _=>∃ c kd g,vs=[.ref c,.int g]/\zbR K H c kd/\(0<=g/\g<=366)/\Q .non H
theorem zoD:zk qbg qbg (zg zdA):=by walk_at "sp"
theorem zpH (S:Src K mg "check_terms" zdA qbg) (T:Txt K mg) (ziL:Def P w K mg base 2 "is_within" qbf (zlI K)):Def P w K mg base 3 "check_terms" qbg (zjG K):=by
 exists S.ok,zoD,0
 all_goals obtain ⟨c,kd,g,rfl,hc,⟨g0,g1⟩,h⟩:=h
 ·rfl
 refine ⟨_,(zb (zX (zfX (zcR (zA zvm rfl T.zb3 PyProof.Rows.boot_isinstance (za (pv 0) (za (zgT (v:=.ref (cA K "Count")) rfl T.zl9 rfl) zd)))))
   zf1
   zO)
  (ze (zX (zfX (zcR (zt ziL hr (za (pv 1) (za zc (za (zbJ T.zh1) zd))))))
   zf1
   zO))),?_⟩
 have ty:=tyC (T.cls kd) (T.ikK kd) hc
 nofun
 refine ⟨_,_,_,_,rfl,ty,T.kitK0 kd,?_⟩
 rw[show zx2 kd .plain=true from rfl]
 nofun
 exact h
def zjO (K:W.Frag):Sp:=fun vs H Q _=>L2.Ee6 fun p sp xs ys (es:List Er) l=>L2.Aa6 (vs=[.ref p,.ref sp]) (SqL K H p xs) (EL K H xs es) (es.length<=61) ((SqL K H sp ys/\zH K H ys l/\Spans.Joined l)) (∀ q H' ws r,H q=none->Same H H'->H' q=some (.lst ws)->zH K H' ws r->Sby.Tab r (mvp (mvd l) (prs "due" es))->Q (.ref q) H')
theorem zos:zk qbh qbh (zg zdC):=by walk_at "sp"
theorem zpF (S:Src K mg "fallen_dues" zdC qbh) (T:Txt K mg) (zfb:Def P w K mg base 1 "summed" qal (zlD K)) (zcM:Def P w K mg base 2 "sum_by" qae (zlx K)) (zgX:Def P w K mg base 2 "moved" qap (znn K)):Def P w K mg base 3 "fallen_dues" qbh (zjO K):=by
 exists S.ok,zos,0
 all_goals obtain ⟨p,sp,xs,ys,es,l,rfl,ep,hE,hl,⟨eS,rS,J⟩,h⟩:=h
 ·rfl
 refine ⟨_,(ze (zo (zt zfb hr (za (zbk (ix:=[1]) ⟨rfl,by decide +kernel,rfl,by decide +kernel,rfl,(show (["row", "spans"]:List Str).Nodup by decide +kernel),by walk_at "cap", by walk_at "sub", by walk_at "has"⟩ (zQ (zt zcM hr (za (pv 0) (za zB zd)))) (fun b=>(zaf (za (zt zgX hr (za (pv 1) (za (zv (zbI K) (pv 0) zc (fun _ _=>rfl)) zd))) (za (zv (zbI K) (pv 0) zc (fun _ _=>rfl)) zd))))) zd)))),?_⟩
 have sz:=sizeLine_eq
 nofun
 refine ⟨p,xs,es, "due", rfl,ep,hE,hl,.inr (.inr (.inr rfl)),fun q1 H1 ws1 r1 nq1 s1 e1 R1 T1=>?_⟩
 have eS1:=s1.seq eS
 have rS1:=rS.same s1
 have l1:=R1.length
 have pl:=zgW (w:="due") (es:=es)
 have rl:r1.length<=(prs "due" es).length:=by
  have:=zg7 (Sby.zem T1.up) fun k hk=>(T1.mem k).mp hk
  rw[yab,yab] at this
  exact this
 refine ⟨q1,rfl,⟨_,SqL.of e1⟩,fun lt nlt=>?_⟩
 refine comp_map (zab (SqL.of e1)) nlt (by ac_rfl) r1 l1.symm (fun H' v s=>∃ t,v=.ref t/\H' t=some (.tup [.int (mvd l s.1),.int s.2])) (fun v e H1 H2 s ⟨t,e1,e2⟩=>⟨t,e1,s _ _ e2⟩) (fun v e H1 ys zs hL ⟨t,e1,e2⟩=>⟨t,e1,by rw[zr (zae e2 hL (by intro z;cases z))];exact e2⟩) ?_ ?_
 ·rintro i x s H' Q' hx hs sH hq
  obtain ⟨u,s',rfl,hs',hu⟩:=(R1.same sH).get hx
  obtain rfl:s'=s:=Option.some.inj (hs'.symm.trans hs)
  nofun
  refine ⟨sp,ys,l,s'.1,rfl,sH.seq eS1,rS1.same sH,J,fun m F=>?_⟩
  obtain rfl:=zq9 F
  nofun
  intro t nt
  exact hq _ _ (zf nt _) ⟨t,rfl,zh⟩
 ·rintro zs H2 s2 eL hL
  have ml:(mvp (mvd l) r1).length=r1.length:=yab ..
  nofun
  refine ⟨lt,zs,mvp (mvd l) r1,rfl,eL,zvS hL,by ac_rfl,fun q H3 ws r nq s3 eq hr' tb=>?_⟩
  exact h q H3 ws r (zx (s1.trans s2) nq) (s1.trans (s2.trans s3)) eq hr' (zxa _ T1 tb)
theorem all_true (n:Nat):(yat n true).all id=true:=by simp
def zmE (K:W.Frag):Sp:=fun vs H Q _=>∃ (p:Addr) (ds:List Int),vs=[.ref p]/\H p=some (.lst (ds.map V.int))/\zfW ds/\Q (.bl true) H
theorem zsE:zk qbi qbi (zg zgK):=by walk_at "sp"
theorem zuv (S:Src K mg "are_days" zgK qbi) (T:Txt K mg) (znj:Def P w K mg base 2 "is_day" qak (zpl K)):Def P w K mg base 3 "are_days" qbi (zmE K):=by
 exists S.okF,zsE,0
 all_goals obtain ⟨p,ds,rfl,hp,D,h⟩:=h
 ·rfl
 refine ⟨_,(zb (zX (PW.pt (zwO (zfX (zcR (zA zi5 rfl T.zb3 PyProof.Rows.boot_isinstance (za (pv 0) (za (zoz (v:=.ty "list") rfl T.zbO PyProof.Rows.boot_list rfl) zd))))) (zuB (zfX (zv6 zd2 zd2 zc (zA zan rfl T.zbN PySem.boot_len (za (pv 0) zd)) (zbJ T.ziy))))))
  (ze (zo zfm))
   zO)
  (zb (zX (zfX (zcR (zA (zpg rfl) rfl T.zqe PyProof.Rows.boot_all (za (zbk (ix:=[]) ⟨rfl,by decide +kernel,rfl,by decide +kernel,rfl,(show (["thing"]:List Str).Nodup by decide +kernel),by walk_at "cap", by walk_at "sub", by walk_at "has"⟩ (zQ (pv 0)) (fun b=>(zt znj hr (za (pv 0) zd)))) zd))))
  (ze (zo zfm))
   zO)
  (ze (zo (zA (zpg rfl) rfl T.zqe PyProof.Rows.boot_all (za (zbk (ix:=[0]) ⟨rfl,by decide +kernel,rfl,by decide +kernel,rfl,(show (["place", "things"]:List Str).Nodup by decide +kernel),by walk_at "cap", by walk_at "sub", by walk_at "has"⟩ (zpc rfl T.zb8 (za zc (za (zA zan rfl T.zbN PySem.boot_len (za (pv 0) zd)) zd))) (fun b=>(zbc zgI (zv (zgZ K) (pv 1) (zj zah (pv 0) zc) (fun _ _=>rfl)) (zv (zgZ K) (pv 1) (pv 0) (fun _ _=>rfl)) (nomark _)))) zd)))))),?_⟩
 have sz:=sizeLine_eq
 have l1:=D.l1
 have l2:=D.l2
 have lm:(ds.map V.int).length=ds.length:=yab ..
 nofun
 refine ⟨_,_,_,_,rfl,.lst hp,(show PySem.W.kitOne K (.type "list") (.type "list")=some true from rfl),?_⟩
 nofun
 refine ⟨p,_,rfl,.inl (SqL.of hp),?_⟩
 nofun
 all_goals first | (exfalso;ac_rfl) | skip
 refine ⟨⟨_,SqL.of hp⟩,fun l nl=>?_⟩
 refine zis (fun i v=>v=.bl true) (SqL.of hp) nl (by ac_rfl) ?_ ?_
 ·intro i y G Q' hy sG hq
  rw[yai] at hy
  obtain ⟨d,hd,rfl⟩:=Option.map_eq_some_iff.mp hy
  obtain ⟨d0,d1⟩:=D.in_ d (yah hd)
  nofun
  refine ⟨_, "int", rfl,⟨.int d,by decide⟩,?_⟩
  rw[show zqk (.int d)=true by simp[zqk,d0,d1]]
  exact hq _ rfl
 intro ys yl yp
 obtain rfl:=trues yl yp
 have s1:=zf nl (.lst ((yat (ds.map V.int).length true).map V.bl))
 have e1:=zG (.lst ((yat (ds.map V.int).length true).map V.bl)) nl
 have hp1:=s1 _ _ hp
 generalize upd H l (.lst ((yat (ds.map V.int).length true).map V.bl))=H1 at s1 e1 hp1 ⊢
 nofun
 refine ⟨l,_,rfl,SqL.of e1,?_⟩
 rw[all_true]
 nofun
 refine ⟨p,_,rfl,.inl (SqL.of hp1),?_⟩
 nofun
 intro l2 nl2
 refine zus (fun i v=>v=.bl true) nl2 (by ac_rfl) ?_ ?_
 ·intro i G Q' hi sG hq
  have hpG:=sG _ _ hp1
  have i1:i+1<ds.length:=by ac_rfl
  have a1:atI (ds.map V.int) ((1:Int)+(i:Int)-1)=some (.int ds[i]):=by
   rw[show (1:Int)+(i:Int)-1=((i:Nat):Int) by ac_rfl]
   exact zaw (by rw[yai,yaa (show i<ds.length by ac_rfl)];rfl)
  have a2:atI (ds.map V.int) ((1:Int)+(i:Int))=some (.int ds[i+1]):=by
   rw[show (1:Int)+(i:Int)=((i+1:Nat):Int) by ac_rfl]
   exact zaw (by rw[yai,yaa i1];rfl)
  have lt:=ybb.mp D.up i (i+1) (by ac_rfl) i1 (by ac_rfl)
  nofun
  refine ⟨p,_,_,_,rfl,rfl,SqL.of hpG,a1,?_⟩
  nofun
  refine ⟨p,_,_,_,rfl,rfl,SqL.of hpG,a2,?_⟩
  nofun
  exact hq _ (congrArg V.bl (decide_eq_true lt))
 intro ys yl yp
 obtain rfl:=trues yl yp
 nofun
 refine ⟨l2,_,rfl,SqL.of zh,?_⟩
 rw[all_true]
 exact ⟨s1.trans (zf nl2 _),h⟩
def OkE (b:Int) (e:Er):Prop:=e.1≠.base/\(b<=e.2.1/\e.2.1<b+200)/\zwy e.1 e.2.1 e.2.2
theorem zuG {ns:List Int} (h:ns.length=3):∃ a b c,ns=[a,b,c]:=by
 match ns,h with
 | [a,b,c],_=>exact ⟨a,b,c,rfl⟩
def zlP (K:W.Frag):Sp:=fun vs H Q _=>L2.Ee4 fun p (ns:List Int) (lo hi:Nat)=>L2.Aa4 (vs=[.ref p,.int lo,.int hi]) (SqL K H p (ns.map V.int)) (hi<=lo+60) (∀ q rs (es:List Er) H',H q=none->Same H H'->H' q=some (.lst rs)->RL3 H' rs es->es.length<=hi-lo+1->(∀ e∈es,OkE (baseOf ns) e)->Q (.ref q) H')
theorem zb5:zk ["_law_script", "_law_first", "_law_last", "_law_base_here", "_law_top", "_law_xs", "_law_rows_here", "_law_cell"] qbu (zg zfN):=by walk_at "sp"
theorem zsM (S:Src K mg "_law_rows" zfN qbu) (T:Txt K mg) (zaN:Def P w K mg base 2 "_law_base" qab (zcI K)) (zE:Def P w K mg base 1 "_law_cell_at" qan (zaI K)) (zaE:Def P w K mg base 1 "_law_draws" qav (zcr K)) (zj2:Def P w K mg base 2 "_law_row" qbr (zmO K)):Def P w K mg base 3 "_law_rows" qbu (zlP K):=by
 exists S.ok,zb5,0
 all_goals obtain ⟨p,ns,lo,hi,rfl,hp,l2,h⟩:=h
 ·rfl
 refine ⟨_,(zb (zp (i:=3) zb5.nd rfl (by walk_at "lc") (zt zaN hr (za (pv 0) zd)))
  (zb (zp (i:=4) zb5.nd rfl (by walk_at "lc") (zv zD (zat (za (zc4 (v:=1000000) (by decide +kernel) ⟨by decide,by decide,by decide⟩) (za (zc4 (v:=1000000) (by decide +kernel) ⟨by decide,by decide,by decide⟩) (za zc (za zc zd))))) (zj zS (zt zE hr (za (pv 0) (za zc zd))) zc) (fun _ _=>rfl)))
  (zb (zp (i:=5) zb5.nd rfl (by walk_at "lc") (zt zaE hr (za (zt zE hr (za (pv 0) (za zc zd))) (za zc zd))))
  (zb (zp (i:=6) zb5.nd rfl (by walk_at "lc") (zat (za (zaf (za zB (za (zj zF (pv 3) (zj zaB (zj zS (zv zD (pv 5) zc (fun _ _=>rfl)) zc) (zM zfY rfl T.zdv PyProof.Rows.boot_int (za (zbc zak (zj zS (zv zD (pv 5) zc (fun _ _=>rfl)) zc) zc (nomark _)) zd)))) (za (zj zF zc (zj zS (zv zD (pv 5) zc (fun _ _=>rfl)) (zj zaB zc (pv 4)))) zd)))) zd)))
  (zb (za6 PassesOwn.never rfl (zQ (zj8 zoQ (pv 0) (zjL (pv 1)) (zjL (pv 2)))) (zI (i:=7) zb5.nd rfl (by walk_at "lc"))
  (ze (zaa (zcn PySem.F.plainAttrs_list PySem.F.slot_list_append PySem.F.type_list_append zaJ (pv 6) (za (zt zj2 hr (za (pv 7) (za (pv 3) (za (pv 4) zd)))) zd)))))
  (zb (zX (zz zak (zj zS (zj zb7 (zv zD (pv 5) zc (fun _ _=>rfl)) zc) zc) zc (nomark _))
  (ze (zo (zj8 zoQ (pv 6) (zjL zc) zo3)))
   zO)
  (zb (zX (zz zak (zj zS (zj zb7 (zv zD (pv 5) zc (fun _ _=>rfl)) zc) zc) zc (nomark _))
  (ze (zo (zcQ (ix:=[]) ⟨rfl,by decide +kernel,rfl,by decide +kernel,rfl,(show (["_law_row_here"]:List Str).Nodup by decide +kernel),by walk_at "cap", by walk_at "sub", by walk_at "has"⟩ (zQ (pv 6)) (fun b=>(zz (zuf K) (zv (zbI K) (pv 0) zc (fun _ _=>rfl)) (zaf (za zB (za zB (za zB (za zB zd))))) (by with_unfolding_all rfl))) (fun b=>(pv 0)))))
   zO)
  (ze (zo (pv 6)))))))))),?_⟩
 have sz:=sizeLine_eq
 obtain ⟨b0,b1⟩:=zix ns
 nofun
 refine ⟨p,ns,rfl,hp,?_⟩
 nofun
 intro lt nlt
 have s0:=zf nlt (.lst [.int 1000000,.int 1000000,.int 5000,.int 5000])
 have hp0:=s0.seq hp
 have et:=zG (.lst [.int 1000000,.int 1000000,.int 5000,.int 5000]) nlt
 generalize upd H lt (.lst [.int 1000000,.int 1000000,.int 5000,.int 5000])=H0 at s0 hp0 et ⊢
 nofun
 refine ⟨p,ns,0,rfl,hp0,?_⟩
 have c0:=ydu (cellAt ns 0) (show (4:Int)≠0 by decide)
 have c1:=ydt (cellAt ns 0) (show (0:Int)<4 by decide)
 obtain ⟨v,hv,hm⟩:=zjM (xs:=[.int 1000000,.int 1000000,.int 5000,.int 5000]) c0 (by simpa using c1)
 obtain ⟨tp,rfl,htp⟩:=(zay ⟨_,rfl,by ac_rfl,by ac_rfl⟩ (zay ⟨_,rfl,by ac_rfl,by ac_rfl⟩ (zay ⟨_,rfl,by ac_rfl,by ac_rfl⟩ (zay ⟨_,rfl,by ac_rfl,by ac_rfl⟩ zoe))):∀ v∈([.int 1000000,.int 1000000,.int 5000,.int 5000]:List V),∃ w:Int,v=.int w/\5000<=w/\w<=1000000) v hm
 nofun
 refine ⟨lt,_,_,_,rfl,rfl,SqL.of et,hv,?_⟩
 clear hv hm
 nofun
 refine ⟨p,ns,2,rfl,hp0,?_⟩
 nofun
 intro px ms H1 s1 npx ep nl nn
 replace s1:=s0.trans s1
 obtain ⟨n0,n1,n2,rfl⟩:=zuG (ns:=ms) (by ac_rfl)
 have hx:SqL K H1 px (List.map V.int [n0,n1,n2]):=SqL.of ep
 have p0:=nn n0 (by simp)
 have p1:=nn n1 (by simp)
 have p2:=nn n2 (by simp)
 nofun
 refine ⟨px,_,_,_,rfl,rfl,hx,rfl,?_⟩
 nofun
 refine ⟨px,_,_,_,rfl,rfl,hx,rfl,?_⟩
 nofun
 intro i01 i0 i1
 have y0:=ydu n0 (show (40:Int)≠0 by decide)
 have y1:=ydt n0 (show (0:Int)<40 by decide)
 nofun
 have y2:0<=n0 % 40*i01/\n0 % 40*i01<=39:=by
  rcases (show i01=0\/i01=1 by ac_rfl) with z | z <;> rw[z] <;> ac_rfl
 clear i0
 generalize n0 % 40*i01=dd at y2 ⊢
 refine ⟨px,_,_,_,rfl,rfl,hx,rfl,?_⟩
 have z0:=ydu n2 (show 4*tp≠0 by ac_rfl)
 have z1:=ydt n2 (show 0<4*tp by ac_rfl)
 nofun
 intro t nt
 have s2:=zf nt (.tup [.str "out", .int (baseOf ns+dd),.int (1+n2 % (4*tp))])
 have et:=zG (.tup [.str "out", .int (baseOf ns+dd),.int (1+n2 % (4*tp))]) nt
 have s12:=s1.trans s2
 generalize upd H1 t (.tup [.str "out", .int (baseOf ns+dd),.int (1+n2 % (4*tp))])=H2 at s2 et s12 ⊢
 nofun
 intro q nq
 have s3:=zf nq (.lst [.ref t])
 have nqH:=zx s12 nq
 have eq:=zG (.lst [.ref t]) nq
 have et3:=s3 _ _ et
 have s13:=s12.trans s3
 generalize upd H2 q (.lst [.ref t])=H3 at s3 eq et3 s13 ⊢
 have hp3:=s13.seq hp
 nofun
 refine ⟨p,_,rfl,hp3,fun c nc=>?_⟩
 obtain ⟨ms,ml,ec⟩:=zvN ns lo hi
 rw[ec]
 have s4:=zf nc (.lst (ms.map V.int))
 have eC:=zG (.lst (ms.map V.int)) nc
 have eQ4:=s4 _ _ eq
 have et4:=s4 _ _ et3
 have s14:=s13.trans s4
 have s14':=s2.trans (s3.trans s4)
 have nq1:=zx s2 nq
 have ncq:c≠q:=(zY eq nc).symm
 generalize upd H3 c (.lst (ms.map V.int))=H4 at s4 eC eQ4 et4 s14 s14' ⊢
 nofun
 refine ⟨⟨_,SqL.of eC⟩,zbm (xs:=ms.map V.int) (fun i σ H'=>∃ (rs:List V) (es:List Er) (z:Option V),(Same H1 H'/\H' q=some (.lst rs)/\H' c=some (.lst (ms.map V.int))/\RL3 H' rs es)/\es.length=i+1/\(∀ e∈es,OkE (baseOf ns) e)/\σ=[some (.ref p),some (.int lo),some (.int hi),some (.int (baseOf ns)),some (.int tp),some (.ref px),some (.ref q),z])
  ⟨[.ref t],[(.out,baseOf ns+dd,1+n2 % (4*tp))],_,⟨s14',eQ4,eC,.cons ⟨t,rfl,et4⟩ .nil⟩,rfl,fun e he=>?_,rfl⟩ ?_ ?_ ?_⟩
 ·obtain rfl:e=(.out,baseOf ns+dd,1+n2 % (4*tp)):=by simpa using he
  exact ⟨(by intro z;cases z),⟨by show baseOf ns<=baseOf ns+dd;ac_rfl,by show baseOf ns+dd<baseOf ns+200;ac_rfl⟩,⟨by show 1<=1+n2 % (4*tp);ac_rfl,by show 1+n2 % (4*tp)<=1000000000000;ac_rfl⟩,fun z=>by cases z⟩
 ·rintro i σ H' _ ⟨rs,es,z,⟨_,_,e,_⟩,_⟩
  exact SqL.of e
 ·rintro i x σ H' hx' ⟨rs,es,z,⟨sH,eQ,eC',hR⟩,el,oe,rfl⟩
  rw[yai] at hx'
  obtain ⟨m,hm,rfl⟩:=Option.map_eq_some_iff.mp hx'
  have il:i<ms.length:=(yac.mp hm).1
  have rl:=hR.length
  nofun
  refine ⟨.inl ⟨rfl,_,SqL.of eQ⟩,?_⟩
  nofun
  intro r k d x H5 s5 nr er hk hd hv
  nofun
  have eQ5:=s5 _ _ eQ
  refine ⟨q,_,_,rfl,rfl,eQ5,by ac_rfl,?_⟩
  have er5:(upd H5 q (.lst (rs++[.ref r]))) r=some (.tup (zcB k d x)):=by
   rw[zr (zae er eQ5 (by intro z;cases z))]
   exact er
  refine ⟨rs++[.ref r],es++[(k,d,x)],_,⟨zJ (sH.trans s5) nq1,zh,by rw[zr ncq];exact s5 _ _ eC',((hR.same s5).put eQ5).push (e:=(k,d,x)) er5⟩,by rw[yaf,el];rfl,fun e he=>?_,rfl⟩
  rcases yae.mp he with he | he
  ·exact oe e he
  ·obtain rfl:e=(k,d,x):=by simpa using he
   exact ⟨hk,hd,hv⟩
 ·rintro σ H' ⟨rs,es,z,⟨sH,eQ,eC',hR⟩,el,oe,rfl⟩
  rw[yab] at el
  have rl:=hR.length
  nofun
  have sA:=s1.trans sH
  have hx':=sH.seq hx
  refine ⟨px,_,_,_,rfl,rfl,hx',rfl,?_⟩
  nofun
  ·refine ⟨q,_,rfl,SqL.of eQ,fun u nu=>?_⟩
   rw[show zeN rs (some (1:Int)) none=rs.drop 1 from zxm rs 1]
   have s6:=zf nu (.lst (rs.drop 1))
   exact h u _ (es.drop 1) _ (zx sA nu) (sA.trans s6) zh ((LL.zzb hR).imp fun v e ⟨t,e1,e2⟩=>⟨t,e1,s6 _ _ e2⟩) (by rw[ycp];ac_rfl) fun e he=>oe e (List.mem_of_mem_drop he)
  ·refine ⟨px,_,_,_,rfl,rfl,hx',rfl,?_⟩
   nofun
   ·refine ⟨⟨_,SqL.of eQ⟩,fun l nl'=>?_⟩
    refine zo9 (zab (SqL.of eQ)) nl' (by ac_rfl) es rl.symm (fun e:Er=>inV (.str e.1.word) [.str "due", .str "rate", .str "late", .str "still"]) (fun H' v e=>∃ t,v=.ref t/\H' t=some (.tup (zcB e.1 e.2.1 e.2.2))) (fun v e H1 H2 s ⟨t,e1,e2⟩=>⟨t,e1,s _ _ e2⟩) (fun v e H1 ys zs hL ⟨t,e1,e2⟩=>⟨t,e1,by rw[zr (zae e2 hL (by intro z;cases z))];exact e2⟩) ?_ ?_ ?_
    ·rintro i x e H5 Q' hx5 he s5 hq
     obtain ⟨e',he',t5,rfl,ht5⟩:=(hR.same s5).get hx5
     obtain rfl:e'=e:=Option.some.inj (he'.symm.trans he)
     nofun
     intro u nu
     nofun
     refine ⟨u,_,rfl,.inr (SqT.of zh),rfl,rfl,?_⟩
     exact ⟨_,rfl,hq _ (zf nu _)⟩
    ·rintro i x e H5 Q' hx5 he fe s5 hq
     obtain ⟨e',he',t5,rfl,ht5⟩:=(hR.same s5).get hx5
     obtain rfl:e'=e:=Option.some.inj (he'.symm.trans he)
     nofun
     exact hq _ _ (Same.refl _) ⟨t5,rfl,ht5⟩
    ·rintro ys H5 s5 eL hL
     refine h l ys _ H5 (zx sA nl') (sA.trans s5) eL hL (ydc (yay _ _) (by ac_rfl)) fun e he=>oe e (yao.mp he).1
   ·exact h q rs es H' nqH sA eQ hR (by ac_rfl) oe
def zk1 (K:W.Frag):Sp:=fun vs H Q _=>∃ d,vs=[.int d]/\0<=d/\∀ y m r p,Cal.zaL y m r->Cal.num y m r=d->H p=none->Q (.ref p) (upd H p (.tup [.int y,.int m,.int r]))
theorem zbi:zk ["_law_day", "_law_year", "_law_rest", "_law_month"] qbv (zg zfA):=by walk_at "sp"
theorem zsH (S:Src K mg "_law_date" zfA qbv) (T:Txt K mg) (za3:Def P w K mg base 1 "_law_leap" qaw (zei K)) (zaP:Def P w K mg base 2 "_law_month_size" qba (zcN K)):Def P w K mg base 3 "_law_date" qbv (zk1 K):=by
 exists S.ok,zbi,0
 all_goals obtain ⟨d,rfl,h0,h⟩:=h
 ·rfl
 refine ⟨_,(zb (zp (i:=1) zbi.nd rfl (by walk_at "lc") (zj zF zc (zj zaB (zj zb7 (pv 0) zc) zc)))
  (zb (zp (i:=2) zbi.nd rfl (by walk_at "lc") (zj zS (pv 0) zc))
  (zb (zdR PassesOwn.never (zz ztK (pv 2) (zj zF zc (zM zf0 rfl T.zdv PyProof.Rows.boot_int (za (zt za3 hr (za (pv 1) zd)) zd))) (nomark _))
  (zb (zp (i:=2) zbi.nd rfl (by walk_at "lc") (zj zah (zj zah (pv 2) zc) (zM zf0 rfl T.zdv PyProof.Rows.boot_int (za (zt za3 hr (za (pv 1) zd)) zd))))
  (ze (zp (i:=1) zbi.nd rfl (by walk_at "lc") (zj zF (pv 1) zc)))))
  (zb (zp (i:=3) zbi.nd rfl (by walk_at "lc") zc)
  (zb (zdR PassesOwn.never (zz ztK (pv 2) (zt zaP hr (za (pv 1) (za (pv 3) zd))) (nomark _))
  (zb (zp (i:=2) zbi.nd rfl (by walk_at "lc") (zj zah (pv 2) (zt zaP hr (za (pv 1) (za (pv 3) zd)))))
  (ze (zp (i:=3) zbi.nd rfl (by walk_at "lc") (zj zF (pv 3) zc)))))
  (ze (zo (zaf (za (pv 1) (za (pv 3) (za (zj zF (pv 2) zc) zd))))))))))),?_⟩
 have lpd:∀ y:Int,(if Cal.leap y=true then (1:Int) else 0)=Cal.lp y:=fun y=>rfl
 nofun
 refine ⟨fun n σ H'=>H=H'/\∃ y r:Int,σ=[some (.int d),some (.int y),some (.int r),none]/\Cal.ny y+r=d/\0<=r/\n=r.toNat,⟨_,rfl,_,_,rfl,?_,by ac_rfl,rfl⟩,?_⟩
 ·unfold Cal.ny
  ac_rfl
 rintro n σ H' ⟨rfl,y,r,rfl,e1,r0,rfl⟩
 have e:=Cal.zbv y
 have l:=Cal.zkr y
 nofun
 refine .inr ⟨_,rfl,?_⟩
 rw[lpd]
 nofun
 ·rename_i q
  refine ⟨_,fun σ' H' z=>z,?_⟩
  nofun
  refine .inr ⟨_,rfl,?_⟩
  rw[lpd]
  nofun
  exact ⟨(r-365-Cal.lp y).toNat,by ac_rfl,rfl,_,_,rfl,by ac_rfl,by ac_rfl,rfl⟩
 rename_i q
 refine ⟨fun n σ H'=>H=H'/\∃ m r:Int,σ=[some (.int d),some (.int y),some (.int r),some (.int m)]/\1<=m/\m<=12/\r=d-Cal.ny y-Cal.cum y m/\0<=r/\n=r.toNat,⟨_,rfl,_,_,rfl,by decide,by decide,(by simp[Cal.cum];ac_rfl),by ac_rfl,rfl⟩,?_⟩
 rintro n σ H' ⟨rfl,m,r',rfl,m1,m2,hr,r0',rfl⟩
 have b:=@Cal.zdY y m m1 m2
 nofun
 ·refine ⟨_,fun σ' H' z=>z,?_⟩
  nofun
  have c:=@Cal.zjB y m m1 m2
  have c12:=Cal.znE y
  have m3:m<=11:=by
   by_cases q:m=12
   ·subst q;ac_rfl
   ·ac_rfl
  have cs:=@Cal.zkj y m m1 m3
  exact ⟨(r'-Cal.mlen y m).toNat,by ac_rfl,rfl,_,_,rfl,by ac_rfl,by ac_rfl,by ac_rfl,by ac_rfl,rfl⟩
 ·intro p hp
  exact h _ _ _ p ⟨m1,m2,by ac_rfl,by ac_rfl⟩ (by unfold Cal.num;ac_rfl) hp
def znP (K:W.Frag):Sp:=fun vs H Q _=>∃ a A b,vs=[.ref a]/\zaK K H a A b/\BOk b /\
 ∀ p ws (ds:List Int) H',H p=none->Same H H'->H' p=some (.lst ws)->R4 b H' ws ds->ds.Pairwise (·<·)->(∀ d,d∈ds↔TDay b d)->ds.length<=1000->Q (.ref p) H'
theorem zbq:zk ["book", "spans", "rates", "lates", "asked_sums", "handed_sums", "told", "day", "lacks"] qag (zg zh8):=by walk_at "sp"
theorem zuC (S:Src K mg "burdens" zh8 qag) (T:Txt K mg) (zbK:zu P w K mg base 1 (cA K "Book") "stills" qaa (zfd K)) (zb9:zu P w K mg base 1 (cA K "Book") "rates" qaa (zf6 K)) (zca:zu P w K mg base 1 (cA K "Book") "lates" qaa (zf7 K)) (ziU:Def P w K mg base 2 "late_sums" qag (zll K)) (zbw:Def P w K mg base 1 "running_sums" qam (zd3 K)) (zbg:zu P w K mg base 1 (cA K "Book") "pays" qaa (zel K)) (ze6:Def P w K mg base 2 "turning_days" qag (zim K)) (zni:Def P w K mg base 3 "stands" qap (zo6 K)) (zcZ:Def P w K mg base 2 "value_at" qbp (zmw K)):Def P w K mg base 4 "burdens" qag (znP K):=by
 exists S.ok,zbq,0
 all_goals obtain ⟨a,A,b,rfl,B,O,h⟩:=h
 ·rfl
 refine ⟨_,(zb (zp (i:=1) zbq.nd rfl (by walk_at "lc") (zK zbK T.zy hr (pv 0)))
  (zb (zp (i:=2) zbq.nd rfl (by walk_at "lc") (zK zb9 T.zy hr (pv 0)))
  (zb (zp (i:=3) zbq.nd rfl (by walk_at "lc") (zK zca T.zy hr (pv 0)))
  (zb (zp (i:=4) zbq.nd rfl (by walk_at "lc") (zt ziU hr (za (pv 0) zd)))
  (zb (zp (i:=5) zbq.nd rfl (by walk_at "lc") (zt zbw hr (za (zK zbg T.zy hr (pv 0)) zd)))
  (zb (zp (i:=6) zbq.nd rfl (by walk_at "lc") (zat zd))
  (zb (za6 PassesOwn.never rfl (zQ (zt ze6 hr (za (pv 0) zd))) (zI (i:=7) zbq.nd rfl (by walk_at "lc"))
  (ze (zX (zcR (zt zni hr (za (pv 1) (za (pv 7) zd))))
  (ze (zaa (zcn PySem.F.plainAttrs_list PySem.F.slot_list_append PySem.F.type_list_append zaJ (pv 6) (za (zaf (za (pv 7) (za zc (za zc (za zc zd))))) zd))))
  (zb (zp (i:=8) zbq.nd rfl (by walk_at "lc") (zA (zbt rfl) rfl T.zdr PyProof.Rows.boot_max (za zc (za (zj zah (zt zcZ hr (za (pv 4) (za (pv 7) zd))) (zt zcZ hr (za (pv 5) (za (pv 7) zd)))) zd))))
  (ze (zaa (zcn PySem.F.plainAttrs_list PySem.F.slot_list_append PySem.F.type_list_append zaJ (pv 6) (za (zaf (za (pv 7) (za (zt zcZ hr (za (pv 2) (za (pv 7) zd))) (za (zt zcZ hr (za (pv 3) (za (pv 7) zd))) (za (pv 8) zd))))) zd))))))))
  (ze (zo (pv 6)))))))))),?_⟩
 have sz:=sizeLine_eq
 nofun
 refine ⟨a,A.dx,_,rfl,B.ins,rfl,a,A,b,rfl,B,fun q1 x1 n1 r1 l1=>?_⟩
 have t1:=zf n1 (.lst x1)
 have e1:=zG (.lst x1) n1
 have r1':=r1.same t1
 generalize upd H q1 (.lst x1)=H1 at t1 e1 r1' ⊢
 have B1:=B.same t1
 nofun
 refine ⟨a,A.dx,_,rfl,B1.ins,rfl,a,A,b,rfl,B1,fun q2 x2 n2 r2 l2=>?_⟩
 have t2:=zf n2 (.lst x2)
 have e2:=zG (.lst x2) n2
 have r2':=r2.same t2
 generalize upd H1 q2 (.lst x2)=H2 at t2 e2 r2' ⊢
 have B2:=B1.same t2
 nofun
 refine ⟨a,A.dx,_,rfl,B2.ins,rfl,a,A,b,rfl,B2,fun q3 x3 n3 r3 l3=>?_⟩
 have t3:=zf n3 (.lst x3)
 have e3:=zG (.lst x3) n3
 have r3':=r3.same t3
 generalize upd H2 q3 (.lst x3)=H3 at t3 e3 r3' ⊢
 have B3:=B2.same t3
 nofun
 first | refine ⟨a,A,b,rfl,B3,fun q4 x4 H4 n4 t4 e4 r4=>?_⟩ | refine ⟨B3,fun q4 x4 H4 n4 t4 e4 r4=>?_⟩
 have B4:=B3.same t4
 nofun
 refine ⟨a,A.dx,_,rfl,B4.ins,rfl,a,A,b,rfl,B4,fun q5 x5 n5 r5 l5=>?_⟩
 have t5:=zf n5 (.lst x5)
 have e5:=zG (.lst x5) n5
 have r5':=r5.same t5
 generalize upd H4 q5 (.lst x5)=H5 at t5 e5 r5' ⊢
 nofun
 rename_i q6 x6 H6
 intro n6 t6 e6 r6
 have t16:=t2.trans (t3.trans (t4.trans (t5.trans t6)))
 have t26:=t3.trans (t4.trans (t5.trans t6))
 have t36:=t4.trans (t5.trans t6)
 have t46:=t5.trans t6
 have s06:=t1.trans t16
 have e16:=t16 _ _ e1
 have r16:=r1'.same t16
 have e26:=t26 _ _ e2
 have r26:=r2'.same t26
 have e36:=t36 _ _ e3
 have r36:=r3'.same t36
 have e46:=t46 _ _ e4
 have r46:=r4.same t46
 clear t16 t26 t36 t46 e1 e2 e3 e4 r1' r2' r3' r4 B1 B2 B3 B4 t1 t2 t3 t4 t5 t6
 nofun
 intro p np
 have s7:=zf np (.lst [])
 have eP:=zG (.lst []) np
 have s07:=s06.trans s7
 have npH:=zx s06 np
 generalize upd H6 p (.lst [])=H7 at s7 eP s07 ⊢
 have B7:=B.same s07
 nofun
 first | refine ⟨a,A,b,rfl,B7,O,fun q8 ds H8 n8 t8 e8 up mem d64=>?_⟩ | refine ⟨B7,O,fun q8 ds H8 n8 t8 e8 up mem d64=>?_⟩
 have s68:=s7.trans t8
 have eP8:=t8 _ _ eP
 have n8p:q8≠p:=(zY eP n8).symm
 have shn:∀ s∈shf b.g b.dues,0<=s.1:=fun s hs=>by
  obtain ⟨u,hu,rfl⟩:=yag.mp hs
  have:=O.dn u hu
  have:=O.g0
  show 0<=u.1+b.g
  ac_rfl
 have kk:∀ (l:List (Int × Int)),((l.map (·.1)).Pairwise (·<·))->(∀ s∈l,0<=s.1)->((runs 0 l).Pairwise fun s t=>s.1<t.1)/\∀ s∈runs 0 l,0<=s.1:=fun l u n=>⟨zuO (by rw[zdX];exact u),fun s hs=>by
  have:s.1∈l.map (·.1):=by rw[<-zdX l 0];exact ybg hs
  obtain ⟨v,hv,e⟩:=yag.mp this
  rw[<-e];exact n v hv⟩
 have kA:=kk (shf b.g b.dues) (zvG O.du) shn
 have kP:=kk b.pays O.pu O.pn
 nofun
 refine ⟨⟨_,SqL.of e8⟩,zbm (xs:=ds.map V.int) (fun i σ H'=>∃ (ws:List V) (z1 z2:Option V),(Same H6 H'/\H' p=some (.lst ws)/\H' q8=some (.lst (ds.map V.int)))/\R4 b H' ws (ds.take i)/\σ=[some (.ref a),some (.ref q1),some (.ref q2),some (.ref q3),some (.ref q4),some (.ref q6),some (.ref p),z1,z2])
  ⟨[],_,_,⟨s68,eP8,e8⟩,.nil,rfl⟩ ?_ ?_ ?_⟩
 ·rintro i σ H' _ ⟨ws,z1,z2,⟨_,_,e⟩,_⟩
  exact SqL.of e
 ·rintro i x σ H' hx ⟨ws,z1,z2,⟨sH,eP',e8'⟩,hW,rfl⟩
  rw[yai] at hx
  obtain ⟨d,hd,rfl⟩:=Option.map_eq_some_iff.mp hx
  have il:i<ds.length:=(yac.mp hd).1
  have wl:=hW.length
  rw[yaz] at wl
  have tk:ds.take (i+1)=ds.take i++[d]:=by rw[ybc,hd];rfl
  have fin:∀ (x1 x2 x3:Int) (G:Hp) (v:Addr),x1=zd6 b d->x2=zeg b d->x3=zdP b d->Same H' G->G v=some (.tup [.int d,.int x1,.int x2,.int x3])->G p=some (.lst ws)->(Same H6 (upd G p (.lst (ws++[.ref v])))/\(upd G p (.lst (ws++[.ref v]))) p=some (.lst (ws++[.ref v]))/\(upd G p (.lst (ws++[.ref v]))) q8=some (.lst (ds.map V.int)))/\R4 b (upd G p (.lst (ws++[.ref v]))) (ws++[.ref v]) (ds.take (i+1)):=fun x1 x2 x3 G v g1 g2 g3 sG ev eG=>by
   subst g1 g2 g3
   refine ⟨⟨zJ (sH.trans sG) np,zh,by rw[zr n8p];exact sG _ _ e8'⟩,?_⟩
   rw[tk]
   exact LL.push ((hW.same sG).put eG) ⟨v,rfl,by rw[zr (zae ev eG (by intro z;cases z))];exact ev⟩
  nofun
  refine ⟨q1,x1,b.spans,d,rfl,SqL.of (sH _ _ e16),r16.same sH,O.jn,?_⟩
  cases c:Spans.isIn b.spans d with
  | true =>
   nofun
   refine ⟨.inl ⟨rfl,_,SqL.of eP'⟩,?_⟩
   nofun
   intro v nv
   have sv:=zf nv (.tup [.int d,.int 0,.int 0,.int 0])
   refine ⟨p,_,_,rfl,rfl,sv _ _ eP',by ac_rfl,?_⟩
   obtain ⟨f1,f2⟩:=fin 0 0 0 _ v (by unfold zd6;rw[c];rfl) (by unfold zeg;rw[c];rfl) (by unfold zdP;rw[c];rfl) sv zh (sv _ _ eP')
   exact ⟨_,_,_,f1,f2,rfl⟩
  | false =>
   nofun
   refine ⟨q4,x4,runs 0 (shf b.g b.dues),d,rfl,SqL.of (sH _ _ e46),r46.same sH,kA.1,kA.2,?_⟩
   rw[zqv (zvG O.du) shn,zv9]
   nofun
   refine ⟨q6,x6,runs 0 b.pays,d,rfl,SqL.of (sH _ _ e6),r6.same sH,kP.1,kP.2,?_⟩
   rw[zqv O.pu O.pn]
   nofun
   refine ⟨.inl ⟨rfl,_,SqL.of eP'⟩,?_⟩
   nofun
   refine ⟨q2,x2,b.rates,d,rfl,SqL.of (sH _ _ e26),r26.same sH,O.ru,fun s hs=>(O.rn s hs).1,?_⟩
   nofun
   refine ⟨q3,x3,b.lates,d,rfl,SqL.of (sH _ _ e36),r36.same sH,O.lu,fun s hs=>(O.ln s hs).1,?_⟩
   nofun
   intro v nv
   have sv:=zf nv (.tup [.int d,.int (Sums.valOf b.rates d),.int (Sums.valOf b.lates d),.int (p0 (upto b.dues (d-b.g)-upto b.pays d))])
   refine ⟨p,_,_,rfl,rfl,sv _ _ eP',by ac_rfl,?_⟩
   obtain ⟨f1,f2⟩:=fin (Sums.valOf b.rates d) (Sums.valOf b.lates d) (p0 (upto b.dues (d-b.g)-upto b.pays d)) _ v (by unfold zd6;rw[c];rfl) (by unfold zeg;rw[c];rfl) (by unfold zdP;rw[c];rfl) sv zh (sv _ _ eP')
   exact ⟨_,_,_,f1,f2,rfl⟩
 ·rintro σ H' ⟨ws,z1,z2,⟨sH,eP',e8'⟩,hW,rfl⟩
  rw[yab,yci] at hW
  nofun
  exact h p ws ds H' npH (s06.trans sH) eP' hW up mem (by ac_rfl)
def zmx (K:W.Frag):Sp:=fun vs H Q _=>L2.Ee8 fun p dx t u m n d (q:Q4)=>L2.Aa5 (vs=[.ref p,.ref t]) (Deb K H p dx u m n) ((0<u/\u<1152921504606846976)) (H t=some (.tup [.int d,.int q.1,.int q.2.1,.int q.2.2.1,.int q.2.2.2])) (Q .non (upd H p (.ins (cA K "Debt") dx (zaz u (doD u q (m,n)).1 (doD u q (m,n)).2))))
theorem zta:zk qbj qbj (zg zgD):=by walk_at "sp"
theorem ztG (S:Src K mg "do_deeds" zgD qbj) (T:Txt K mg) (zi0:zu P w K mg base 3 (cA K "Debt") "lend" qad (zlf K)) (zj4:zu P w K mg base 3 (cA K "Debt") "fee" qad (zmG K)) (zi8:zu P w K mg base 2 (cA K "Debt") "turn" qaa (zk0 K)) (ziQ:zu P w K mg base 3 (cA K "Debt") "take" qad (zlm K)):Def P w K mg base 4 "do_deeds" qbj (zmx K):=by
 exists S.ok,zta,0
 all_goals obtain ⟨p,dx,t,u,m,n,d,q,rfl,e,hu,ht,h⟩:=h
 ·rfl
 refine ⟨_,(zb (zaa (zcK zi0 T.zR hr (pv 0) (za (zv zam (pv 1) zc (fun _ _=>rfl)) zd)))
  (zb (zaa (zcK zj4 T.zR hr (pv 0) (za (zv zam (pv 1) zc (fun _ _=>rfl)) zd)))
  (zb (zX (zz zak (zv zam (pv 1) zc (fun _ _=>rfl)) zc (nomark _))
  (ze (zaa (zK zi8 T.zR hr (pv 0))))
   zO)
  (ze (zaa (zcK ziQ T.zR hr (pv 0) (za (zv zam (pv 1) zc (fun _ _=>rfl)) zd))))))),?_⟩
 obtain ⟨x,f,w,y⟩:=q
 change H t=some (.tup [.int d,.int x,.int f,.int w,.int y]) at ht
 unfold doD at h
 dsimp only at h
 nofun
 refine ⟨p,dx,_,rfl,e,rfl,?_⟩
 nofun
 refine ⟨p,dx,u,m,n,x,rfl,e,hu,?_⟩
 generalize Dbt.step u .lend x m n=s1 at h ⊢
 have e1:Deb K (upd H p (.ins (cA K "Debt") dx (zaz u s1.1 s1.2))) p dx u s1.1 s1.2:=zh
 have t1:=zka (K:=K) (o:=.ins (cA K "Debt") dx (zaz u s1.1 s1.2)) e ht
 nofun
 refine ⟨p,dx,_,rfl,e1,rfl,?_⟩
 nofun
 refine ⟨p,dx,u,_,_,f,rfl,e1,hu,?_⟩
 rw[zad]
 generalize Dbt.step u .fee f s1.1 s1.2=s2 at h ⊢
 have e2:Deb K (upd H p (.ins (cA K "Debt") dx (zaz u s2.1 s2.2))) p dx u s2.1 s2.2:=zh
 have t2:=zka (K:=K) (o:=.ins (cA K "Debt") dx (zaz u s2.1 s2.2)) e ht
 clear e1 t1
 nofun
 ·rename_i c
  rw[if_pos c] at h
  refine ⟨p,dx,_,rfl,e2,rfl,p,dx,u,_,_,rfl,e2,hu,?_⟩
  rw[zad]
  generalize Dbt.step u .turn 0 s2.1 s2.2=s3 at h ⊢
  have e3:Deb K (upd H p (.ins (cA K "Debt") dx (zaz u s3.1 s3.2))) p dx u s3.1 s3.2:=zh
  have t3:=zka (K:=K) (o:=.ins (cA K "Debt") dx (zaz u s3.1 s3.2)) e ht
  nofun
  refine ⟨p,dx,_,rfl,e3,rfl,?_⟩
  nofun
  refine ⟨p,dx,u,_,_,y,rfl,e3,hu,?_⟩
  rw[zad]
  exact h
 ·rename_i c
  rw[if_neg c] at h
  refine ⟨p,dx,_,rfl,e2,rfl,?_⟩
  nofun
  refine ⟨p,dx,u,_,_,y,rfl,e2,hu,?_⟩
  rw[zad]
  exact h
noncomputable def Uk:Kd->Int->Int
 | .plain,d=>d
 | .bank,d=>d
 | .thirty,d=>Cnt.UT d
 | .exact,d=>Cnt.UE d
theorem ztz {kd:Kd} {a b:Int} (h0:0<=a) (ab:a<=b):Uk kd a<=Uk kd b:=by
 cases kd with
 | plain=>exact ab
 | bank=>exact ab
 | thirty=>exact Cnt.zxH h0 ab
 | exact=>exact Cnt.zxR h0 ab
theorem znM {kd:Kd} {d:Int} (h0:0<=d) (h1:d<=1000000):-1<=Uk kd d/\Uk kd d<=1000000000:=by
 cases kd with
 | plain=>exact ⟨by show -1<=d;omega,by show d<=1000000000;omega⟩
 | bank=>exact ⟨by show -1<=d;omega,by show d<=1000000000;omega⟩
 | thirty=>exact Cnt.zy4 h0 h1
 | exact=>exact Cnt.zy3 h0 h1
def zfV (kd:Kd) (K:W.Frag):Sp:=fun vs H Q _=>∃ a d,vs=[.ref a,.int d]/\zbR K H a kd/\Q (.int (Uk kd d)) H
theorem zpy:zk qac qac (zg zb2):=by walk_at "sp"
theorem zlV (kd:Kd) (hk:kd=.plain\/kd=.bank) (S:zq K (cA K kd.cls) "upto" "Count.upto" zb2 qac) (T:Txt K mg)  : zu P w K mg base 4 (cA K kd.cls) "upto" qac (zfV kd K):=by
 exists S.ok,zpy,0
 all_goals obtain ⟨a,d,rfl,hc,h⟩:=h
 ·rfl
 refine ⟨_,(ze (zo (pv 1))),?_⟩
 rcases hk with rfl | rfl
 ·nofun
  exact h
 ·nofun
  exact h
theorem ze4:zk ["self", "day", "date", "months"] qac (zg zdy):=by walk_at "sp"
theorem zp1 (kd:Kd) (hk:kd=.thirty) (S:zq K (cA K kd.cls) "upto" "Thirty.upto" zdy qac) (T:Txt K mg) (zlz:Def P w K mg base 3 "date_of" qat (znR K)):zu P w K mg base 4 (cA K kd.cls) "upto" qac (zfV kd K):=by
 subst hk
 exists S.okF,ze4,0
 all_goals obtain ⟨a,d,rfl,hc,h⟩:=h
 ·rfl
 refine ⟨_,(zb (zp (i:=2) ze4.nd rfl (by walk_at "lc") (zt zlz hr (za (pv 1) zd)))
  (zb (zp (i:=3) ze4.nd rfl (by walk_at "lc") (zj zah (zj zF (zj zaB zc (zj zah (zv zam (pv 2) zc (fun _ _=>rfl)) (zbJ T.zb6))) (zv zam (pv 2) zc (fun _ _=>rfl))) zc))
  (ze (zo (zj zah (zj zF (zj zaB zc (pv 3)) (zA (zbu rfl) rfl T.zdp PyProof.Rows.boot_min (za (zv zam (pv 2) zc (fun _ _=>rfl)) (za zc zd)))) zc))))),?_⟩
 nofun
 intro y m r p D e np
 have s1:=zf np (.tup [.int y,.int m,.int r])
 have t1:(upd H p (.tup [.int y,.int m,.int r])) p=some (.tup [.int y,.int m,.int r]):=zh
 generalize upd H p (.tup [.int y,.int m,.int r])=H1 at s1 t1 ⊢
 nofun
 have e1:Uk .thirty d=30*(12*(y-2000)+m-1)+(if 30<r then 30 else r)-1:=Cnt.zmm ⟨y,m,r,D,e,rfl⟩
 rw[e1] at h
 first | exact h | exact ⟨s1,h⟩
theorem zgp:zk ["self", "day", "year", "each"] qac (zg zep):=by walk_at "sp"
theorem zqY (kd:Kd) (hk:kd=.exact) (S:zq K (cA K kd.cls) "upto" "Exact.upto" zep qac) (T:Txt K mg) (zdZ:Def P w K mg base 2 "year_of" qat (zkp K)) (zdW:Def P w K mg base 1 "is_leap" qaj (zkt K)) (zcj:∀ kd:Kd,zu P w K mg base 1 (cA K kd.cls) "year" qaa (zcH kd K)) (zbs:Def P w K mg base 1 "new_year" qaj (zfk K)):zu P w K mg base 4 (cA K kd.cls) "upto" qac (zfV kd K):=by
 subst hk
 exists S.ok,zgp,0
 all_goals obtain ⟨a,d,rfl,hc,h⟩:=h
 ·rfl
 refine ⟨_,(zb (zp (i:=2) zgp.nd rfl (by walk_at "lc") (zt zdZ hr (za (pv 1) zd)))
  (zb (zp (i:=3) zgp.nd rfl (by walk_at "lc") (zr5 (zcR (zt zdW hr (za (pv 2) zd))) zc zc))
  (ze (zo (zj zF (zj zaB (zfS zcj T.cls hr (pv 0)) (zj zah (pv 2) (zbJ T.zb6))) (zj zaB (pv 3) (zj zah (pv 1) (zt zbs hr (za (pv 2) zd))))))))),?_⟩
 nofun
 intro y h1 h2
 have e1:Uk .exact d=365*366*(y-2000)+Cnt.each y*(d-Cal.ny y):=Cnt.zkb ⟨y,h1,h2,rfl⟩
 nofun
 cases lp:Cal.leap y with
 | true =>
  have ee:Cnt.each y=365:=by unfold Cnt.each;rw[lp];rfl
  rw[ee] at e1
  rw[e1] at h
  nofun
  refine ⟨.exact,a,rfl,hc,?_⟩
  nofun
  exact h
 | false =>
  have ee:Cnt.each y=366:=by unfold Cnt.each;rw[lp];rfl
  rw[ee] at e1
  rw[e1] at h
  nofun
  refine ⟨.exact,a,rfl,hc,?_⟩
  nofun
  exact h
noncomputable def bG (c:Addr) (g:Int) (qs:List Addr):List (Str × V):=("own_count", V.ref c)::("own_grace", V.int g)::List.zipWith (fun (n:Str) q=>(n,V.ref q)) ["own_entries", "out_sums", "fee_sums", "pay_sums", "turn_days", "rate_rows", "late_rows", "spans", "due_sums"] qs
def Nw (H:Hp) (A:BkA):Prop:=∀ p∈[A.e,A.o,A.f,A.p,A.t,A.r,A.l,A.s,A.d],H p=none
theorem Nw.gone {G H:Hp} {A:BkA} (n:Nw H A) (s:Same G H):Nw G A:=fun p hp=>zx s (n p hp)
theorem zuP {K:W.Frag} {H:Hp} {c q:Addr} {kd:Kd} {ys zs:List V} (h:zbR K H c kd) (hq:H q=some (.lst ys)):zbR K (upd H q (.lst zs)) c kd:=by
 obtain ⟨dx,e⟩:=h
 exact ⟨dx,by rw[zr (zae e hq (by intro z;cases z))];exact e⟩
theorem zhN {K:W.Frag} {H:Hp} {a q:Addr} {l:List (Int × Int)} {ys zs:List V} (h:LP K H a l) (hq:H q=some (.lst ys)) (ne:a≠q):LP K (upd H q (.lst zs)) a l:=by
 obtain ⟨xs,e,r,z⟩:=h
 exact ⟨xs,by rw[zr ne];exact e,r.put hq,z⟩
theorem zyr {K:W.Frag} {H:Hp} {q:Addr} {xs ys zs:List V} {es:List Er} (h:EL K H xs es) (hq:H q=some (.lst ys)):EL K (upd H q (.lst zs)) xs es :=
 LL.imp (fun v e ⟨a,dx,e1,e2⟩=>⟨a,dx,e1,by rw[zeO,zr (zae e2 hq (by intro z;cases z))];exact e2⟩) h
theorem zyy {K:W.Frag} {H G:Hp} {a q:Addr} {A:BkA} {b:BkT} {ys zs us:List V} (B:zaK K H a A b) (N:Nw G A) (hG:G q=some (.lst us)) (hq:H q=some (.lst ys)):zaK K (upd H q (.lst zs)) a A b:=by
 have ne:∀ p∈[A.e,A.o,A.f,A.p,A.t,A.r,A.l,A.s,A.d],p≠q:=fun p hp e=>by
  have:=N p hp
  rw[e,hG] at this
  cases this
 obtain ⟨xs,e,r⟩:=B.ents
 exact ⟨by rw[zr (zae B.ins hq (by intro z;cases z))];exact B.ins,zuP B.cnt hq,⟨xs,by rw[zr (ne _ (by simp))];exact e,zyr r hq⟩,zhN B.outs hq (ne _ (by simp)),zhN B.fees hq (ne _ (by simp)),zhN B.pays hq (ne _ (by simp)),by rw[zr (ne _ (by simp))];exact B.turns,zhN B.rates hq (ne _ (by simp)),zhN B.lates hq (ne _ (by simp)),zhN B.spans hq (ne _ (by simp)),zhN B.dues hq (ne _ (by simp))⟩
def zhn (K:W.Frag):Sp:=fun vs H Q _=>L2.Ee9 fun a dx c p kd g xs (es:List Er) G=>L2.zqC (vs=[.ref a,.ref c,.int g,.ref p]) (H a=some (.ins (cA K "Book") dx [])) ((G a=none/\Same G H)) (zbR K G c kd) ((0<=g/\g<=366)) (SqL K G p xs) (EL K G xs es) (es.length<=61) ((∀ e∈es,0<=e.2.1)) (∀ A (b:BkT) H',Same G H'->Nw G A->zaK K H' a A b->zbj b->b.kd=kd->b.g=g->b.es=es->Q .non H')
theorem nw9 {H:Hp} {dx c e o f p t r l s d:Addr} (h1:H e=none) (h2:H o=none) (h3:H f=none) (h4:H p=none) (h5:H t=none) (h6:H r=none) (h7:H l=none) (h8:H s=none) (h9:H d=none):Nw H ⟨dx,c,e,o,f,p,t,r,l,s,d⟩:=by
 intro x hx
 simp at hx
 rcases hx with rfl | rfl | rfl | rfl | rfl | rfl | rfl | rfl | rfl <;> assumption
theorem zl7 {r l:List (Int × Int)} (T:Sby.Tab r l):r.length<=l.length:=by
 have:=zg7 (Sby.zem T.up) fun k hk=>(T.mem k).mp hk
 rw[yab,yab] at this
 exact this
theorem zqK:zk qbb qbb (zg zfz):=by walk_at "sp"
theorem zsJ (S:zq K (cA K "Book") "__init__" "Book.__init__" zfz qbb) (T:Txt K mg) (zgt:Def P w K mg base 3 "check_terms" qbg (zjG K)) (zcM:Def P w K mg base 2 "sum_by" qae (zlx K)) (zlH:Def P w K mg base 2 "days_of" qae (znu K)) (zes:Def P w K mg base 2 "rate_table" qae (zkU K)) (zgu:Def P w K mg base 2 "still_spans" qbq (zjI K)) (zf3:Def P w K mg base 3 "fallen_dues" qbh (zjO K)):zu P w K mg base 4 (cA K "Book") "__init__" qbb (zhn K):=by
 exists S.ok,zqK,0
 all_goals obtain ⟨a,dx,c,p,kd,g,xs,es,G,rfl,ea,⟨na,sG⟩,hc,hg,hp,hE,hl,e0,h⟩:=h
 ·rfl
 refine ⟨_,(zb (zaa (zt zgt hr (za (pv 1) (za (pv 2) zd))))
  (zb (zX (zz zgR (zA zan rfl T.zbN PySem.boot_len (za (pv 3) zd)) (zbJ T.zdi) (nomark _))
   zf1
   zO)
  (zb (zaG T.zy T.zbp (pv 0) (pv 1))
  (zb (zaG T.zy T.zbo (pv 0) (pv 2))
  (zb (zaG T.zy T.za7 (pv 0) (zM zaM rfl T.zbO PyProof.Rows.boot_list (za (pv 3) zd)))
  (zb (zaG T.zy T.zbz (pv 0) (zt zcM hr (za (pv 3) (za zB zd))))
  (zb (zaG T.zy T.zbB (pv 0) (zt zcM hr (za (pv 3) (za zB zd))))
  (zb (zaG T.zy T.zbE (pv 0) (zt zcM hr (za (pv 3) (za zB zd))))
  (zb (zaG T.zy T.zbn (pv 0) (zt zlH hr (za (pv 3) (za zB zd))))
  (zb (zaG T.zy T.zbX (pv 0) (zt zes hr (za (pv 3) (za zB zd))))
  (zb (zaG T.zy T.zbW (pv 0) (zt zes hr (za (pv 3) (za zB zd))))
  (zb (zaG T.zy T.zcq (pv 0) (zt zgu hr (za (pv 3) zd)))
  (ze (zaG T.zy T.zcd (pv 0) (zt zf3 hr (za (pv 3) (za (zZ T.zy T.zcq (pv 0)) zd))))))))))))))))),?_⟩
 have sz:=sizeLine_eq
 have xl:=hE.length
 have pl:∀ w,(prs w es).length<=61:=fun w=>ydc zgW hl
 nofun
 refine ⟨c,kd,g,rfl,hc.same sG,hg,?_⟩
 have hp0:=sG.seq hp
 nofun
 ·ac_rfl
 refine ⟨a,dx,[],rfl,ea,by decide,?_⟩
 rw[show zaY ("own_count" : Str) (V.ref c) ([]:List (Str × V))=([("own_count", V.ref c)]:List (Str × V)) from rfl]
 nofun
 refine ⟨a,dx,_,rfl,zh,ycz (ycx 1) (by decide),?_⟩
 rw[show zaY ("own_grace" : Str) (V.int g) ([("own_count", V.ref c)]:List (Str × V))=(bG c g []) from rfl]
 rw[zad]
 have e2:upd H a (.ins (cA K "Book") dx (bG c g [])) a=some (.ins (cA K "Book") dx (bG c g [])):=zh
 have s2:Same G (upd H a (.ins (cA K "Book") dx (bG c g []))):=zJ sG na
 generalize upd H a (.ins (cA K "Book") dx (bG c g []))=H2 at e2 s2 ⊢
 nofun
 refine ⟨p,xs,rfl,.inl (s2.seq hp),fun q3 n3=>?_⟩
 have t3:=zf n3 (.lst xs)
 have z3:=zG (.lst xs) n3
 have c3:=t3 _ _ e2
 nofun
 refine ⟨a,dx,_,rfl,c3,ycz (ycx 2) (by decide),?_⟩
 rw[show zaY ("own_entries" : Str) (V.ref q3) (bG c g [])=(bG c g [q3]) from rfl]
 have k3:Same (wo H2 a) (wo (upd (upd H2 q3 (.lst xs)) a (.ins (cA K "Book") dx (bG c g [q3]))) a):=zcV t3
 have s3:Same G (upd (upd H2 q3 (.lst xs)) a (.ins (cA K "Book") dx (bG c g [q3]))):=zJ (s2.trans t3) na
 have e3:(upd (upd H2 q3 (.lst xs)) a (.ins (cA K "Book") dx (bG c g [q3]))) a=some (.ins (cA K "Book") dx (bG c g [q3])):=zh
 have L3:wo (upd (upd H2 q3 (.lst xs)) a (.ins (cA K "Book") dx (bG c g [q3]))) a q3=some (.lst xs):=by rw[zdn];exact zq0 z3 c3
 generalize upd (upd H2 q3 (.lst xs)) a (.ins (cA K "Book") dx (bG c g [q3]))=H3 at k3 s3 e3 L3 ⊢
 nofun
 refine ⟨p,xs,es, "out", rfl,s3.seq hp,hE.same s3,hl,.inl rfl,fun q4 G4 w4 r4 n4 t4 z4 R4 T4=>?_⟩
 have c4:=t4 _ _ e3
 nofun
 refine ⟨a,dx,_,rfl,c4,ycz (ycx 3) (by decide),?_⟩
 rw[show zaY ("out_sums" : Str) (V.ref q4) (bG c g [q3])=(bG c g [q3,q4]) from rfl]
 have k4:Same (wo H3 a) (wo (upd G4 a (.ins (cA K "Book") dx (bG c g [q3,q4]))) a):=zcV t4
 have s4:Same G (upd G4 a (.ins (cA K "Book") dx (bG c g [q3,q4]))):=zJ (s3.trans t4) na
 have e4:(upd G4 a (.ins (cA K "Book") dx (bG c g [q3,q4]))) a=some (.ins (cA K "Book") dx (bG c g [q3,q4])):=zh
 have L4:LP K (wo (upd G4 a (.ins (cA K "Book") dx (bG c g [q3,q4]))) a) q4 r4:=by rw[zdn];exact LP.wo ⟨w4,z4,R4,(by have:=zl7 T4;have:=pl "out";ac_rfl)⟩ c4
 generalize upd G4 a (.ins (cA K "Book") dx (bG c g [q3,q4]))=H4 at k4 s4 e4 L4 ⊢
 nofun
 refine ⟨p,xs,es, "fee", rfl,s4.seq hp,hE.same s4,hl,.inr (.inl rfl),fun q5 G5 w5 r5 n5 t5 z5 R5 T5=>?_⟩
 have c5:=t5 _ _ e4
 nofun
 refine ⟨a,dx,_,rfl,c5,ycz (ycx 4) (by decide),?_⟩
 rw[show zaY ("fee_sums" : Str) (V.ref q5) (bG c g [q3,q4])=(bG c g [q3,q4,q5]) from rfl]
 have k5:Same (wo H4 a) (wo (upd G5 a (.ins (cA K "Book") dx (bG c g [q3,q4,q5]))) a):=zcV t5
 have s5:Same G (upd G5 a (.ins (cA K "Book") dx (bG c g [q3,q4,q5]))):=zJ (s4.trans t5) na
 have e5:(upd G5 a (.ins (cA K "Book") dx (bG c g [q3,q4,q5]))) a=some (.ins (cA K "Book") dx (bG c g [q3,q4,q5])):=zh
 have L5:LP K (wo (upd G5 a (.ins (cA K "Book") dx (bG c g [q3,q4,q5]))) a) q5 r5:=by rw[zdn];exact LP.wo ⟨w5,z5,R5,(by have:=zl7 T5;have:=pl "fee";ac_rfl)⟩ c5
 generalize upd G5 a (.ins (cA K "Book") dx (bG c g [q3,q4,q5]))=H5 at k5 s5 e5 L5 ⊢
 nofun
 refine ⟨p,xs,es, "pay", rfl,s5.seq hp,hE.same s5,hl,.inr (.inr (.inl rfl)),fun q6 G6 w6 r6 n6 t6 z6 R6 T6=>?_⟩
 have c6:=t6 _ _ e5
 nofun
 refine ⟨a,dx,_,rfl,c6,ycz (ycx 5) (by decide),?_⟩
 rw[show zaY ("pay_sums" : Str) (V.ref q6) (bG c g [q3,q4,q5])=(bG c g [q3,q4,q5,q6]) from rfl]
 have k6:Same (wo H5 a) (wo (upd G6 a (.ins (cA K "Book") dx (bG c g [q3,q4,q5,q6]))) a):=zcV t6
 have s6:Same G (upd G6 a (.ins (cA K "Book") dx (bG c g [q3,q4,q5,q6]))):=zJ (s5.trans t6) na
 have e6:(upd G6 a (.ins (cA K "Book") dx (bG c g [q3,q4,q5,q6]))) a=some (.ins (cA K "Book") dx (bG c g [q3,q4,q5,q6])):=zh
 have L6:LP K (wo (upd G6 a (.ins (cA K "Book") dx (bG c g [q3,q4,q5,q6]))) a) q6 r6:=by rw[zdn];exact LP.wo ⟨w6,z6,R6,(by have:=zl7 T6;have:=pl "pay";ac_rfl)⟩ c6
 generalize upd G6 a (.ins (cA K "Book") dx (bG c g [q3,q4,q5,q6]))=H6 at k6 s6 e6 L6 ⊢
 nofun
 refine ⟨p,xs,es, "turn", rfl,s6.seq hp,hE.same s6,hl,fun q7 G7 r7 n7 t7 z7 T7=>?_⟩
 have c7:=t7 _ _ e6
 nofun
 refine ⟨a,dx,_,rfl,c7,ycz (ycx 6) (by decide),?_⟩
 rw[show zaY ("turn_days" : Str) (V.ref q7) (bG c g [q3,q4,q5,q6])=(bG c g [q3,q4,q5,q6,q7]) from rfl]
 have k7:Same (wo H6 a) (wo (upd G7 a (.ins (cA K "Book") dx (bG c g [q3,q4,q5,q6,q7]))) a):=zcV t7
 have s7:Same G (upd G7 a (.ins (cA K "Book") dx (bG c g [q3,q4,q5,q6,q7]))):=zJ (s6.trans t7) na
 have e7:(upd G7 a (.ins (cA K "Book") dx (bG c g [q3,q4,q5,q6,q7]))) a=some (.ins (cA K "Book") dx (bG c g [q3,q4,q5,q6,q7])):=zh
 have L7:wo (upd G7 a (.ins (cA K "Book") dx (bG c g [q3,q4,q5,q6,q7]))) a q7=some (.lst (r7.map V.int)):=by rw[zdn];exact zq0 z7 c7
 generalize upd G7 a (.ins (cA K "Book") dx (bG c g [q3,q4,q5,q6,q7]))=H7 at k7 s7 e7 L7 ⊢
 nofun
 refine ⟨p,xs,es, "rate", rfl,s7.seq hp,hE.same s7,hl,.inl rfl,e0,fun q8 G8 w8 r8 n8 t8 z8 R8 T8 T8' y8=>?_⟩
 have c8:=t8 _ _ e7
 nofun
 refine ⟨a,dx,_,rfl,c8,ycz (ycx 7) (by decide),?_⟩
 rw[show zaY ("rate_rows" : Str) (V.ref q8) (bG c g [q3,q4,q5,q6,q7])=(bG c g [q3,q4,q5,q6,q7,q8]) from rfl]
 have k8:Same (wo H7 a) (wo (upd G8 a (.ins (cA K "Book") dx (bG c g [q3,q4,q5,q6,q7,q8]))) a):=zcV t8
 have s8:Same G (upd G8 a (.ins (cA K "Book") dx (bG c g [q3,q4,q5,q6,q7,q8]))):=zJ (s7.trans t8) na
 have e8:(upd G8 a (.ins (cA K "Book") dx (bG c g [q3,q4,q5,q6,q7,q8]))) a=some (.ins (cA K "Book") dx (bG c g [q3,q4,q5,q6,q7,q8])):=zh
 have L8:LP K (wo (upd G8 a (.ins (cA K "Book") dx (bG c g [q3,q4,q5,q6,q7,q8]))) a) q8 r8:=by rw[zdn];exact LP.wo ⟨w8,z8,R8,(by ac_rfl)⟩ c8
 generalize upd G8 a (.ins (cA K "Book") dx (bG c g [q3,q4,q5,q6,q7,q8]))=H8 at k8 s8 e8 L8 ⊢
 nofun
 refine ⟨p,xs,es, "late", rfl,s8.seq hp,hE.same s8,hl,.inr rfl,e0,fun q9 G9 w9 r9 n9 t9 z9 R9 T9 T9' y9=>?_⟩
 have c9:=t9 _ _ e8
 nofun
 refine ⟨a,dx,_,rfl,c9,ycz (ycx 8) (by decide),?_⟩
 rw[show zaY ("late_rows" : Str) (V.ref q9) (bG c g [q3,q4,q5,q6,q7,q8])=(bG c g [q3,q4,q5,q6,q7,q8,q9]) from rfl]
 have k9:Same (wo H8 a) (wo (upd G9 a (.ins (cA K "Book") dx (bG c g [q3,q4,q5,q6,q7,q8,q9]))) a):=zcV t9
 have s9:Same G (upd G9 a (.ins (cA K "Book") dx (bG c g [q3,q4,q5,q6,q7,q8,q9]))):=zJ (s8.trans t9) na
 have e9:(upd G9 a (.ins (cA K "Book") dx (bG c g [q3,q4,q5,q6,q7,q8,q9]))) a=some (.ins (cA K "Book") dx (bG c g [q3,q4,q5,q6,q7,q8,q9])):=zh
 have L9:LP K (wo (upd G9 a (.ins (cA K "Book") dx (bG c g [q3,q4,q5,q6,q7,q8,q9]))) a) q9 r9:=by rw[zdn];exact LP.wo ⟨w9,z9,R9,(by ac_rfl)⟩ c9
 generalize upd G9 a (.ins (cA K "Book") dx (bG c g [q3,q4,q5,q6,q7,q8,q9]))=H9 at k9 s9 e9 L9 ⊢
 nofun
 refine ⟨p,xs,es,rfl,s9.seq hp,hE.same s9,hl,fun q10 G10 w10 r10 n10 t10 z10 R10 J10 V10 y10=>?_⟩
 have c10:=t10 _ _ e9
 nofun
 refine ⟨a,dx,_,rfl,c10,ycz (ycx 9) (by decide),?_⟩
 rw[show zaY ("spans" : Str) (V.ref q10) (bG c g [q3,q4,q5,q6,q7,q8,q9])=(bG c g [q3,q4,q5,q6,q7,q8,q9,q10]) from rfl]
 have k10:Same (wo H9 a) (wo (upd G10 a (.ins (cA K "Book") dx (bG c g [q3,q4,q5,q6,q7,q8,q9,q10]))) a):=zcV t10
 have s10:Same G (upd G10 a (.ins (cA K "Book") dx (bG c g [q3,q4,q5,q6,q7,q8,q9,q10]))):=zJ (s9.trans t10) na
 have e10:(upd G10 a (.ins (cA K "Book") dx (bG c g [q3,q4,q5,q6,q7,q8,q9,q10]))) a=some (.ins (cA K "Book") dx (bG c g [q3,q4,q5,q6,q7,q8,q9,q10])):=zh
 have L10:LP K (wo (upd G10 a (.ins (cA K "Book") dx (bG c g [q3,q4,q5,q6,q7,q8,q9,q10]))) a) q10 r10:=by rw[zdn];exact LP.wo ⟨w10,z10,R10,(by ac_rfl)⟩ c10
 generalize upd G10 a (.ins (cA K "Book") dx (bG c g [q3,q4,q5,q6,q7,q8,q9,q10]))=H10 at k10 s10 e10 L10 ⊢
 nofun
 refine ⟨a,dx,_,_,rfl,e10,rfl,?_⟩
 nofun
 obtain ⟨w10',z10',R10',_⟩:=L10.same zcv
 refine ⟨p,q10,xs,w10',es,r10,rfl,s10.seq hp,hE.same s10,hl,⟨SqL.of z10',R10',J10⟩,fun q11 G11 w11 r11 n11 t11 z11 R11 T11=>?_⟩
 rw[zxM V10] at T11
 have c11:=t11 _ _ e10
 nofun
 refine ⟨a,dx,_,rfl,c11,ycz (ycx 10) (by decide),?_⟩
 rw[show zaY ("due_sums" : Str) (V.ref q11) (bG c g [q3,q4,q5,q6,q7,q8,q9,q10])=(bG c g [q3,q4,q5,q6,q7,q8,q9,q10,q11]) from rfl]
 have k11:Same (wo H10 a) (wo (upd G11 a (.ins (cA K "Book") dx (bG c g [q3,q4,q5,q6,q7,q8,q9,q10,q11]))) a):=zcV t11
 have s11:Same G (upd G11 a (.ins (cA K "Book") dx (bG c g [q3,q4,q5,q6,q7,q8,q9,q10,q11]))):=zJ (s10.trans t11) na
 have e11:(upd G11 a (.ins (cA K "Book") dx (bG c g [q3,q4,q5,q6,q7,q8,q9,q10,q11]))) a=some (.ins (cA K "Book") dx (bG c g [q3,q4,q5,q6,q7,q8,q9,q10,q11])):=zh
 have L11:LP K (wo (upd G11 a (.ins (cA K "Book") dx (bG c g [q3,q4,q5,q6,q7,q8,q9,q10,q11]))) a) q11 r11:=by rw[zdn];exact LP.wo ⟨w11,z11,R11,(by have:=zl7 T11;have:(mvp (mvd (prs "still" es)) (prs "due" es)).length=(prs "due" es).length:=yab ..;have:=pl "due";ac_rfl)⟩ c11
 generalize upd G11 a (.ins (cA K "Book") dx (bG c g [q3,q4,q5,q6,q7,q8,q9,q10,q11]))=H11 at k11 s11 e11 L11 ⊢
 nofun
 refine h ⟨dx,c,q3,q4,q5,q6,q7,q8,q9,q10,q11⟩ ⟨kd,g,es,r4,r5,r6,r7,r8,r9,r10,r11⟩ H11 s11 (nw9 (zx s2 n3) (zx s3 n4) (zx s4 n5) (zx s5 n6) (zx s6 n7) (zx s7 n8) (zx s8 n9) (zx s9 n10) (zx s10 n11)) ⟨e11,hc.same s11,⟨xs,(k4.trans (k5.trans (k6.trans (k7.trans (k8.trans (k9.trans (k10.trans (k11.trans zcv)))))))) _ _ L3,hE.same s11⟩,L4.same (k5.trans (k6.trans (k7.trans (k8.trans (k9.trans (k10.trans (k11.trans zcv))))))),L5.same (k6.trans (k7.trans (k8.trans (k9.trans (k10.trans (k11.trans zcv)))))),L6.same (k7.trans (k8.trans (k9.trans (k10.trans (k11.trans zcv))))),(k8.trans (k9.trans (k10.trans (k11.trans zcv)))) _ _ L7,L8.same (k9.trans (k10.trans (k11.trans zcv))),L9.same (k10.trans (k11.trans zcv)),L10.same (k11.trans zcv),L11.same zcv⟩ ⟨T4,T5,T6,T7,⟨T8,T8'⟩,⟨T9,T9'⟩,⟨J10,V10⟩,T11⟩ rfl rfl rfl
def zkM (K:W.Frag):Sp:=fun vs H Q _=>L2.Ee5 fun a p A (b:BkT) (ds:List Int)=>L2.Aa6 (vs=[.ref a,.ref p]) (zaK K H a A b) (b.es.length<=61) (H p=some (.lst (ds.map V.int))) (zfW ds) (Q .non H)
theorem zp7:zk qah qah (zg zeI):=by walk_at "sp"
theorem zrl (S:Src K mg "check_days" zeI qah) (T:Txt K mg) (zjS:Def P w K mg base 3 "are_days" qbi (zmE K)) (zaH:zu P w K mg base 1 (cA K "Book") "entries" qaa (zcF K)):Def P w K mg base 4 "check_days" qah (zkM K):=by
 exists S.okF,zp7,0
 all_goals obtain ⟨a,p,A,b,ds,rfl,B,el,hp,D,h⟩:=h
 ·rfl
 refine ⟨_,(zb (zX (zfX (zcR (zt zjS hr (za (pv 1) zd))))
   zf1
   zO)
  (ze (zX (zz zgR (zj zF (zA zan rfl T.zbN PySem.boot_len (za (zK zaH T.zy hr (pv 0)) zd)) (zA zan rfl T.zbN PySem.boot_len (za (pv 1) zd))) (zbJ T.zdi) (nomark _))
   zf1
   zO))),?_⟩
 have sz:=sizeLine_eq
 have l2:=D.l2
 have lm:(ds.map V.int).length=ds.length:=yab ..
 nofun
 first | refine ⟨p,ds,rfl,hp,D,?_⟩ | refine ⟨ds,hp,D,?_⟩
 nofun
 refine ⟨a,A.dx,_,rfl,B.ins,rfl,a,A,b,rfl,B,fun q xs nq hE=>?_⟩
 have xl:=hE.length
 have s1:=zf nq (.lst xs)
 have e1:=zG (.lst xs) nq
 nofun
 refine ⟨q,_,rfl,.inl (SqL.of e1),?_⟩
 nofun
 refine ⟨p,_,rfl,.inl (SqL.of (s1 _ _ hp)),?_⟩
 nofun
 ·ac_rfl
 first | exact ⟨s1,h⟩ | exact h
def zn3 (K:W.Frag):Sp:=fun vs H Q _=>∃ (p:Addr) (xs:List V) (l:List (Int × Int)),vs=[.ref p]/\H p=some (.lst xs)/\zH K H xs l/\l.length<=61/\∀ q ys H',H q=none->Same H H'->H' q=some (.lst ys)->EL K H' ys (zaD l)->Q (.ref q) H'
theorem zxO {K:W.Frag} {H:Hp} {ys:List V} {gs:List (Int × Int)} (h:LL (fun v (s:Int × Int)=>∃ a dx,v=.ref a/\zeO K H a dx .pay s.1 s.2) ys gs):EL K H ys (gs.map fun s=>(.pay,s.1,s.2)):=by
 induction h with
 | nil=>exact .nil
 | cons h _ ih=>exact .cons h ih
theorem zuh:zk qam qam (zg zih):=by walk_at "sp"
theorem zuS (S:Src K mg "as_pays" zih qam) (T:Txt K mg) (zcY:zu P w K mg base 2 (cA K "Pay") "__init__" qai (zaR K)):Def P w K mg base 4 "as_pays" qam (zn3 K):=by
 exists S.ok,zuh,0
 all_goals obtain ⟨p,xs,l,rfl,hp,hR,hl,h⟩:=h
 ·rfl
 refine ⟨_,(ze (zo (zcQ (ix:=[]) ⟨rfl,by decide +kernel,rfl,by decide +kernel,rfl,(show (["row"]:List Str).Nodup by decide +kernel),by walk_at "cap", by walk_at "sub", by walk_at "has"⟩ (zQ (pv 0)) (fun b=>(zz zgR (zv (zbI K) (pv 0) zc (fun _ _=>rfl)) zc (nomark _))) (fun b=>(zbb T.zny zcY hr T.zqd (za (zv (zbI K) (pv 0) zc (fun _ _=>rfl)) (za (zv (zbI K) (pv 0) zc (fun _ _=>rfl)) zd))))))),?_⟩
 have sz:=sizeLine_eq
 have xl:=hR.length
 nofun
 refine ⟨⟨_,SqL.of hp⟩,fun q nq=>?_⟩
 refine zeU (zab (SqL.of hp)) nq (by ac_rfl) l xl.symm (fun s=>decide (s.2 > 0)) (fun H' v s=>∃ a dx,v=.ref a/\zeO K H' a dx .pay s.1 s.2) (fun v e H1 H2 s ⟨t,dx,e1,e2⟩=>⟨t,dx,e1,s _ _ e2⟩) (fun v e H1 ys zs hL ⟨t,dx,e1,e2⟩=>⟨t,dx,e1,by rw[zeO,zr (zae e2 hL (by intro z;cases z))];exact e2⟩) ?_ ?_ ?_
 ·rintro i x s H' Q' hx hs sH hq
  obtain ⟨t,s',rfl,hs',ht⟩:=(hR.same sH).get hx
  obtain rfl:s'=s:=Option.some.inj (hs'.symm.trans hs)
  nofun
  exact hq
 ·rintro i x s H' Q' hx hs fs sH hq
  obtain ⟨t,s',rfl,hs',ht⟩:=(hR.same sH).get hx
  obtain rfl:s'=s:=Option.some.inj (hs'.symm.trans hs)
  nofun
  intro a dx na nd ne
  refine ⟨a,_,dx,s'.1,s'.2,rfl,zh,T.clE .pay,T.zau .pay,T.zbe .pay,rfl,?_⟩
  rw[zad]
  exact hq _ _ ((zf nd _).trans (zf (by rw[zr ne.symm];exact na) _)) ⟨a,dx,rfl,zh⟩
 ·rintro ys H' sH eL hL
  exact h q ys H' nq sH eL (zxO hL)
def zk6 (K:W.Frag):Sp:=fun vs H Q _=>L2.Ee4 fun r k d x=>L2.Aa4 (vs=[.ref r]) (H r=some (.tup (zcB k d x))) (k≠.base) (∀ a dx H',Same H H'->H a=none->zeO K H' a dx k d x->Q (.ref a) H')
theorem zeG:zk ["_law_row_here", "_law_word", "_law_day", "_law_value_here"] qas (zg zfl):=by walk_at "sp"
theorem zs3 (S:Src K mg "_law_made" zfl qas) (T:Txt K mg) (zks:zu P w K mg base 2 (cA K "Out") "__init__" qai (zaR K)) (zjW:zu P w K mg base 2 (cA K "Fee") "__init__" qai (zaR K)) (ziY:zu P w K mg base 1 (cA K "Turn") "__init__" qac (zbM K)) (zcY:zu P w K mg base 2 (cA K "Pay") "__init__" qai (zaR K)) (zkh:zu P w K mg base 2 (cA K "Due") "__init__" qai (zaR K)) (zjk:zu P w K mg base 2 (cA K "Rate") "__init__" qau (zdk K)) (ziA:zu P w K mg base 2 (cA K "Late") "__init__" qau (zdk K)) (zhl:zu P w K mg base 2 (cA K "Still") "__init__" qbe (zkT K)):Def P w K mg base 4 "_law_made" qas (zk6 K):=by
 exists S.ok,zeG,0
 all_goals obtain ⟨r,k,d,x,rfl,e,h2,h⟩:=h
 ·rfl
 refine ⟨_,(zb (zhx (pv 0) (zeh rfl (zV (zI (i:=1) zeG.nd rfl (by walk_at "lc")) (zV (zI (i:=2) zeG.nd rfl (by walk_at "lc")) (zV (zI (i:=3) zeG.nd rfl (by walk_at "lc")) zc3)))))
  (zb (zX (zz zak (pv 1) zB (nomark _))
  (ze (zo (zbb T.zqJ zks hr T.zup (za (pv 2) (za (pv 3) zd)))))
   zO)
  (zb (zX (zz zak (pv 1) zB (nomark _))
  (ze (zo (zbb T.zrh zjW hr T.ztU (za (pv 2) (za (pv 3) zd)))))
   zO)
  (zb (zX (zz zak (pv 1) zB (nomark _))
  (ze (zo (zbb T.zof ziY hr T.zq3 (za (pv 2) zd))))
   zO)
  (zb (zX (zz zak (pv 1) zB (nomark _))
  (ze (zo (zbb T.zny zcY hr T.zqd (za (pv 2) (za (pv 3) zd)))))
   zO)
  (zb (zX (zz zak (pv 1) zB (nomark _))
  (ze (zo (zbb T.zqT zkh hr T.ztP (za (pv 2) (za (pv 3) zd)))))
   zO)
  (zb (zX (zz zak (pv 1) zB (nomark _))
  (ze (zo (zbb T.zo0 zjk hr T.zro (za (pv 2) (za (pv 3) zd)))))
   zO)
  (zb (zX (zz zak (pv 1) zB (nomark _))
  (ze (zo (zbb T.zoK ziA hr T.zqP (za (pv 2) (za (pv 3) zd)))))
   zO)
  (ze (zo (zbb T.zmX zhl hr T.zoS (za (pv 2) (za (pv 3) zd))))))))))))),?_⟩
 cases k with
 | base=>exact absurd rfl h2
 | turn =>
  dsimp only [zcB,Ek.word] at e
  nofun
  refine ⟨r,_,rfl,SqT.of e,rfl,?_⟩
  nofun
  intro a dx na nd ne
  refine ⟨a,_,dx,[],d,rfl,zh,T.clE .turn,T.zau .turn,by decide,rfl,?_⟩
  rw[zad]
  exact h a dx _ ((zf nd _).trans (zf (by rw[zr ne.symm];exact na) _)) na zh
 | out =>
  dsimp only [zcB,Ek.word] at e
  nofun
  refine ⟨r,_,rfl,SqT.of e,rfl,?_⟩
  nofun
  intro a dx na nd ne
  refine ⟨a,_,dx,d,x,rfl,zh,T.clE .out,T.zau .out,T.zbe .out,rfl,?_⟩
  rw[zad]
  nofun
  exact h a dx _ ((zf nd _).trans (zf (by rw[zr ne.symm];exact na) _)) na zh
 | fee =>
  dsimp only [zcB,Ek.word] at e
  nofun
  refine ⟨r,_,rfl,SqT.of e,rfl,?_⟩
  nofun
  intro a dx na nd ne
  refine ⟨a,_,dx,d,x,rfl,zh,T.clE .fee,T.zau .fee,T.zbe .fee,rfl,?_⟩
  rw[zad]
  nofun
  exact h a dx _ ((zf nd _).trans (zf (by rw[zr ne.symm];exact na) _)) na zh
 | pay =>
  dsimp only [zcB,Ek.word] at e
  nofun
  refine ⟨r,_,rfl,SqT.of e,rfl,?_⟩
  nofun
  intro a dx na nd ne
  refine ⟨a,_,dx,d,x,rfl,zh,T.clE .pay,T.zau .pay,T.zbe .pay,rfl,?_⟩
  rw[zad]
  nofun
  exact h a dx _ ((zf nd _).trans (zf (by rw[zr ne.symm];exact na) _)) na zh
 | due =>
  dsimp only [zcB,Ek.word] at e
  nofun
  refine ⟨r,_,rfl,SqT.of e,rfl,?_⟩
  nofun
  intro a dx na nd ne
  refine ⟨a,_,dx,d,x,rfl,zh,T.clE .due,T.zau .due,T.zbe .due,rfl,?_⟩
  rw[zad]
  nofun
  exact h a dx _ ((zf nd _).trans (zf (by rw[zr ne.symm];exact na) _)) na zh
 | rate =>
  dsimp only [zcB,Ek.word] at e
  nofun
  refine ⟨r,_,rfl,SqT.of e,rfl,?_⟩
  nofun
  intro a dx na nd ne
  refine ⟨a,_,dx,d,x,rfl,zh,T.clE .rate,T.zau .rate,T.zhZ .rate,rfl,?_⟩
  rw[zad]
  nofun
  exact h a dx _ ((zf nd _).trans (zf (by rw[zr ne.symm];exact na) _)) na zh
 | late =>
  dsimp only [zcB,Ek.word] at e
  nofun
  refine ⟨r,_,rfl,SqT.of e,rfl,?_⟩
  nofun
  intro a dx na nd ne
  refine ⟨a,_,dx,d,x,rfl,zh,T.clE .late,T.zau .late,T.zhZ .late,rfl,?_⟩
  rw[zad]
  nofun
  exact h a dx _ ((zf nd _).trans (zf (by rw[zr ne.symm];exact na) _)) na zh
 | still =>
  dsimp only [zcB,Ek.word] at e
  nofun
  refine ⟨r,_,rfl,SqT.of e,rfl,?_⟩
  nofun
  intro a dx na nd ne
  refine ⟨a,_,dx,d,x,rfl,zh,T.clE .still,T.zau .still,T.zia .still,rfl,?_⟩
  rw[zad]
  nofun
  exact h a dx _ ((zf nd _).trans (zf (by rw[zr ne.symm];exact na) _)) na zh
def KdI (kd:Kd) (k:Int):Prop:=(kd=.plain/\k=0)\/(kd=.bank/\k=1)\/(kd=.thirty/\k=2)\/(kd=.exact/\k=3)
noncomputable def wts (kd:Kd) (b:Int) (n:Nat):List V:=(yba n).map fun k:Nat=>V.int (Uk kd (b+k+1)-Uk kd (b+k))
theorem zxt (kd:Kd) (b:Int) (n:Nat):(wts kd b n).length=n:=by simp[wts]
theorem zyx (kd:Kd) (b:Int) {n k:Nat} (h:k<n):(wts kd b n)[k]?=some (.int (Uk kd (b+k+1)-Uk kd (b+k))):=by simp[wts,h]
theorem zwB (kd:Kd) (b:Int) (n:Nat):wts kd b (n+1)=wts kd b n++[.int (Uk kd (b+n+1)-Uk kd (b+n))]:=by simp[wts,List.range_succ]
theorem zzf {y m r:Int} (D:Cal.zaL y m r):(r<Cal.mlen y m->Cal.zaL y m (r+1)/\Cal.num y m (r+1)=Cal.num y m r+1)/\(r=Cal.mlen y m->Cal.zaL (y+if m % 12+1=1 then 1 else 0) (m % 12+1) 1/\Cal.num (y+if m % 12+1=1 then 1 else 0) (m % 12+1) 1=Cal.num y m r+1):=by
 obtain ⟨y',m',r',D',e⟩:=Cal.zkZ D
 have m1:=D.m1
 have m2:=D.m2
 have m1':=D'.m1
 have m2':=D'.m2
 have d2':=D'.d2
 rcases Cnt.zj7 D D' e with ⟨rfl,rfl,rfl⟩ | ⟨hm,rfl,hr⟩
 ·exact ⟨fun _=>⟨D',e⟩,fun z=>by omega⟩
 ·refine ⟨fun z=>by omega,fun _=>?_⟩
  have em:m'=m % 12+1:=by omega
  have ey:y'=y+if m % 12+1=1 then 1 else 0:=by split <;> omega
  rw[<-ey,<-em]
  exact ⟨D',e⟩
theorem zzL {y m r:Int} (D:Cal.zaL y m r):Cnt.UT (Cal.num y m r+1)-Cnt.UT (Cal.num y m r)=if r=Cal.mlen y m then 31-(if 30<r then 30 else r) else if r<30 then 1 else 0:=by
 obtain ⟨y',m',r',D',e⟩:=Cal.zkZ D
 rw[Cnt.zxg D D' e]
 have m1:=D.m1
 have m2:=D.m2
 have m1':=D'.m1
 have m2':=D'.m2
 have d1:=D.d1
 have d2:=D.d2
 have d2':=D'.d2
 have li:=Cal.zdY (y:=y) m1 m2
 rcases Cnt.zj7 D D' e with ⟨rfl,rfl,rfl⟩ | ⟨hm,rfl,hr⟩
 ·rw[if_neg (show ¬ r=Cal.mlen y' m' by omega)]
  by_cases c:r+1=31
  ·rw[if_pos c,if_neg (by omega)]
  ·rw[if_neg c,if_neg (by omega),if_pos (by omega)]
 ·rw[if_pos hr,if_neg (show ¬ ((1:Int)=31) by decide)]
  have lp':=Cal.zkr y
  by_cases c:m=2
  ·subst c
   have e2:Cal.mlen y 2=28+Cal.lp y:=by unfold Cal.mlen;rw[if_pos rfl]
   rw[if_pos ⟨rfl,by omega⟩,if_neg (by omega)]
  ·rw[if_neg (fun z=>c z.1)]
   have:Cal.mlen y m=30\/Cal.mlen y m=31:=by
    unfold Cal.mlen
    rw[if_neg c]
    omega
   split <;> omega
theorem zzV {y m r:Int} (D:Cal.zaL y m r):Cnt.UE (Cal.num y m r+1)-Cnt.UE (Cal.num y m r)=366-Cal.lp y:=by
 have c:=Cal.zjB (y:=y) D.m1 D.m2
 have e:=Cal.zbv y
 have d1:=D.d1
 have d2:=D.d2
 exact Cnt.zxj (by unfold Cal.num;omega) (by unfold Cal.num;omega)
def zig (K:W.Frag):Sp:=fun vs H Q _=>L2.Ee4 fun kd (k b n:Int)=>L2.Aa6 (vs=[.int k,.int b,.int n]) (KdI kd k) (0<=b) (0<=n) (n<=1000) (∀ p H',Same H H'->H p=none->H' p=some (.lst (wts kd b n.toNat))->Q (.ref p) H')
theorem zaq:zk ["_law_kind", "_law_base_here", "_law_many", "_law_year", "_law_month", "_law_at", "_law_found", "_law_k", "_law_size"] qbw (zg zdg):=by walk_at "sp"
theorem zoN (S:Src K mg "_law_weights" zdg qbw) (T:Txt K mg) (ziV:Def P w K mg base 3 "_law_date" qbv (zk1 K)) (zaP:Def P w K mg base 2 "_law_month_size" qba (zcN K)) (za3:Def P w K mg base 1 "_law_leap" qaw (zei K)):Def P w K mg base 4 "_law_weights" qbw (zig K):=by
 exists S.ok,zaq,0
 all_goals obtain ⟨kd,k,b,n,rfl,hk,b0,n0,n1,h⟩:=h
 ·rfl
 refine ⟨_,(zb (zhx (zt ziV hr (za (pv 1) zd)) (zeh rfl (zV (zI (i:=3) zaq.nd rfl (by walk_at "lc")) (zV (zI (i:=4) zaq.nd rfl (by walk_at "lc")) (zV (zI (i:=5) zaq.nd rfl (by walk_at "lc")) zc3)))))
  (zb (zp (i:=6) zaq.nd rfl (by walk_at "lc") (zat zd))
  (zb (za6 PassesOwn.never rfl (zcJ rfl T.zb8 (za (pv 2) zd)) (zI (i:=7) zaq.nd rfl (by walk_at "lc"))
  (zb (zp (i:=8) zaq.nd rfl (by walk_at "lc") (zt zaP hr (za (pv 3) (za (pv 4) zd))))
  (zb (zrG (zX (zz zgI (pv 0) zc (nomark _))
  (ze (zaa (zcn PySem.F.plainAttrs_list PySem.F.slot_list_append PySem.F.type_list_append zaJ (pv 6) (za zc zd))))
  (ze (zX (zz zak (pv 0) zc (nomark _))
  (ze (zaa (zcn PySem.F.plainAttrs_list PySem.F.slot_list_append PySem.F.type_list_append zaJ (pv 6) (za (zv zD (zat (za (zM zfY rfl T.zdv PyProof.Rows.boot_int (za (zbc zgI (pv 5) zc (nomark _)) zd)) (za (zj zah zc (zA (zbu rfl) rfl T.zdp PyProof.Rows.boot_min (za (pv 5) (za zc zd)))) zd))) (zM zfY rfl T.zdv PyProof.Rows.boot_int (za (zbc zak (pv 5) (pv 8) (nomark _)) zd)) (fun _ _=>rfl)) zd))))
  (ze (zaa (zcn PySem.F.plainAttrs_list PySem.F.slot_list_append PySem.F.type_list_append zaJ (pv 6) (za (zj zah zc (zM zf0 rfl T.zdv PyProof.Rows.boot_int (za (zt za3 hr (za (pv 3) zd)) zd))) zd))))))))
  (zb (zp (i:=5) zaq.nd rfl (by walk_at "lc") (zj zF (pv 5) zc))
  (ze (zrG (zX (zz zgR (pv 5) (pv 8) (nomark _))
  (zb (zp (i:=5) zaq.nd rfl (by walk_at "lc") zc)
  (zb (zp (i:=4) zaq.nd rfl (by walk_at "lc") (zj zF (zj zS (pv 4) zc) zc))
  (ze (zp (i:=3) zaq.nd rfl (by walk_at "lc") (zj zF (pv 3) (zM zfY rfl T.zdv PyProof.Rows.boot_int (za (zbc zak (pv 4) zc (nomark _)) zd)))))))
   zO)))))))
  (ze (zo (pv 6)))))),?_⟩
 have sz:=sizeLine_eq
 nofun
 intro y m r t D e nt
 refine ⟨t,_,rfl,SqT.of zh,rfl,?_⟩
 have s1:=zf nt (.tup [.int y,.int m,.int r])
 generalize upd H t (.tup [.int y,.int m,.int r])=H1 at s1 ⊢
 nofun
 intro p np
 have s2:=s1.trans (zf np (.lst []))
 have npH:=zx s1 np
 have eP:=zG (.lst []) np
 generalize upd H1 p (.lst [])=H2 at s2 eP ⊢
 nofun
 refine zcP (fun i σ H'=>L2.Ee5 fun (y m r:Int) (z1 z2:Option V)=>L2.Aa4 ((Same H H'/\H' p=some (.lst (wts kd b i)))) (Cal.zaL y m r) (Cal.num y m r=b+i) (σ=[some (.int k),some (.int b),some (.int n),some (.int y),some (.int m),some (.int r),some (.ref p),z1,z2]))
  ⟨y,m,r,_,_,⟨s2,eP⟩,D,by rw[e];simp,rfl⟩ ?_ ?_
 ·clear e D
  rintro i σ H' hi ⟨y,m,r,z1,z2,⟨sH,eP'⟩,D,e,rfl⟩
  have m1:=D.m1
  have m2:=D.m2
  have d1:=D.d1
  have d2:=D.d2
  have ew:=zwB kd b i
  have wl:=zxt kd b i
  have nD:=zzf D
  nofun
  refine ⟨fun σ' H2=>(Same H H2/\H2 p=some (.lst (wts kd b (i+1))))/\σ'=[some (.int k),some (.int b),some (.int n),some (.int y),some (.int m),some (.int r),some (.ref p),some (.int (0+i)),some (.int (Cal.mlen y m))],?_,?_⟩
  ·rcases hk with ⟨rfl,rfl⟩ | ⟨rfl,rfl⟩ | ⟨rfl,rfl⟩ | ⟨rfl,rfl⟩
   ·have e1:Uk .plain (b+i+1)-Uk .plain (b+i)=1:=by show b+i+1-(b+i)=1;ac_rfl
    rw[e1] at ew
    rw[ew]
    nofun
    refine ⟨.inl ⟨rfl,_,SqL.of eP'⟩,?_⟩
    nofun
    refine ⟨p,_,_,rfl,rfl,eP',by ac_rfl,?_⟩
    exact ⟨⟨zJ sH npH,zh⟩,rfl⟩
   ·have e1:Uk .bank (b+i+1)-Uk .bank (b+i)=1:=by show b+i+1-(b+i)=1;ac_rfl
    rw[e1] at ew
    rw[ew]
    nofun
    refine ⟨.inl ⟨rfl,_,SqL.of eP'⟩,?_⟩
    nofun
    refine ⟨p,_,_,rfl,rfl,eP',by ac_rfl,?_⟩
    exact ⟨⟨zJ sH npH,zh⟩,rfl⟩
   ·have e1:Uk .thirty (b+i+1)-Uk .thirty (b+i)=if r=Cal.mlen y m then 31-(if 30<r then 30 else r) else if r<30 then 1 else 0:=by rw[<-e];exact zzL D
    rw[e1] at ew
    rw[ew]
    nofun
    refine ⟨.inl ⟨rfl,_,SqL.of eP'⟩,?_⟩
    nofun
    intro t1 ht1 hb1
    nofun
    intro q nq
    have s5:=zf nq (.lst [.int t1,.int (31-(if 30<r then 30 else r))])
    have eQ:=zG (.lst [.int t1,.int (31-(if 30<r then 30 else r))]) nq
    have eP5:=s5 _ _ eP'
    nofun
    intro t2 ht2 hb2
    nofun
    have at_:atI [V.int t1,.int (31-(if 30<r then 30 else r))] t2=some (.int (if r=Cal.mlen y m then 31-(if 30<r then 30 else r) else if r<30 then 1 else 0)):=by
     by_cases c:r=Cal.mlen y m
     ·have:t2=1:=by rw[ht2];simp[c]
      rw[this,if_pos c]
      rfl
     ·have h2:t2=0:=by rw[ht2];simp[c]
      have h1:t1=if r<30 then 1 else 0:=by rw[ht1];by_cases c2:r<30 <;> simp[c2]
      rw[h2,if_neg c,<-h1]
      rfl
    refine ⟨q,_,_,_,rfl,rfl,SqL.of eQ,at_,?_⟩
    nofun
    refine ⟨p,_,_,rfl,rfl,eP5,by ac_rfl,?_⟩
    exact ⟨⟨zJ (sH.trans s5) npH,zh⟩,rfl⟩
   ·have e1:Uk .exact (b+i+1)-Uk .exact (b+i)=366-Cal.lp y:=by rw[<-e];exact zzV D
    rw[e1] at ew
    rw[ew]
    nofun
    refine ⟨.inl ⟨rfl,_,SqL.of eP'⟩,?_⟩
    nofun
    refine .inr ⟨_,rfl,?_⟩
    nofun
    refine ⟨p,_,_,rfl,rfl,eP',by ac_rfl,?_⟩
    exact ⟨⟨zJ sH npH,zh⟩,rfl⟩
  rintro σ' H3 ⟨⟨sH3,eP3⟩,rfl⟩
  nofun
  refine ⟨fun σ' H4=>H3=H4/\∃ y m r:Int,Cal.zaL y m r/\Cal.num y m r=b+((i+1:Nat):Int)/\∃ z2,σ'=[some (.int k),some (.int b),some (.int n),some (.int y),some (.int m),some (.int r),some (.ref p),some (.int (0+i)),z2],?_,?_⟩
  ·nofun
   ·rename_i c
    have er:r=Cal.mlen y m:=by ac_rfl
    intro t ht hb
    nofun
    have et:t=if m % 12+1=1 then 1 else 0:=by
     rw[ht]
     by_cases c2:m % 12+1=1
     ·simp[c2]
     ·rw[if_neg c2]
      simp only[decide_eq_true_eq]
      rw[if_neg]
      intro z
      exact c2 (V.int.inj z)
    subst et
    have:=nD.2 er
    first | exact ⟨rfl,_,_,_,this.1,by rw[this.2,e];ac_rfl,_,rfl⟩ | exact ⟨_,_,_,this.1,by rw[this.2,e];ac_rfl,_,rfl⟩
   ·rename_i c
    have:=nD.1 (by ac_rfl)
    first | exact ⟨rfl,_,_,_,this.1,by rw[this.2,e];ac_rfl,_,rfl⟩ | exact ⟨_,_,_,this.1,by rw[this.2,e];ac_rfl,_,rfl⟩
  rintro σ' H4 ⟨rfl,y',m',r',D',e',z2,rfl⟩
  exact ⟨y',m',r',_,_,⟨sH3,eP3⟩,D',e',rfl⟩
 ·rintro σ H' ⟨y,m,r,z1,z2,⟨sH,eP'⟩,D,e,rfl⟩
  nofun
  exact h p H' sH npH eP'
noncomputable def uB (b:BkT):Int:=10000*yr b.kd
abbrev AB (b:BkT):Prop:=zyg (Uk b.kd) (uB b) b
noncomputable abbrev zN (b:BkT) (d:Int):Int × Int:=stA (Uk b.kd) (uB b) b d.toNat
def zji (kd:Kd) (K:W.Frag):Sp:=fun vs H Q _=>∃ a x y,vs=[.ref a,.int x,.int y]/\zbR K H a kd/\Q (.int (Uk kd y-Uk kd x)) H
theorem znO:zk qaq qaq (zg zaF):=by walk_at "sp"
theorem zcX (kd:Kd) (hk:kd=.plain\/kd=.bank\/kd=.thirty\/kd=.exact) (S:zq K (cA K kd.cls) "weight" "Count.weight" zaF qaq) (T:Txt K mg) (zdG:∀ kd:Kd,zu P w K mg base 4 (cA K kd.cls) "upto" qac (zfV kd K)):zu P w K mg base 5 (cA K kd.cls) "weight" qaq (zji kd K):=by
 exists S.ok,znO,0
 all_goals obtain ⟨a,x,y,rfl,hc,h⟩:=h
 ·rfl
 refine ⟨_,(ze (zo (zj zah (znt zdG T.cls hr (pv 0) (za (pv 2) zd)) (znt zdG T.cls hr (pv 0) (za (pv 1) zd))))),?_⟩
 nofun
 refine ⟨kd,a,rfl,hc,?_⟩
 nofun
 refine ⟨kd,a,rfl,hc,?_⟩
 nofun
 exact h
noncomputable def zv8 (kd:Kd) (g:Int) (es:List Er) (d:Int):Int × Int:=saE (Uk kd) (10000*yr kd) g es d.toNat
noncomputable def owE (kd:Kd) (g:Int) (es:List Er) (d:Int):Int:=(zv8 kd g es d).2 / (10000*yr kd)
theorem zud (kd:Kd):0<yr kd/\yr kd<=133590:=by cases kd <;> decide
structure zq4 (b:Int) (es:List Er):Prop where
 len:es.length<=31
 still:∀ e∈es,isW "still" e=true->b<=e.2.1/\e.2.1<=e.2.2/\e.2.2<=b+249
 day:∀ e∈es,b<=e.2.1/\e.2.1<b+250
theorem kdI (ns:List Int):KdI (kindOf ns) (cellAt ns 0 % 4):=by
 unfold kindOf KdI
 have c0:=ydu (cellAt ns 0) (show (4:Int)≠0 by decide)
 have c1:=ydt (cellAt ns 0) (show (0:Int)<4 by decide)
 generalize cellAt ns 0 % 4=c at *
 dsimp only
 rcases (show c=0\/c=1\/c=2\/c=3 by omega) with e | e | e | e <;> subst e <;> simp
noncomputable def TL (f:Int->Int × Int) (b:Int) (H:Hp):List V->List Nat->Prop:=LL fun v k=>∃ t,v=.ref t/\H t=some (.tup [.int (f (b+k)).1,.int (f (b+k)).2])
theorem TL.at_ {f:Int->Int × Int} {b:Int} {H:Hp} {ws:List V} {n:Nat} {j:Int} (h:TL f b H ws (yba n)) (j0:0<=j) (j1:j<n):∃ t,ws[j.toNat]?=some (.ref t)/\H t=some (.tup [.int (f (b+j)).1,.int (f (b+j)).2]):=by
 have l:=h.length
 rw[yce] at l
 obtain ⟨k,rfl⟩:=Int.eq_ofNat_of_zero_le j0
 have kl:k<ws.length:=by omega
 obtain ⟨m,hm,t,et,ht⟩:=h.get (yaa kl)
 rw[ycg (by omega)] at hm
 have:k=m:=Option.some.inj hm
 subst this
 exact ⟨t,by rw[Int.toNat_natCast,yaa kl,et],ht⟩
structure LsOk (b:Int) (es:List Er):Prop where
 rows:zq4 b es
 ok:∀ e∈es,OkA b e
 st:∀ s∈prs "still" es,s.1<s.2
theorem LsOk.more {b:Int} {es:List Er} {l:List (Int × Int)} (h:LsOk b es) (len:es.length+l.length<=31) (hl:∀ s∈l,b<=s.1/\s.1<b+250):LsOk b (es++zaD l):=by
 have pl:=zhG l
 have inp:∀ e∈zaD l,∃ s∈l,e=(.pay,s.1,s.2):=fun e he=>by
  obtain ⟨s,hs,rfl⟩:=yag.mp he
  exact ⟨s,(yao.mp hs).1,rfl⟩
 refine ⟨⟨by rw[yaf];omega,fun e he z=>?_,fun e he=>?_⟩,zom h.ok fun s hs=>(hl s hs).1,?_⟩
 ·rcases yae.mp he with he | he
  ·exact h.rows.still e he z
  ·obtain ⟨s,_,rfl⟩:=inp e he
   exact absurd (show isW "still" (.pay,0,0)=true from z) (by decide)
 ·rcases yae.mp he with he | he
  ·exact h.rows.day e he
  ·obtain ⟨s,hs,rfl⟩:=inp e he
   exact hl s hs
 ·rw[zxq,zvQ (by decide),ycs]
  exact h.st
def zlS (K:W.Frag):Sp:=fun vs H Q _=>L2.Ee6 fun p q (ns:List Int) rs (bk:BkT) (n:Int)=>L2.zx8 (vs=[.ref p,.ref q,.int n]) (SqL K H p (ns.map V.int)) (H q=some (.lst rs)) (RL3 H rs bk.es) (zq4 (baseOf ns) bk.es) (AB bk) (bk.kd=kindOf ns) (bk.g=zaQ ns) (0<=n) (n<=206) (baseOf ns+n<=1000000) (∀ c ws H',H c=none->Same H H'->H' c=some (.lst ws)->TL (zN bk) (baseOf ns) H' ws (yba n.toNat)->Q (.ref c) H')
theorem zL:zk ["_law_script", "_law_rows_here", "_law_many", "_law_base_here", "_law_unit_here", "_law_grace_here", "_law_weights_here", "_law_flags", "_law_dues_here", "_law_deeds_here", "_law_tables", "_law_told", "_law_principal", "_law_units", "_law_rate", "_law_late", "_law_open_sum", "_law_k", "_law_day", "_law_each"] qbx (zg zfM):=by walk_at "sp"
theorem zs7 (S:Src K mg "_law_days" zfM qbx) (T:Txt K mg) (zaN:Def P w K mg base 2 "_law_base" qab (zcI K)) (zcw:Def P w K mg base 2 "_law_unit" qab (zg5 K)) (zcc:Def P w K mg base 2 "_law_grace" qab (zgg K)) (zeX:Def P w K mg base 4 "_law_weights" qbw (zig K)) (zE:Def P w K mg base 1 "_law_cell_at" qan (zaI K)) (zcb:Def P w K mg base 1 "_law_still" qar (zgm K)) (ziZ:Def P w K mg base 2 "_law_dues" qar (zlC P w K)) (zdM:Def P w K mg base 2 "_law_all_deeds" qbs (zgx P w K)) (zdq:Def P w K mg base 1 "_law_by_day" qao (zjx P w K)) (zhE:Def P w K mg base 1 "_law_deeds" qbo (zkD K)):Def P w K mg base 5 "_law_days" qbx (zlS K):=by
 exists S.ok,zL,0
 all_goals obtain ⟨p,q,ns,rs,bk,n,rfl,hp,hq,hR,O,BO,ek,eg,n0,n1,nb,h⟩:=h
 ·rfl
 refine ⟨_,(zb (zp (i:=3) zL.nd rfl (by walk_at "lc") (zt zaN hr (za (pv 0) zd)))
  (zb (zp (i:=4) zL.nd rfl (by walk_at "lc") (zt zcw hr (za (pv 0) zd)))
  (zb (zp (i:=5) zL.nd rfl (by walk_at "lc") (zt zcc hr (za (pv 0) zd)))
  (zb (zp (i:=6) zL.nd rfl (by walk_at "lc") (zt zeX hr (za (zj zS (zt zE hr (za (pv 0) (za zc zd))) zc) (za (pv 3) (za (pv 2) zd)))))
  (zb (zp (i:=7) zL.nd rfl (by walk_at "lc") (zt zcb hr (za (pv 1) (za (pv 3) zd))))
  (zb (zp (i:=8) zL.nd rfl (by walk_at "lc") (zt ziZ hr (za (pv 1) (za (pv 3) zd))))
  (zb (zp (i:=9) zL.nd rfl (by walk_at "lc") (zt zdM hr (za (pv 1) zd)))
  (zb (zp (i:=10) zL.nd rfl (by walk_at "lc") (zat (za (zt zdq hr (za (pv 1) (za zB zd))) (za (zt zdq hr (za (pv 1) (za zB zd))) zd))))
  (zb (zp (i:=11) zL.nd rfl (by walk_at "lc") (zat zd))
  (zb (zhx (zaf (za zc (za zc (za zc (za zc (za zc zd)))))) (zeh rfl (zV (zI (i:=12) zL.nd rfl (by walk_at "lc")) (zV (zI (i:=13) zL.nd rfl (by walk_at "lc")) (zV (zI (i:=14) zL.nd rfl (by walk_at "lc")) (zV (zI (i:=15) zL.nd rfl (by walk_at "lc")) (zV (zI (i:=16) zL.nd rfl (by walk_at "lc")) zc3)))))))
  (zb (za6 PassesOwn.never rfl (zcJ rfl T.zb8 (za (pv 2) zd)) (zI (i:=17) zL.nd rfl (by walk_at "lc"))
  (zb (zp (i:=18) zL.nd rfl (by walk_at "lc") (zj zF (pv 3) (pv 17)))
  (zb (zrG (zX (zz zsu (pv 18) (pv 9) (by with_unfolding_all rfl))
  (ze (zhx (zt zhE hr (za (pv 4) (za (pv 12) (za (pv 13) (za (zv zqH (pv 9) (pv 18) (fun _ _=>rfl)) zd))))) (zeh rfl (zV (zI (i:=12) zL.nd rfl (by walk_at "lc")) (zV (zI (i:=13) zL.nd rfl (by walk_at "lc")) zc3)))))
   zO))
  (zb (zaa (zcn PySem.F.plainAttrs_list PySem.F.slot_list_append PySem.F.type_list_append zaJ (pv 11) (za (zaf (za (pv 12) (za (pv 13) zd))) zd)))
  (zb (zp (i:=14) zL.nd rfl (by walk_at "lc") (zml (zv zD (pv 10) zc (fun _ _=>rfl)) (pv 18) (pv 14)))
  (zb (zp (i:=15) zL.nd rfl (by walk_at "lc") (zml (zv zD (pv 10) zc (fun _ _=>rfl)) (pv 18) (pv 15)))
  (zb (zp (i:=16) zL.nd rfl (by walk_at "lc") (zj zah (zj zF (pv 16) (zjE (pv 8) (zj zah (pv 18) (pv 5)) zc)) (zv zam (zw7 (pv 9) (pv 18) (zaf (za zc (za zc (za zc (za zc zd)))))) zc (fun _ _=>rfl))))
  (ze (zX (zfX (zcR (zv zD (pv 7) (pv 17) (fun _ _=>rfl))))
  (zb (zp (i:=19) zL.nd rfl (by walk_at "lc") (zj zaB (pv 15) (zA (zbu rfl) rfl T.zdp PyProof.Rows.boot_min (za (pv 12) (za (zA (zbt rfl) rfl T.zdr PyProof.Rows.boot_max (za zc (za (pv 16) zd))) zd)))))
  (ze (zp (i:=13) zL.nd rfl (by walk_at "lc") (zj zF (pv 13) (zj zaB (zv zD (pv 6) (pv 17) (fun _ _=>rfl)) (zj zF (zj zaB (pv 14) (pv 12)) (pv 19)))))))
   zO)))))))))
  (ze (zo (pv 11)))))))))))))),?_⟩
 have sz:=sizeLine_eq
 have ol:=O.len
 obtain ⟨b0,b1⟩:=zix ns
 obtain ⟨g0,g1⟩:=zgE ns
 nofun
 refine ⟨p,ns,rfl,hp,?_⟩
 nofun
 refine ⟨p,ns,rfl,hp,?_⟩
 nofun
 refine ⟨p,ns,rfl,hp,?_⟩
 nofun
 refine ⟨p,ns,0,rfl,hp,?_⟩
 nofun
 refine ⟨kindOf ns,cellAt ns 0 % 4,baseOf ns,n,rfl,kdI ns,b0,n0,by ac_rfl,fun pw H1 s1 npw ew=>?_⟩
 generalize hb:baseOf ns=b at *
 generalize hg:zaQ ns=g at *
 rw[<-ek] at ew
 nofun
 refine ⟨q,rs,bk.es,b,rfl,SqL.of (s1 _ _ hq),hR.same s1,O.still,by ac_rfl,fun pf fl H2 npf s2 ef F=>?_⟩
 nofun
 have s12:=s1.trans s2
 refine ⟨q,rs,bk.es,b,rfl,s12 _ _ hq,hR.same s12,by ac_rfl,O.still,O.day,fun pd acc epd H3 npd s3 ed tt=>?_⟩
 have s13:=s12.trans s3
 nofun
 first | refine ⟨q,rs,bk.es,rfl,s13 _ _ hq,hR.same s13,by ac_rfl,fun pg l4 H4 npg s4 egp pt=>?_⟩ | refine ⟨rs,bk.es,s13 _ _ hq,hR.same s13,by ac_rfl,fun pg l4 H4 npg s4 egp pt=>?_⟩
 have s14:=s13.trans s4
 nofun
 refine ⟨q,rs,bk.es, "rate", rfl,s14 _ _ hq,hR.same s14,by ac_rfl,fun d1 H5 nd1 s5 e5=>?_⟩
 have s15:=s14.trans s5
 nofun
 refine ⟨q,rs,bk.es, "late", rfl,s15 _ _ hq,hR.same s15,by ac_rfl,fun d2 H6 nd2 s6 e6=>?_⟩
 have s16:=s15.trans s6
 nofun
 intro pt2 npt
 have s7:=zf npt (.lst [.ref d1,.ref d2])
 have eT:=zG (.lst [.ref d1,.ref d2]) npt
 have s17:=s16.trans s7
 generalize upd H6 pt2 (.lst [.ref d1,.ref d2])=H7 at s7 eT s17 ⊢
 nofun
 intro pc npc
 have s8:=zf npc (.lst [])
 have eC:=zG (.lst []) npc
 have npcH:=zx s17 npc
 have w7:=(s2.trans (s3.trans (s4.trans (s5.trans (s6.trans s7))))) _ _ ew
 have f7:=(s3.trans (s4.trans (s5.trans (s6.trans s7)))) _ _ ef
 have d7:=(s4.trans (s5.trans (s6.trans s7))) _ _ ed
 have p7:=(s5.trans (s6.trans s7)) _ _ egp
 have pt7:=pt.1.same (s5.trans (s6.trans s7))
 have r7:=(s6.trans s7) _ _ e5
 have l7:=s7 _ _ e6
 generalize upd H7 pc (.lst [])=H8 at s8 eC ⊢
 clear ew ef ed egp e5 e6
 nofun
 intro z nz
 have s9:=s8.trans (zf nz (.tup [.int 0,.int 0,.int 0,.int 0,.int 0]))
 have eC9:=zf nz (.tup [.int 0,.int 0,.int 0,.int 0,.int 0]) _ _ eC
 refine ⟨z,_,rfl,SqT.of zh,rfl,?_⟩
 have BI:=BO.is
 have BB:=BO.ok.ok
 have hu:0<uB bk/\uB bk<1152921504606846976:=⟨BO.ok.hu,BO.u1⟩
 have pdy:∀ w:Str,∀ s∈prs w bk.es,b<=s.1:=fun w s hs=>by
  obtain ⟨e,he,rfl⟩:=yag.mp hs
  exact (O.day e (yao.mp he).1).1
 have mdy:∀ s∈mvp (mvd (prs "still" bk.es)) (prs "due" bk.es),b<=s.1:=fun s hs=>by
  obtain ⟨u,hu,rfl⟩:=yag.mp hs
  have:=pdy _ u hu
  have:=(zn0 (prs "still" bk.es) u.1).from_
  show b<=mvd (prs "still" bk.es) u.1
  ac_rfl
 have vr:∀ d,Sums.valOf bk.rates d=Sums.valOf (prs "rate" bk.es) d:=BI.rates.1.val
 have vl:∀ d,Sums.valOf bk.lates d=Sums.valOf (prs "late" bk.es) d:=BI.lates.1.val
 have up_:∀ d,upto bk.pays d=upto (prs "pay" bk.es) d:=zki BI.pays
 have ud_:∀ d,upto bk.dues d=upto (mvp (mvd (prs "still" bk.es)) (prs "due" bk.es)) d:=zki BI.dues
 have is_:∀ d,Spans.isIn bk.spans d=Spans.isIn (prs "still" bk.es) d:=Stills.zrH BI.spans.2
 have e0:stB (Uk bk.kd) (uB bk) bk b.toNat=(0,0):=zxZ BO.ok b0 fun d d0 d1=>ztW fun ⟨e,he,h1,_⟩=>by have:=(O.day e he).1;ac_rfl
 have uE:uB bk=10000*yr (kindOf ns):=by rw[<-ek];rfl
 rw[<-uE]
 nofun
 refine zcP (fun i σ H'=>L2.Ee4 fun (ws:List V) (z1 z2 z3:Option V)=>(Same H7 H'/\H' pc=some (.lst ws)/\TL (zN bk) b H' ws (yba i))/\σ=[some (.ref p),some (.ref q),some (.int n),some (.int b),some (.int (uB bk)),some (.int g),some (.ref pw),some (.ref pf),some (.ref pd),some (.ref pg),some (.ref pt2),some (.ref pc),some (.int (stB (Uk bk.kd) (uB bk) bk (b+i).toNat).1),some (.int (stB (Uk bk.kd) (uB bk) bk (b+i).toNat).2),some (.int (Sums.valOf bk.rates (b+i-1))),some (.int (Sums.valOf bk.lates (b+i-1))),some (.int (upto bk.dues (b+i-1-g)-upto bk.pays (b+i-1))),z1,z2,z3])
  ⟨[],none,none,none,⟨s9,eC9,.nil⟩,?_⟩ ?_ ?_
 ·have e1:Sums.valOf bk.rates (b+((0:Nat):Int)-1)=0:=by rw[vr];exact znZ b0 (pdy "rate") (by simp;ac_rfl)
  have e2:Sums.valOf bk.lates (b+((0:Nat):Int)-1)=0:=by rw[vl];exact znZ b0 (pdy "late") (by simp;ac_rfl)
  have e3:upto bk.dues (b+((0:Nat):Int)-1-g)=0:=by rw[ud_];exact zh7 fun s hs=>by have:=mdy s hs;simp;ac_rfl
  have e4:upto bk.pays (b+((0:Nat):Int)-1)=0:=by rw[up_];exact zh7 fun s hs=>by have:=pdy _ s hs;simp;ac_rfl
  rw[e1,e2,e3,e4,show (b+((0:Nat):Int)).toNat=b.toNat by simp,e0]
  rfl
 ·rintro i σ H' hi ⟨ws,z1,z2,z3,⟨sH,eC',tl⟩,rfl⟩
  have tll:=tl.length
  rw[yce] at tll
  have sP:=sH _ _ p7
  have ptH:=pt7.same sH
  have ei:b+((i+1:Nat):Int)-1=b+i:=by ac_rfl
  have rr:=BB.rt (b+i)
  have r_:=zkX BB.rn (b+i)
  have l_:=zkX BB.ln (b+i)
  have u1:=znM (kd:=bk.kd) (d:=b+i+1) (by ac_rfl) (by ac_rfl)
  have u2:=znM (kd:=bk.kd) (d:=b+i) (by ac_rfl) (by ac_rfl)
  have vR:=ztb (l:=prs "rate" bk.es) (fun s hs=>by have:=pdy _ s hs;ac_rfl) (b+i)
  have vL:=ztb (l:=prs "late" bk.es) (fun s hs=>by have:=pdy _ s hs;ac_rfl) (b+i)
  rw[<-vr,<-vr] at vR
  rw[<-vl,<-vl] at vL
  have dS:=zlX (mvp (mvd (prs "still" bk.es)) (prs "due" bk.es)) (b+i-g)
  have pS:=zlX (prs "pay" bk.es) (b+i)
  rw[<-ud_,<-ud_] at dS
  rw[<-up_,<-up_] at pS
  rw[show b+(i:Int)-g-1=b+i-1-g by ac_rfl] at dS
  rw[ei,ydx]
  have cN:(((b+(i:Int)).toNat:Nat):Int)=b+i:=by ac_rfl
  have acE:doD (uB bk) (ddE bk.es (b+i)) (stB (Uk bk.kd) (uB bk) bk (b+i).toNat)=zN bk (b+i):=by
   show _=doD (uB bk) (ddo bk ((b+(i:Int)).toNat:Nat)) _
   rw[cN]
   rfl
  have nx:stB (Uk bk.kd) (uB bk) bk (b+((i+1:Nat):Int)).toNat=((zN bk (b+i)).1,(zN bk (b+i)).2+(Uk bk.kd (b+i+1)-Uk bk.kd (b+i))*zax bk (zN bk (b+i)).1 (b+i)):=by
   rw[show (b+((i+1:Nat):Int)).toNat=(b+(i:Int)).toNat+1 by ac_rfl,zno,cN]
  nofun
  refine ⟨fun σ' H2=>(Same H7 H2/\H2 pc=some (.lst ws)/\TL (zN bk) b H2 ws (yba i))/\σ'=[some (.ref p),some (.ref q),some (.int n),some (.int b),some (.int (uB bk)),some (.int g),some (.ref pw),some (.ref pf),some (.ref pd),some (.ref pg),some (.ref pt2),some (.ref pc),some (.int (zN bk (b+i)).1),some (.int (zN bk (b+i)).2),some (.int (Sums.valOf bk.rates (b+i-1))),some (.int (Sums.valOf bk.lates (b+i-1))),some (.int (upto bk.dues (b+i-1-g)-upto bk.pays (b+i-1))),some (.int i),some (.int (b+i)),z3],?_,?_⟩
  ·rcases ptH (b+i) with ⟨de,t,lk,ht⟩ | ⟨nde,lk⟩
   ·nofun
    refine ⟨pg,l4,_,rfl,rfl,sP,?_⟩
    rw[lk]
    nofun
    refine ⟨pg,l4,_,_,rfl,rfl,sP,lk,?_⟩
    nofun
    refine ⟨t,uB bk,_,_,ddE bk.es (b+i),rfl,hu,SqT.of ht,fun a na=>?_⟩
    have acE2:doD (uB bk) (ddE bk.es (b+i)) ((stB (Uk bk.kd) (uB bk) bk (b+i).toNat).1,(stB (Uk bk.kd) (uB bk) bk (b+i).toNat).2)=zN bk (b+i):=acE
    rw[acE2]
    have sa:=zf na (.tup [.int (zN bk (b+i)).1,.int (zN bk (b+i)).2])
    have ea:=zG (.tup [.int (zN bk (b+i)).1,.int (zN bk (b+i)).2]) na
    refine ⟨a,_,rfl,SqT.of ea,rfl,?_⟩
    nofun
    exact ⟨⟨sH.trans sa,sa _ _ eC',LL.imp (fun v e ⟨t,e1,e2⟩=>⟨t,e1,sa _ _ e2⟩) tl⟩,rfl⟩
   ·nofun
    refine ⟨pg,l4,_,rfl,rfl,sP,?_⟩
    rw[lk]
    have st:zN bk (b+i)=stB (Uk bk.kd) (uB bk) bk (b+i).toNat:=zrR BO.ok (k:=(b+(i:Int)).toNat) (by rw[cN];exact ztW nde)
    rw[<-st]
    nofun
    first | exact ⟨⟨sH,eC',tl⟩,rfl⟩ | rfl
  rintro σ' H2' ⟨⟨sH2,eC2,tl2⟩,rfl⟩
  nofun
  refine ⟨.inl ⟨rfl,_,SqL.of eC2⟩,?_⟩
  nofun
  intro v nv
  have sv:=zf nv (.tup [.int (zN bk (b+i)).1,.int (zN bk (b+i)).2])
  have ev:=zG (.tup [.int (zN bk (b+i)).1,.int (zN bk (b+i)).2]) nv
  have eC3:=sv _ _ eC2
  refine ⟨pc,_,_,rfl,rfl,eC3,by ac_rfl,?_⟩
  have sH4:Same H7 (upd (upd H2' v (.tup [.int (zN bk (b+i)).1,.int (zN bk (b+i)).2])) pc (.lst (ws++[.ref v]))):=zJ (sH2.trans sv) npc
  have eC4:(upd (upd H2' v (.tup [.int (zN bk (b+i)).1,.int (zN bk (b+i)).2])) pc (.lst (ws++[.ref v]))) pc=some (.lst (ws++[.ref v])):=zh
  have tl4:TL (zN bk) b (upd (upd H2' v (.tup [.int (zN bk (b+i)).1,.int (zN bk (b+i)).2])) pc (.lst (ws++[.ref v]))) (ws++[.ref v]) (yba (i+1)):=by
   rw[List.range_succ]
   exact LL.push (LL.imp (fun v e ⟨t,e1,e2⟩=>⟨t,e1,by rw[zr (zae (sv _ _ e2) eC3 (by intro z;cases z))];exact sv _ _ e2⟩) tl2) ⟨v,rfl,by rw[zr (zae ev eC3 (by intro z;cases z))];exact ev⟩
  generalize upd (upd H2' v (.tup [.int (zN bk (b+i)).1,.int (zN bk (b+i)).2])) pc (.lst (ws++[.ref v]))=H4 at sH4 eC4 tl4 ⊢
  clear sv ev eC3 nv tl2 eC2 sH2
  have sT:=sH4 _ _ eT
  have sR:=sH4 _ _ r7
  have sL:=sH4 _ _ l7
  have sD:=sH4 _ _ d7
  have sP4:=sH4 _ _ p7
  have pt4:=pt7.same sH4 (b+i)
  have ilt:i<250:=by ac_rfl
  have eL:upto bk.dues (b+i-1-g)-upto bk.pays (b+i-1)+Sby.sm (mvp (mvd (prs "still" bk.es)) (prs "due" bk.es)) (b+i-g)-(ddE bk.es (b+i)).2.2.2=upto bk.dues (b+i-g)-upto bk.pays (b+i):=by
   show upto bk.dues (b+i-1-g)-upto bk.pays (b+i-1)+Sby.sm (mvp (mvd (prs "still" bk.es)) (prs "due" bk.es)) (b+i-g)-Sby.sm (prs "pay" bk.es) (b+i)=_
   ac_rfl
  have dc:zax bk (zN bk (b+i)).1 (b+i)=(if Spans.isIn (prs "still" bk.es) (b+i) then 0 else 1)*(Sums.valOf bk.rates (b+i)*(zN bk (b+i)).1+Sums.valOf bk.lates (b+i)*mn (zN bk (b+i)).1 (p0 (upto bk.dues (b+i-g)-upto bk.pays (b+i)))):=by
   unfold zax zd6 zeg zdP
   rw[is_,eg]
   cases Spans.isIn (prs "still" bk.es) (b+i) with
   | true=>simp
   | false=>simp
  generalize zN bk (b+i)=ac at *
  nofun
  refine ⟨pt2,_,_,_,rfl,rfl,SqL.of sT,rfl,?_⟩
  refine ⟨d1,_,rfl,sR,?_⟩
  nofun
  refine ⟨sR,?_⟩
  rw[vR]
  nofun
  refine ⟨pt2,_,_,_,rfl,rfl,SqL.of sT,rfl,?_⟩
  refine ⟨d2,_,rfl,sL,?_⟩
  nofun
  refine ⟨sL,?_⟩
  rw[vL]
  nofun
  refine ⟨pd,acc,epd,rfl,sD,?_⟩
  nofun
  refine ⟨sD,?_⟩
  rw[tt.look]
  nofun
  refine ⟨pg,l4,rfl,sP4,?_⟩
  nofun
  intro u0 nu0
  have s5:=zf nu0 (.tup [.int 0,.int 0,.int 0,.int 0])
  have e5:=zG (.tup [.int 0,.int 0,.int 0,.int 0]) nu0
  have sH5:=sH4.trans s5
  have sP5:=s5 _ _ sP4
  have eC5:=s5 _ _ eC4
  have tl5:TL (zN bk) b _ (ws++[.ref v]) (yba (i+1)):=LL.imp (fun v e ⟨t,e1,e2⟩=>⟨t,e1,s5 _ _ e2⟩) tl4
  generalize upd H4 u0 (.tup [.int 0,.int 0,.int 0,.int 0])=H5 at s5 e5 sH5 sP5 eC5 tl5 ⊢
  obtain ⟨r,lr,hr5⟩:∃ r,(lkV l4 (b+i)).getD (.ref u0)=.ref r/\H5 r=some (.tup [.int (ddE bk.es (b+i)).1,.int (ddE bk.es (b+i)).2.1,.int (ddE bk.es (b+i)).2.2.1,.int (ddE bk.es (b+i)).2.2.2]):=by
   rcases pt4 with ⟨_,t,lk,ht⟩ | ⟨nde,lk⟩
   ·exact ⟨t,by rw[lk];rfl,s5 _ _ ht⟩
   ·exact ⟨u0,by rw[lk];rfl,by rw[ztW nde];exact e5⟩
  nofun
  refine ⟨sP5,?_⟩
  rw[lr]
  refine ⟨r,_,_,_,rfl,rfl,SqT.of hr5,rfl,?_⟩
  nofun
  refine ⟨pf,_,_,_,rfl,rfl,SqL.of (sH5 _ _ f7),zaw (by rw[yai,F.at_ i ilt];rfl),?_⟩
  cases bb:Spans.isIn (prs "still" bk.es) (b+i) with
  | true =>
   rw[bb,if_pos rfl,Int.zero_mul] at dc
   rw[dc,Int.mul_zero,Int.add_zero] at nx
   nofun
   exact ⟨_,_,_,_,⟨sH5,eC5,tl5⟩,by rw[nx,<-eL];rfl⟩
  | false =>
   rw[bb,if_neg Bool.false_ne_true,Int.one_mul] at dc
   rw[dc,<-eL] at nx
   nofun
   refine ⟨pw,_,_,_,rfl,rfl,SqL.of (sH5 _ _ w7),zaw (zyx bk.kd b hi),?_⟩
   nofun
   exact ⟨_,_,_,_,⟨sH5,eC5,tl5⟩,by rw[nx,<-eL];rfl⟩
 ·rintro σ H' ⟨ws,z1,z2,z3,⟨sH,eC',tl⟩,rfl⟩
  nofun
  exact h pc ws H' npcH (s17.trans sH) eC' tl
def zkF (K:W.Frag):Sp:=fun vs H Q _=>L2.Ee9 fun c p kd xs b (ds:List Int) P x y=>L2.Aa9 (vs=[.ref c,.ref p,.int P,.int x,.int y]) (zbR K H c kd) (SqL K H p xs) (R4 b H xs ds) (ds.Pairwise (·<·)) ((∀ d,d∈ds↔TDay b d)) (BOk b) ((0<=x/\x<=1000000/\y<=1000000)) (Q (.int (csum (Uk kd) (zax b P) x y)) H)
theorem zaW:zk ["count", "rows", "principal", "a", "b", "total", "start", "place", "row", "end"] qby (zg zeF):=by walk_at "sp"
theorem zrS (S:Src K mg "charged_by" zeF qby) (T:Txt K mg) (zc1:Def P w K mg base 1 "begun" qax (zkz K)) (zjY:∀ kd:Kd,zu P w K mg base 5 (cA K kd.cls) "weight" qaq (zji kd K)):Def P w K mg base 6 "charged_by" qby (zkF K):=by
 exists S.ok,zaW,0
 all_goals obtain ⟨c,p,kd,xs,b,ds,P0,x,y,rfl,hc,hS,hR,up,mem,O,⟨x0,x1,y1⟩,h⟩:=h
 ·rfl
 refine ⟨_,(zb (zp (i:=5) zaW.nd rfl (by walk_at "lc") zc)
  (zb (zp (i:=6) zaW.nd rfl (by walk_at "lc") (pv 3))
  (zb (zp (i:=7) zaW.nd rfl (by walk_at "lc") (zt zc1 hr (za (pv 1) (za (pv 3) zd))))
  (zb (zdR PassesOwn.never (zz zgI (pv 6) (pv 4) (nomark _))
  (zb (zp (i:=8) zaW.nd rfl (by walk_at "lc") (zv zD (pv 1) (zj zah (pv 7) zc) (fun _ _=>rfl)))
  (zb (zp (i:=9) zaW.nd rfl (by walk_at "lc") (zr5 (zz zgI (pv 7) (zA zan rfl T.zbN PySem.boot_len (za (pv 1) zd)) (nomark _)) (zA (zbu rfl) rfl T.zdp PyProof.Rows.boot_min (za (pv 4) (za (zv zam (zv zD (pv 1) (pv 7) (fun _ _=>rfl)) zc (fun _ _=>rfl)) zd))) (pv 4)))
  (zb (zp (i:=5) zaW.nd rfl (by walk_at "lc") (zj zF (pv 5) (zj zaB (znt zjY T.cls hr (pv 0) (za (pv 6) (za (pv 9) zd))) (zj zF (zj zaB (zv zam (pv 8) zc (fun _ _=>rfl)) (pv 2)) (zj zaB (zv zam (pv 8) zc (fun _ _=>rfl)) (zA (zbu rfl) rfl T.zdp PyProof.Rows.boot_min (za (pv 2) (za (zv zam (pv 8) zc (fun _ _=>rfl)) zd))))))))
  (zb (zp (i:=6) zaW.nd rfl (by walk_at "lc") (pv 9))
  (ze (zp (i:=7) zaW.nd rfl (by walk_at "lc") (zj zF (pv 7) zc))))))))
  (ze (zo (pv 5))))))),?_⟩
 have xl:=hR.length
 nofun
 refine ⟨p,xs,ds,x,rfl,hS,hR.rf,up,fun n Bg=>?_⟩
 have n1:1<=n:=by
  rcases Nat.eq_zero_or_pos n with e | e
  ·subst e
   obtain ⟨j,hj⟩:=ybi.mp ((mem 0).mpr (.inl rfl))
   have:=Bg.hi j 0 (yda _) hj
   ac_rfl
  ·exact e
 nofun
 refine ⟨fun k σ H'=>H=H'/\∃ (st:Int) (pl:Nat) (z1 z2:Option V),σ=[some (.ref c),some (.ref p),some (.int P0),some (.int x),some (.int y),some (.int (csum (Uk kd) (zax b P0) x st)),some (.int st),some (.int pl),z1,z2]/\x<=st/\(st<=y\/st=x)/\(st<y->zoI ds st pl/\1<=pl)/\k=(y-st).toNat,⟨_,rfl,x,n,_,_,by rw[zjP (ydv _)];rfl,ydv _,.inr rfl,fun _=>⟨Bg,n1⟩,rfl⟩,?_⟩
 rintro k σ H' ⟨rfl,st,pl,z1,z2,rfl,xs1,st2,bg,rfl⟩
 nofun
 ·rename_i q
  refine ⟨_,fun σ' H' z=>z,?_⟩
  obtain ⟨B,p1⟩:=bg q
  have ble:=B.le
  obtain ⟨m,rfl⟩:∃ m,pl=m+1:=⟨pl-1,by ac_rfl⟩
  have em:((m+1:Nat):Int)-1=(m:Int):=by ac_rfl
  obtain ⟨d0,hd0,t0,ex0,ht0⟩:=hR.get (yaa (by ac_rfl:m<xs.length))
  have at0:atI xs (((m+1:Nat):Int)-1)=some (.ref t0):=by
   rw[em]
   exact zaw (by rw[yaa (by ac_rfl:m<xs.length),ex0])
  have lo0:=B.lo m d0 (by ac_rfl) hd0
  have rr:=O.rt d0
  have ll:=O.lt d0
  nofun
  refine ⟨p,_,_,_,rfl,rfl,hS,at0,?_⟩
  have fin:∀ e:Int,st<e->e<=y->(∀ z,ds[m+1]?=some z->e<=z)->(e<y->zoI ds e (m+1+1))->csum (Uk kd) (zax b P0) x e=csum (Uk kd) (zax b P0) x st+(Uk kd e-Uk kd st)*(zd6 b d0*P0+zeg b d0*mn P0 (zdP b d0)):=fun e h1 h2 h3 h4=>by
   rw[znc xs1 (by ac_rfl:st<=e),zvA mem up hd0 lo0 (by ac_rfl) h3]
   rfl
  have u2:=znM (kd:=kd) (d:=st) (by ac_rfl) (by ac_rfl)
  nofun
  ·rename_i c1
   have ml:m+1<xs.length:=by ac_rfl
   obtain ⟨d1,hd1,t1,ex1,ht1⟩:=hR.get (yaa ml)
   have at1:atI xs ((m+1:Nat):Int)=some (.ref t1):=zaw (by rw[yaa ml,ex1])
   have hi1:=B.hi (m+1) d1 (ycx _) hd1
   have e0:st<(if d1<y then d1 else y):=by split <;> ac_rfl
   have e1:(if d1<y then d1 else y)<=y:=by split <;> ac_rfl
   have e2:∀ z,ds[m+1]?=some z->(if d1<y then d1 else y)<=z:=fun z hz=>by
    rw[hd1] at hz
    cases hz
    split <;> ac_rfl
   have e3:(if d1<y then d1 else y)<y->zoI ds (if d1<y then d1 else y) (m+1+1):=fun z=>by
    have e4:(if d1<y then d1 else y)=d1:=by
     by_cases c:d1<y
     ·rw[if_pos c]
     ·rw[if_neg c] at z;ac_rfl
    rw[e4]
    refine ⟨by ac_rfl,fun i x hi hx=>?_,fun i x hi hx=>zc9 up hd1 hx (by ac_rfl)⟩
    by_cases c:i=m+1
    ·subst c;rw[hd1] at hx;have:=Option.some.inj hx;ac_rfl
    ·have:=B.lo i x (by ac_rfl) hx;ac_rfl
   have fe:=fin _ e0 e1 e2 e3
   refine ⟨p,_,_,_,rfl,rfl,hS,at1,?_⟩
   nofun
   generalize (if d1<y then d1 else y)=e at *
   refine ⟨kd,c,rfl,hc,?_⟩
   have u1:=znM (kd:=kd) (d:=e) (by ac_rfl) (by ac_rfl)
   nofun
   first | refine ⟨hc,?_⟩ | skip
   nofun
   refine ⟨(y-e).toNat,by ac_rfl,rfl,e,m+1+1,some (.ref t0),some (.int e),?_,by ac_rfl,.inl (by ac_rfl),fun z=>⟨e3 z,by ac_rfl⟩,rfl⟩
   rw[fe]
   rfl
  ·rename_i c1
   have dl:ds.length=m+1:=by ac_rfl
   have e2:∀ z,ds[m+1]?=some z->y<=z:=fun z hz=>by
    have:=(yac.mp hz).1
    ac_rfl
   have fe:=fin y q (ydv _) e2 fun z=>absurd z (by ac_rfl)
   nofun
   refine ⟨kd,c,rfl,hc,?_⟩
   have u1:=znM (kd:=kd) (d:=y) (by ac_rfl) (by ac_rfl)
   nofun
   first | refine ⟨hc,?_⟩ | skip
   nofun
   refine ⟨(y-y).toNat,by ac_rfl,rfl,y,m+1+1,some (.ref t0),some (.int y),?_,by ac_rfl,.inl (by ac_rfl),fun z=>absurd z (by ac_rfl),rfl⟩
   rw[fe]
   rfl
 ·rename_i q
  have e:csum (Uk kd) (zax b P0) x st=csum (Uk kd) (zax b P0) x y:=by
   rcases st2 with z | z
   ·rw[show st=y by ac_rfl]
   ·rw[z,zjP (ydv _),zjP (by ac_rfl)]
  rw[e]
  exact h
def zgz (K:W.Frag):Sp:=fun vs H Q _=>L2.Ee6 fun a q A (b:BkT) ys (fs:List Er)=>L2.Aa8 (vs=[.ref a,.ref q]) (zaK K H a A b) ((0<=b.g/\b.g<=366)) (H q=some (.lst ys)) (EL K H ys fs) (b.es.length+fs.length<=61) ((∀ e∈b.es++fs,0<=e.2.1)) (∀ a' A' (b':BkT) H',H a'=none->Same H H'->Nw H A'->zaK K H' a' A' b'->zbj b'->b'.kd=b.kd->b'.g=b.g->b'.es=b.es++fs->Q (.ref a') H')
theorem zmp:zk qbk qbk (zg zcl):=by walk_at "sp"
theorem zm6 (S:zq K (cA K "Book") "with_more" "Book.with_more" zcl qbk) (T:Txt K mg) (zcz:zu P w K mg base 4 (cA K "Book") "__init__" qbb (zhn K)):zu P w K mg base 6 (cA K "Book") "with_more" qbk (zgz K):=by
 exists S.ok,zmp,0
 all_goals obtain ⟨a,q,A,b,ys,fs,rfl,B,⟨g0,g1⟩,hq,hE,hl,d0,h⟩:=h
 ·rfl
 refine ⟨_,(ze (zo (zbb T.zl1 zcz hr T.znJ (za (zZ T.zy T.zbp (pv 0)) (za (zZ T.zy T.zbo (pv 0)) (za (zj zeb (zZ T.zy T.za7 (pv 0)) (pv 1)) zd)))))),?_⟩
 have sz:=sizeLine_eq
 obtain ⟨xs,eX,hX⟩:=B.ents
 have xl:=hX.length
 have yl:=hE.length
 nofun
 refine ⟨a,A.dx,_,_,rfl,B.ins,rfl,?_⟩
 nofun
 refine ⟨a,A.dx,_,_,rfl,B.ins,rfl,?_⟩
 nofun
 refine ⟨a,A.dx,_,_,rfl,B.ins,rfl,?_⟩
 nofun
 refine ⟨A.e,q,xs,ys,rfl,rfl,eX,hq,by ac_rfl,fun l nl=>?_⟩
 have s1:=zf nl (.lst (xs++ys))
 have eL:=zG (.lst (xs++ys)) nl
 have hL:EL K (upd H l (.lst (xs++ys))) (xs++ys) (b.es++fs):=LL.append (hX.same s1) (hE.same s1)
 have hc:=B.cnt.same s1
 generalize upd H l (.lst (xs++ys))=H2 at s1 eL hL hc ⊢
 nofun
 intro a' dx na nd ne
 have s3:Same H2 (upd (upd H2 dx (.own a')) a' (.ins (cA K "Book") dx [])):=(zf nd _).trans (zf (by rw[zr ne.symm];exact na) _)
 refine ⟨a',dx,A.c,l,b.kd,b.g,xs++ys,b.es++fs,H2,rfl,zh,⟨na,s3⟩,hc,⟨g0,g1⟩,SqL.of eL,hL,by rw[yaf];ac_rfl,d0,fun A' b' H3 sH3 N' B' I e1 e2 e3=>⟨rfl,?_⟩⟩
 exact h a' A' b' H3 (zx s1 na) (s1.trans sH3) (N'.gone s1) B' I e1 e2 e3
def zk5 (K:W.Frag):Sp:=fun vs H Q _=>L2.Ee5 fun p q (ns:List Int) rs (es:List Er)=>L2.Aa7 (vs=[.ref p,.ref q]) (SqL K H p (ns.map V.int)) (SqL K H q rs) (LL (fun v e=>∃ t,v=.ref t/\H t=some (.tup (zcB e.1 e.2.1 e.2.2))) rs es) (es.length<=61) ((∀ e∈es,e.1≠.base/\0<=e.2.1)) (∀ a A (b:BkT) H',H a=none->Same H H'->zaK K H' a A b->zbj b->b.kd=kindOf ns->b.g=zaQ ns->b.es=es->Q (.ref a) H')
theorem zqO:zk qbl qbl (zg zfD):=by walk_at "sp"
theorem zsG (S:Src K mg "_law_book" zfD qbl) (T:Txt K mg) (zcz:zu P w K mg base 4 (cA K "Book") "__init__" qbb (zhn K)) (ziS:Def P w K mg base 4 "_law_made" qas (zk6 K)) (zcc:Def P w K mg base 2 "_law_grace" qab (zgg K)) (zhr:Def P w K mg base 2 "_law_count" qab (zkK K)):Def P w K mg base 6 "_law_book" qbl (zk5 K):=by
 exists S.ok,zqO,0
 all_goals obtain ⟨p,q,ns,rs,es,rfl,hp,hq,hL,hl,ok,h⟩:=h
 ·rfl
 refine ⟨_,(ze (zo (zbb T.zl1 zcz hr T.znJ (za (zt zhr hr (za (pv 0) zd)) (za (zt zcc hr (za (pv 0) zd)) (za (zbk (ix:=[]) ⟨rfl,by decide +kernel,rfl,by decide +kernel,rfl,(show (["_law_row_here"]:List Str).Nodup by decide +kernel),by walk_at "cap", by walk_at "sub", by walk_at "has"⟩ (zQ (pv 1)) (fun b=>(zt ziS hr (za (pv 0) zd)))) zd)))))),?_⟩
 have sz:=sizeLine_eq
 have xl:=hL.length
 nofun
 refine ⟨p,ns,rfl,hp,fun c H1 nc s1 hc=>?_⟩
 nofun
 refine ⟨p,ns,rfl,s1.seq hp,?_⟩
 nofun
 refine ⟨⟨_,s1.seq hq⟩,fun l nl=>?_⟩
 refine comp_map (zab (s1.seq hq)) nl (by ac_rfl) es xl.symm (fun H' v e=>∃ a dx,v=.ref a/\zeO K H' a dx e.1 e.2.1 e.2.2) (fun v e H1 H2 s ⟨t,dx,e1,e2⟩=>⟨t,dx,e1,s _ _ e2⟩) (fun v e H1 ys zs hL ⟨t,dx,e1,e2⟩=>⟨t,dx,e1,by rw[zeO,zr (zae e2 hL (by intro z;cases z))];exact e2⟩) ?_ ?_
 ·rintro i x e H' Q' hx he sH hq'
  obtain ⟨e',he',t,rfl,ht⟩:=hL.get hx
  obtain rfl:e'=e:=Option.some.inj (he'.symm.trans he)
  nofun
  refine ⟨t,e'.1,e'.2.1,e'.2.2,rfl,sH _ _ (s1 _ _ ht),(ok e' (yah he)).1,fun a dx H2 s2 na ha=>?_⟩
  exact hq' _ _ s2 ⟨a,dx,rfl,ha⟩
 ·rintro ys H2 s2 eL hE
  nofun
  intro a dx na nd ne
  have s3:Same H2 (upd (upd H2 dx (.own a)) a (.ins (cA K "Book") dx [])):=(zf nd _).trans (zf (by rw[zr ne.symm];exact na) _)
  refine ⟨a,dx,c,l,kindOf ns,zaQ ns,ys,es,H2,rfl,zh,⟨na,s3⟩,hc.same s2,zgE ns,SqL.of eL,hE,hl,fun e he=>(ok e he).2,fun A b H3 sH3 _ B I e1 e2 e3=>⟨rfl,?_⟩⟩
  exact h a A b H3 (zx (s1.trans s2) na) (s1.trans (s2.trans sH3)) B I e1 e2 e3
def ziw (K:W.Frag):Sp:=fun vs H Q _=>L2.Ee9 fun p q t (ns:List Int) rs (es:List Er) ds z x=>L2.zqC (vs=[.ref p,.ref q,.ref t,.int x]) (SqL K H p (ns.map V.int)) (H q=some (.lst rs)) (RL3 H rs es) (LsOk (baseOf ns) es) (H t=some (.lst ((ds++[z]).map V.int))) ((es.length+(ds++[z]).length<=31/\0<=x)) ((∀ d∈ds++[z],baseOf ns<=d/\d<=z)) (z<baseOf ns+200) (Q (zhB (owE (kindOf ns) (zaQ ns) (es++zaD (evn (ds++[z]) x))) (ds++[z])) H)
theorem zcE:zk ["_law_script", "_law_rows_here", "_law_days_here", "_law_amount", "_law_base_here", "_law_told", "_law_day"] qbz (zg zdc):=by walk_at "sp"
theorem zoh (S:Src K mg "_law_ends_on" zdc qbz) (T:Txt K mg) (zaN:Def P w K mg base 2 "_law_base" qab (zcI K)) (ziI:Def P w K mg base 5 "_law_days" qbx (zlS K)) (zcu:Def P w K mg base 1 "_law_pays" qaz (zhP K)) (zcw:Def P w K mg base 2 "_law_unit" qab (zg5 K)):Def P w K mg base 6 "_law_ends_on" qbz (ziw K):=by
 exists S.okF,zcE,0
 all_goals obtain ⟨p,q,t,ns,rs,es,ds,z,x,rfl,hp,hq,hR,O,ht,⟨dl,x0⟩,din,z1,h⟩:=h
 ·rfl
 refine ⟨_,(zb (zp (i:=4) zcE.nd rfl (by walk_at "lc") (zt zaN hr (za (pv 0) zd)))
  (zb (zp (i:=5) zcE.nd rfl (by walk_at "lc") (zt ziI hr (za (pv 0) (za (zj zeb (pv 1) (zt zcu hr (za (pv 2) (za (pv 3) zd)))) (za (zj zF (zj zah (zv zD (pv 2) (zkA zg2 zc) (fun _ _=>rfl)) (pv 4)) zc) zd)))))
  (zb (za6 PassesOwn.never rfl (zQ (pv 2)) (zI (i:=6) zcE.nd rfl (by walk_at "lc"))
  (ze (zX (zz zd2 (zj zcU (zv zam (zv zD (pv 5) (zj zah (pv 6) (pv 4)) (fun _ _=>rfl)) zc (fun _ _=>rfl)) (zt zcw hr (za (pv 0) zd))) zc (nomark _))
  (ze (zo (pv 6)))
   zO)))
  (ze (zo zvt))))),?_⟩
 have sz:=sizeLine_eq
 obtain ⟨b0,b1⟩:=zix ns
 obtain ⟨g0,g1⟩:=zgE ns
 have y:=zud (kindOf ns)
 have zi:=din z (by simp)
 have rl:=hR.length
 have at_:atI ((ds++[z]).map V.int) (-1)=some (.int z):=by
  rw[yar]
  exact zwI _ _
 have el:(evn (ds++[z]) x).length=(ds++[z]).length:=yab ..
 have pl:=zhG (evn (ds++[z]) x)
 have OM:LsOk (baseOf ns) (es++zaD (evn (ds++[z]) x)):=O.more (by ac_rfl) fun s hs=>by
  obtain ⟨d,hd,rfl⟩:=yag.mp hs
  have:=din d hd
  show baseOf ns<=d/\d<_
  ac_rfl
 obtain ⟨bk,I,ek,eg,ee⟩:=zxN (kindOf ns) (zaQ ns) (es++zaD (evn (ds++[z]) x)) (fun e he=>by have:=(OM.ok e he).day;ac_rfl) OM.st
 have AB':AB bk:=ztt I b0 (by rw[eg];exact g0) (by rw[ee];exact OM.ok) (by rw[ee];exact OM.rows.len) (fun d=>ztz (by ac_rfl) (by ac_rfl)) (by unfold uB;rw[ek];ac_rfl) (by unfold uB;rw[ek];ac_rfl)
 have hv:∀ d,(zN bk d).2 / (10000*yr (kindOf ns))=owE (kindOf ns) (zaQ ns) (es++zaD (evn (ds++[z]) x)) d:=fun d=>by
  unfold owE zv8
  rw[<-ek,<-eg,<-ee]
  show (zN bk d).2 / _=_
  rw[show zN bk d=saE (Uk bk.kd) (10000*yr bk.kd) bk.g bk.es d.toNat from zwZ I _]
 nofun
 refine ⟨p,ns,rfl,hp,?_⟩
 nofun
 refine ⟨t,ds++[z],x,rfl,SqL.of ht,by ac_rfl,x0,fun c cs H1 nc s1 ec hC=>?_⟩
 have cl:=hC.length
 nofun
 refine ⟨q,c,rs,cs,rfl,rfl,s1 _ _ hq,ec,by ac_rfl,fun q2 nq2=>?_⟩
 have s2:=zf nq2 (.lst (rs++cs))
 have e2:=zG (.lst (rs++cs)) nq2
 have hR2:RL3 (upd H1 q2 (.lst (rs++cs))) (rs++cs) (es++zaD (evn (ds++[z]) x)):=RL3.same (LL.append (hR.same s1) hC) s2
 have s12:=s1.trans s2
 have ht2:=s12 _ _ ht
 have hp2:=s12.seq hp
 generalize upd H1 q2 (.lst (rs++cs))=H2 at s2 e2 hR2 s12 ht2 hp2 ⊢
 nofun
 refine ⟨t,_,_,_,rfl,rfl,SqL.of ht2,at_,?_⟩
 nofun
 refine ⟨p,q2,ns,_,bk,z-baseOf ns+1,rfl,hp2,e2,by rw[ee];exact hR2,by rw[ee];exact OM.rows,AB',ek,eg,by ac_rfl,by ac_rfl,by ac_rfl,fun c3 ws H3 nc3 s3 eC T=>?_⟩
 have s13:=s12.trans s3
 have ht3:=s13 _ _ ht
 have wl:=T.length
 rw[yce] at wl
 nofun
 refine ⟨⟨_,SqL.of ht3⟩,zbm (xs:=(ds++[z]).map V.int) (fun i σ H'=>∃ z1:Option V,(H'=H3/\zhB (owE (kindOf ns) (zaQ ns) (es++zaD (evn (ds++[z]) x))) (ds++[z])=zhB (owE (kindOf ns) (zaQ ns) (es++zaD (evn (ds++[z]) x))) ((ds++[z]).drop i))/\σ=[some (.ref p),some (.ref q),some (.ref t),some (.int x),some (.int (baseOf ns)),some (.ref c3),z1]) ⟨_,⟨rfl,rfl⟩,rfl⟩ ?_ ?_ ?_⟩
 ·rintro i σ H' _ ⟨z1,⟨rfl,_⟩,_⟩
  exact SqL.of ht3
 ·rintro i v σ H' hv' ⟨z1,⟨rfl,ei⟩,rfl⟩
  rw[yai] at hv'
  obtain ⟨d,hd,rfl⟩:=Option.map_eq_some_iff.mp hv'
  have di:=din d (yah hd)
  obtain ⟨u,hu,eu⟩:=TL.at_ (j:=d-baseOf ns) T (by ac_rfl) (by ac_rfl)
  rw[show baseOf ns+(d-baseOf ns)=d by ac_rfl] at eu
  have atu:atI ws (d-baseOf ns)=some (.ref u):=by
   obtain ⟨k,hk⟩:=Int.eq_ofNat_of_zero_le (show 0<=d-baseOf ns by ac_rfl)
   rw[hk] at hu ⊢
   exact zaw hu
  have dr:=zps (F:=owE (kindOf ns) (zaQ ns) (es++zaD (evn (ds++[z]) x))) hd
  rw[<-hv] at dr
  nofun
  refine ⟨c3,_,_,_,rfl,rfl,SqL.of eC,atu,?_⟩
  nofun
  refine ⟨p,ns,rfl,s13.seq hp,?_⟩
  nofun
  ·rename_i c
   rw[ei,dr,if_pos c] at h
   first | exact ⟨s13,h⟩ | exact h
  ·rename_i c
   rw[dr,if_neg c] at ei
   exact ⟨_,⟨rfl,ei⟩,rfl⟩
 ·rintro σ H' ⟨z1,⟨rfl,ei⟩,rfl⟩
  rw[yab,List.drop_length] at ei
  rw[ei] at h
  nofun
  first | exact ⟨s13,h⟩ | exact h
def zib (K:W.Frag):Sp:=fun vs H Q _=>L2.Ee6 fun a p A b ws (ds:List Int)=>L2.zqC (vs=[.ref a,.ref p]) (zaK K H a A b) (AB b) (H p=some (.lst ws)) (R5 b H ws ds) (ds.Pairwise (·<·)) ((∀ d∈ds,0<=d/\d<=1000000)) ((∀ d z,z∈ds->d<z->DDay b d->d∈ds)) (ds.length<=1000) (∀ q x vs' H',H q=none->Same H H'->H' q=some (.lst vs')->DbL K (uB b) (zN b) x H H' vs' ds->Q (.ref q) H')
theorem za4:zk ["book", "rows", "burden_rows", "debt", "told", "start", "deeds"] qca (zg zcW):=by walk_at "sp"
theorem zoo (S:Src K mg "debts_behind" zcW qca) (T:Txt K mg) (zkW:Def P w K mg base 4 "burdens" qag (znP K)) (zcx:zu P w K mg base 1 (cA K "Debt") "__init__" qay (zhW K)) (zmR:∀ kd:Kd,zu P w K mg base 2 (cA K kd.cls) "unit" qaa (zk4 kd K)) (zbh:zu P w K mg base 1 (cA K "Book") "count" qaa (zgq K)) (zjj:zu P w K mg base 1 (cA K "Debt") "grow" qbc (zlB K)) (zhq:Def P w K mg base 6 "charged_by" qby (zkF K)) (zdO:zu P w K mg base 1 (cA K "Debt") "principal" qaa (zgA K)) (zkw:Def P w K mg base 4 "do_deeds" qbj (zmx K)) (zi3:zu P w K mg base 3 (cA K "Debt") "copy" qaa (zls K)):Def P w K mg base 7 "debts_behind" qca (zib K):=by
 exists S.ok,za4,0
 all_goals obtain ⟨a,p,A,b,ws,ds,rfl,B,O,hp,hR,up,din,dmem,dl,h⟩:=h
 ·rfl
 refine ⟨_,(zb (zp (i:=2) za4.nd rfl (by walk_at "lc") (zt zkW hr (za (pv 0) zd)))
  (zb (zp (i:=3) za4.nd rfl (by walk_at "lc") (zbb T.zmi zcx hr T.zn2 (za (zfS zmR T.cls hr (zK zbh T.zy hr (pv 0))) zd)))
  (zb (zp (i:=4) za4.nd rfl (by walk_at "lc") (zat zd))
  (zb (zp (i:=5) za4.nd rfl (by walk_at "lc") zc)
  (zb (za6 PassesOwn.never rfl (zQ (pv 1)) (zI (i:=6) za4.nd rfl (by walk_at "lc"))
  (zb (zaa (zcK zjj T.zR hr (pv 3) (za (zt zhq hr (za (zK zbh T.zy hr (pv 0)) (za (pv 2) (za (zK zdO T.zR hr (pv 3)) (za (pv 5) (za (zv zam (pv 6) zc (fun _ _=>rfl)) zd)))))) zd)))
  (zb (zaa (zt zkw hr (za (pv 3) (za (pv 6) zd))))
  (zb (zaa (zcn PySem.F.plainAttrs_list PySem.F.slot_list_append PySem.F.type_list_append zaJ (pv 4) (za (zK zi3 T.zR hr (pv 3)) zd)))
  (ze (zp (i:=5) za4.nd rfl (by walk_at "lc") (zv zam (pv 6) zc (fun _ _=>rfl))))))))
  (ze (zo (pv 4)))))))),?_⟩
 have sz:=sizeLine_eq
 have hu:0<uB b/\uB b<1152921504606846976:=⟨O.ok.hu,O.u1⟩
 have wl:=hR.length
 nofun
 first | refine ⟨a,A,b,rfl,B,O.ok.ok,fun pb xb tb H1 n1 s1 eb rb upb memb lb=>?_⟩ | refine ⟨B,O.ok.ok,fun pb xb tb H1 n1 s1 eb rb upb memb lb=>?_⟩
 have B1:=B.same s1
 nofun
 refine ⟨a,A.dx,_,rfl,B1.ins,rfl,a,A,b,rfl,B1,?_⟩
 nofun
 refine ⟨b.kd,A.c,rfl,B1.cnt,?_⟩
 nofun
 refine ⟨B1.cnt,?_⟩
 nofun
 intro x dx nx ndx nex
 refine ⟨x,dx,uB b,rfl,zh,rfl,?_⟩
 rw[zad]
 have s2:Same H1 (upd (upd H1 dx (.own x)) x (.ins (cA K "Debt") dx (zaz (uB b) 0 0))):=(zf ndx _).trans (zf (by rw[zr nex.symm];exact nx) _)
 have eD:Deb K (upd (upd H1 dx (.own x)) x (.ins (cA K "Debt") dx (zaz (uB b) 0 0))) x dx (uB b) 0 0:=zh
 generalize upd (upd H1 dx (.own x)) x (.ins (cA K "Debt") dx (zaz (uB b) 0 0))=H2 at s2 eD ⊢
 nofun
 intro q nq
 have s3:=zf nq (.lst [])
 have eq:=zG (.lst []) nq
 have eD3:Deb K _ x dx (uB b) 0 0:=eD.same s3
 have s13:=s2.trans s3
 have nq1:=zx s2 nq
 have nxq:x≠q:=zY eD nq
 generalize upd H2 q (.lst [])=H3 at s3 eq eD3 s13 ⊢
 have nqH:=zx s1 nq1
 have nxH:=zx s1 nx
 have key:∀ (i:Nat) (d m n st:Int),ds[i]?=some d->((i=0/\m=0/\n=0/\st=0)\/(∃ e,0<i/\ds[i-1]?=some e/\m=(zN b e).1/\n=(zN b e).2/\st=e))->stB (Uk b.kd) (uB b) b d.toNat=(m,n+csum (Uk b.kd) (zax b m) st d)/\0<=st/\st<=1000000:=fun i d m n st hd hc=>by
  obtain ⟨d0,d1⟩:=din d (yah hd)
  rcases hc with ⟨rfl,rfl,rfl,rfl⟩ | ⟨e,i0,he,e1,e2,e3⟩
  ·refine ⟨first O.ok d0 fun k k0 k1=>zu8 O.is fun hk=>?_,ydv _,by decide⟩
   obtain ⟨j,hj⟩:=ybi.mp (dmem k d (yah hd) k1 hk)
   rcases Nat.eq_zero_or_pos j with z | z
   ·subst z;rw[hd] at hj;have:=Option.some.inj hj;ac_rfl
   ·have:=zc9 up hd hj z;ac_rfl
  ·obtain ⟨f0,f1⟩:=din e (yah he)
   rw[e1,e2,e3]
   refine ⟨next O.ok f0 (zc9 up he hd (by ac_rfl)) fun k k0 k1=>zu8 O.is fun hk=>?_,f0,f1⟩
   obtain ⟨j,hj⟩:=ybi.mp (dmem k d (yah hd) k1 hk)
   rcases ydf j i with z | z | z
   ·by_cases y:j=i-1
    ·subst y;rw[he] at hj;have:=Option.some.inj hj;ac_rfl
    ·have:=zc9 up hj he (by ac_rfl);ac_rfl
   ·subst z;rw[hd] at hj;have:=Option.some.inj hj;ac_rfl
   ·have:=zc9 up hd hj z;ac_rfl
 nofun
 refine ⟨⟨_,SqL.of (s13 _ _ (s1 _ _ hp))⟩,zbm (xs:=ws) (fun i σ H'=>L2.Ee5 fun (m n st:Int) (vs':List V) (z1:Option V)=>L2.Aa3 ((Same H1 H'/\Deb K H' x dx (uB b) m n/\H' q=some (.lst vs')/\DbL K (uB b) (zN b) x H H' vs' (ds.take i))) (((i=0/\m=0/\n=0/\st=0)\/(∃ e,0<i/\ds[i-1]?=some e/\m=(zN b e).1/\n=(zN b e).2/\st=e))) (σ=[some (.ref a),some (.ref p),some (.ref pb),some (.ref x),some (.ref q),some (.int st),z1]))
  ⟨0,0,0,[],_,⟨s13,eD3,eq,.nil⟩,.inl ⟨rfl,rfl,rfl,rfl⟩,rfl⟩ ?_ ?_ ?_⟩
 ·rintro i σ H' _ ⟨m,n,st,vs',z1,⟨sH,_⟩,_⟩
  exact SqL.of (sH _ _ (s1 _ _ hp))
 ·rintro i v σ H' hv ⟨m,n,st,vs',z1,⟨sH,eD',eq',hL⟩,cur,rfl⟩
  have s0H:=s1.trans sH
  obtain ⟨d,hd,t,rfl,ht0⟩:=hR.get hv
  have ht:=s0H _ _ ht0
  have il:i<ds.length:=(yac.mp hd).1
  have vl:=hL.length
  rw[yaz] at vl
  obtain ⟨kk,st0,st1⟩:=key i d m n st hd cur
  obtain ⟨d0,d1⟩:=din d (yah hd)
  have B':=B.same s0H
  have tk:ds.take (i+1)=ds.take i++[d]:=by rw[ybc,hd];rfl
  nofun
  refine ⟨x,dx,_,rfl,eD',rfl,?_⟩
  nofun
  refine ⟨a,A.dx,_,rfl,B'.ins,rfl,a,A,b,rfl,B',?_⟩
  nofun
  refine ⟨x,dx,_,rfl,eD',rfl,x,dx,uB b,m,n,rfl,eD',?_⟩
  nofun
  refine ⟨A.c,pb,b.kd,xb,b,tb,m,st,d,rfl,B'.cnt,SqL.of (sH _ _ eb),rb.same sH,upb,memb,O.ok.ok,⟨st0,st1,d1⟩,?_⟩
  nofun
  refine ⟨x,dx,uB b,m,n,_,rfl,eD',?_⟩
  have e1:Deb K (upd H' x (.ins (cA K "Debt") dx (zaz (uB b) m (n+csum (Uk b.kd) (zax b m) st d)))) x dx (uB b) m (n+csum (Uk b.kd) (zax b m) st d):=zh
  have t1:=zka (K:=K) (o:=.ins (cA K "Debt") dx (zaz (uB b) m (n+csum (Uk b.kd) (zax b m) st d))) eD' ht
  have acc:doD (uB b) (ddo b d) (m,n+csum (Uk b.kd) (zax b m) st d)=zN b d:=by
   show _=doD (uB b) (ddo b (d.toNat:Nat)) (stB (Uk b.kd) (uB b) b d.toNat)
   rw[kk,show ((d.toNat:Nat):Int)=d by ac_rfl]
  nofun
  refine ⟨x,dx,t,uB b,m,_,d,ddo b d,rfl,e1,hu,t1,?_⟩
  rw[zad,acc]
  have e2:Deb K (upd H' x (.ins (cA K "Debt") dx (zaz (uB b) (zN b d).1 (zN b d).2))) x dx (uB b) (zN b d).1 (zN b d).2:=zh
  have hL2:DbL K (uB b) (zN b) x H (upd H' x (.ins (cA K "Debt") dx (zaz (uB b) (zN b d).1 (zN b d).2))) vs' (ds.take i):=hL.put
  have eq2:(upd H' x (.ins (cA K "Debt") dx (zaz (uB b) (zN b d).1 (zN b d).2))) q=some (.lst vs'):=by rw[zr nxq.symm];exact eq'
  have s4:Same H1 (upd H' x (.ins (cA K "Debt") dx (zaz (uB b) (zN b d).1 (zN b d).2))):=zJ sH nx
  have ht4:=s4 _ _ (s1 _ _ ht0)
  clear e1 t1 eD' ht B'
  generalize upd H' x (.ins (cA K "Debt") dx (zaz (uB b) (zN b d).1 (zN b d).2))=H4 at e2 hL2 eq2 s4 ht4 ⊢
  nofun
  refine ⟨.inl ⟨rfl,_,SqL.of eq2⟩,?_⟩
  nofun
  refine ⟨x,dx,_,rfl,e2,rfl,x,dx,uB b,_,_,rfl,e2,fun y dy ny ndy ney=>?_⟩
  have s5:Same H4 (upd (upd H4 dy (.own y)) y (.ins (cA K "Debt") dy (zaz (uB b) (zN b d).1 (zN b d).2))):=(zf ndy _).trans (zf (by rw[zr ney.symm];exact ny) _)
  have ey:Deb K (upd (upd H4 dy (.own y)) y (.ins (cA K "Debt") dy (zaz (uB b) (zN b d).1 (zN b d).2))) y dy (uB b) (zN b d).1 (zN b d).2:=zh
  have nyx:y≠x:=(zY e2 ny).symm
  have nyH:=zx (s1.trans s4) ny
  generalize upd (upd H4 dy (.own y)) y (.ins (cA K "Debt") dy (zaz (uB b) (zN b d).1 (zN b d).2))=H5 at s5 ey ⊢
  have ht5:=s5 _ _ ht4
  have eq5:=s5 _ _ eq2
  nofun
  refine ⟨q,_,_,rfl,rfl,eq5,by ac_rfl,?_⟩
  have ht6:(upd H5 q (.lst (vs'++[.ref y]))) t=some (.tup [.int d,.int (ddo b d).1,.int (ddo b d).2.1,.int (ddo b d).2.2.1,.int (ddo b d).2.2.2]):=by rw[zr (zae ht5 eq5 (by intro z;cases z))];exact ht5
  nofun
  refine ⟨_,_,d,vs'++[.ref y],_,⟨zJ (s4.trans s5) nq1,Deb.putL (e2.same s5) eq5,zh,?_⟩,.inr ⟨d,by ac_rfl,by simpa using hd,rfl,rfl,rfl⟩,rfl⟩
  rw[tk]
  exact LL.push ((hL2.same s5).putL eq5) ⟨y,dy,rfl,⟨nyx,nyH⟩,Deb.putL ey eq5⟩
 ·rintro σ H' ⟨m,n,st,vs',z1,⟨sH,eD',eq',hL⟩,cur,rfl⟩
  rw[wl,yaw (ycx _)] at hL
  nofun
  exact h q x vs' H' nqH (s1.trans sH) eq' hL
structure zgl (f:Int) (b:BkT):Prop where
 is:zbj b
 f0:0<=f
 g:0<=b.g/\b.g<=366
 ok:∀ e∈b.es,OkA f e
 len:b.es.length<=16
 am:∀ e∈b.es,zwD e
theorem zys {b:BkT} (I:zbj b) (d:Int):zN b d=zv8 b.kd b.g b.es d:=zwZ I _
theorem zy0 {b:BkT} (I:zbj b) (d:Int):(zN b d).2 / uB b=owE b.kd b.g b.es d:=by
 rw[zys I]
 rfl
theorem zzc {f:Int} {b:BkT} (O:zgl f b):AB b:=by
 have y:=zud b.kd
 have ol:=O.len
 exact ztt O.is O.f0 O.g.1 O.ok (by omega) (fun d=>ztz (by omega) (by omega)) (by unfold uB;omega) (by unfold uB;omega)
theorem zxz (l:List (Int × Int)):∀ e∈zaD l,zwD e:=fun e he=>by
 obtain ⟨s,hs,rfl⟩:=yag.mp he
 have:=of_decide_eq_true (yao.mp hs).2
 exact ⟨fun z=>absurd (show isW "out" (.pay,0,0)=true from z) (by decide),fun z=>absurd (show isW "fee" (.pay,0,0)=true from z) (by decide),fun _=>by show 0<=s.2;omega⟩
theorem zgl.more {f:Int} {b b':BkT} {l:List (Int × Int)} (O:zgl f b) (I:zbj b') (eg:b'.g=b.g) (ee:b'.es=b.es++zaD l) (hl:b.es.length+l.length<=16) (hf:∀ s∈l,f<=s.1):zgl f b':=by
 have pl:=zhG l
 exact ⟨I,O.f0,by rw[eg];exact O.g,by rw[ee];exact zom O.ok hf,by rw[ee,yaf];omega,by
  rw[ee]
  intro e he
  rcases yae.mp he with he | he
  ·exact O.am e he
  ·exact zxz l e he⟩
def znY (K:W.Frag):Sp:=fun vs H Q _=>L2.Ee7 fun a p A (b:BkT) f (ds:List Int) x=>L2.Aa6 (vs=[.ref a,.ref p,.int x]) (zaK K H a A b) (zgl f b) (SqL K H p (ds.map V.int)) ((b.es.length+ds.length<=16/\∀ d∈ds,f<=d)) (∀ a' A' (b':BkT) H',H a'=none->Same H H'->Nw H A'->zaK K H' a' A' b'->zgl f b'->b'.kd=b.kd->b'.g=b.g->b'.es=b.es++zaD (evn ds x)->Q (.ref a') H')
theorem zua:zk qaf qaf (zg ziu):=by walk_at "sp"
theorem zvC (S:Src K mg "paid_on" ziu qaf) (T:Txt K mg) (zdK:zu P w K mg base 6 (cA K "Book") "with_more" qbk (zgz K)) (zk9:Def P w K mg base 4 "as_pays" qam (zn3 K)):Def P w K mg base 7 "paid_on" qaf (znY K):=by
 exists S.ok,zua,0
 all_goals obtain ⟨a,p,A,b,f,ds,x,rfl,B,O,hp,⟨dl,df⟩,h⟩:=h
 ·rfl
 refine ⟨_,(ze (zo (zcK zdK T.zy hr (pv 0) (za (zt zk9 hr (za (zbk (ix:=[2]) ⟨rfl,by decide +kernel,rfl,by decide +kernel,rfl,(show (["day", "amount"]:List Str).Nodup by decide +kernel),by walk_at "cap", by walk_at "sub", by walk_at "has"⟩ (zQ (pv 1)) (fun b=>(zaf (za (pv 0) (za (pv 1) zd))))) zd)) zd)))),?_⟩
 have sz:=sizeLine_eq
 have ol:=O.len
 have lm:(ds.map V.int).length=ds.length:=yab ..
 nofun
 refine ⟨a,A.dx,_,rfl,B.ins,rfl,?_⟩
 nofun
 refine ⟨⟨_,hp⟩,fun l nl=>?_⟩
 refine comp_map (zab hp) nl (by ac_rfl) (evn ds x) (by unfold evn;rw[yab,yab]) (fun H v s=>∃ t,v=.ref t/\H t=some (.tup [.int s.1,.int s.2])) (fun v e H1 H2 s ⟨t,e1,e2⟩=>⟨t,e1,s _ _ e2⟩) (fun v e H1 ys zs hL ⟨t,e1,e2⟩=>⟨t,e1,by rw[zr (zae e2 hL (by intro z;cases z))];exact e2⟩) ?_ ?_
 ·rintro j v s H2 Q' hv hs sH2 hq
  unfold evn at hs
  rw[yai] at hv hs
  obtain ⟨d,hd,rfl⟩:=Option.map_eq_some_iff.mp hv
  rw[hd] at hs
  obtain rfl:(d,x)=s:=Option.some.inj hs
  nofun
  intro t nt
  exact hq _ _ (zf nt _) ⟨t,rfl,zh⟩
 ·rintro zs H2 s2 eL hL
  have hR:zH K H2 zs (evn ds x):=zmh hL.length fun j v s hv hs=>by
   obtain ⟨s',hs',t,e1,e2⟩:=hL.get hv
   obtain rfl:s'=s:=Option.some.inj (hs'.symm.trans hs)
   exact ⟨t,e1,e2⟩
  have el:(evn ds x).length=ds.length:=yab ..
  have pl:=zhG (evn ds x)
  have B2:=B.same s2
  nofun
  rename_i q ys H3
  intro nq s3 eq hE
  nofun
  refine ⟨a,q,A,b,ys,zaD (evn ds x),rfl,B2.same s3,O.g,eq,hE,by ac_rfl,fun e he=>?_,fun a' A' b' H4 n4 s4 N4 B4 I4 ek eg ee=>?_⟩
  ·have:=(zom O.ok (zqG df x) e he).day
   have:=O.f0
   ac_rfl
  ·exact h a' A' b' H4 (zx s2 (zx s3 n4)) (s2.trans (s3.trans s4)) (N4.gone (s2.trans s3)) B4 (O.more I4 eg ee (by ac_rfl) (zqG df x)) ek eg ee
def zjA (P:Program) (w:World) (K:W.Frag):Sp:=fun vs H Q _=>L2.Ee6 fun a p A b (ms:List Int) z=>L2.Aa8 (vs=[.ref a,.ref p]) (zaK K H a A b) (AB b) (H p=some (.lst ((ms++[z]).map V.int))) (ms.length<=20) ((ms++[z]).Pairwise (·<·)) ((∀ d∈ms++[z],0<=d/\d<=1000000)) (∀ q x ws H',H q=none->Same H H'->H' q=some (.lst ws)->DbL K (uB b) (zN b) x H H' ws (ms++[z])->Q (.ref q) H')
theorem zc0:zk ["book", "days", "rows", "debts", "by_day"] qah (zg zds):=by walk_at "sp"
theorem zpS (S:Src K mg "accounts_at" zds qah) (T:Txt K mg) (zhh:Def P w K mg base 2 "deeds_upto" qah (zkI P w K)) (ze7:Def P w K mg base 7 "debts_behind" qca (zib K)):Def P w K mg base 8 "accounts_at" qah (zjA P w K):=by
 exists S.ok,zc0,0
 all_goals obtain ⟨a,p,A,b,ms,z,rfl,B,O,hp,ml,up,din,h⟩:=h
 ·rfl
 refine ⟨_,(zb (zp (i:=2) zc0.nd rfl (by walk_at "lc") (zt zhh hr (za (pv 0) (za (pv 1) zd))))
  (zb (zp (i:=3) zc0.nd rfl (by walk_at "lc") (zt ze7 hr (za (pv 0) (za (pv 2) zd))))
  (zb (zp (i:=4) zc0.nd rfl (by walk_at "lc") (zM (zsw rfl) rfl T.zd4 PyProof.Rows.boot_dict (za (zbk (ix:=[3,2]) ⟨rfl,by decide +kernel,rfl,by decide +kernel,rfl,(show (["place", "debts", "rows"]:List Str).Nodup by decide +kernel),by walk_at "cap", by walk_at "sub", by walk_at "has"⟩ (zcJ rfl T.zb8 (za (zA zan rfl T.zbN PySem.boot_len (za (pv 2) zd)) zd)) (fun b=>(zaf (za (zv (zbI K) (zv (zgZ K) (pv 2) (pv 0) (fun _ _=>rfl)) zc (fun _ _=>rfl)) (za (zv (zgZ K) (pv 1) (pv 0) (fun _ _=>rfl)) zd))))) zd)))
  (ze (zo (zbk (ix:=[4]) ⟨rfl,by decide +kernel,rfl,by decide +kernel,rfl,(show (["day", "by_day"]:List Str).Nodup by decide +kernel),by walk_at "cap", by walk_at "sub", by walk_at "has"⟩ (zQ (pv 1)) (fun b=>(zv (zuN P w) (pv 1) (pv 0) (fun _ _=>rfl))))))))),?_⟩
 have sz:=sizeLine_eq
 have osz:=O.sz
 nofun
 first | refine ⟨a,p,A,b,ms,z,rfl,B,O.is,hp,by ac_rfl,fun q1 ws ds H1 n1 s1 e1 r1 up1 zay l1=>?_⟩ | refine ⟨A,b,ms,z,B,O.is,hp,by ac_rfl,fun q1 ws ds H1 n1 s1 e1 r1 up1 zay l1=>?_⟩
 have dz:∀ d∈ds,0<=d/\d<=1000000:=fun d hd=>by
  rcases (zay d).mp hd with ⟨h1,h2⟩ | h1
  ·have:=O.d0 d h1
   have:=(din z (by simp)).2
   ac_rfl
  ·exact din d h1
 have dm:∀ d y,y∈ds->d<y->DDay b d->d∈ds:=fun d y hy dy hd=>by
  refine (zay d).mpr (.inl ⟨hd,?_⟩)
  rcases (zay y).mp hy with ⟨_,h2⟩ | h1
  ·ac_rfl
  ·rcases yae.mp h1 with h1 | h1
   ·have:=(ybe.mp up).2.2 y h1 z (by simp)
    ac_rfl
   ·have:y=z:=by simpa using h1
    ac_rfl
 have rl:=r1.length
 nofun
 first | refine ⟨a,q1,A,b,ws,ds,rfl,B.same s1,O,e1,r1,up1,dz,dm,by ac_rfl,fun q2 x vs2 H2 n2 s2 e2 hD=>?_⟩ | refine ⟨A,b,ws,ds,B.same s1,O,e1,r1,up1,dz,dm,by ac_rfl,fun q2 x vs2 H2 n2 s2 e2 hD=>?_⟩
 have vl:=hD.length
 have e12:=s2 _ _ e1
 have r12:=r1.same s2
 nofun
 refine ⟨q1,ws,rfl,.inl (SqL.of e12),?_⟩
 walk_at "rd1"
 refine ⟨by ac_rfl,by ac_rfl,fun l3 n3=>?_⟩
 refine zu9 n3 (by ac_rfl) (ds.zip vs2) (by rw[List.length_zip];ac_rfl) (fun H' v s=>∃ t,v=.ref t/\H' t=some (.tup [.int s.1,s.2])) (fun v e H1 H2 s ⟨t,e1,e2⟩=>⟨t,e1,s _ _ e2⟩) (fun v e H1 ys zs hL ⟨t,e1,e2⟩=>⟨t,e1,by rw[zr (zae e2 hL (by intro z;cases z))];exact e2⟩) ?_ ?_
 ·rintro i e H' Q' hi he sH hq
  obtain ⟨hd,hv⟩:=ycl.mp he
  obtain ⟨d',hd',t,et,ht⟩:=r12.get (yaa (show i<ws.length by ac_rfl))
  obtain rfl:d'=e.1:=Option.some.inj (hd'.symm.trans hd)
  have wi:ws[i]?=some (.ref t):=by rw[yaa (show i<ws.length by ac_rfl),et]
  have ht':=sH _ _ ht
  rw[ydx]
  nofun
  refine ⟨q1,_,_,_,rfl,rfl,SqL.of (sH _ _ e12),zaw wi,?_⟩
  nofun
  first | refine ⟨t,_,_,_,rfl,rfl,SqT.of ht',rfl,?_⟩ | skip
  nofun
  refine ⟨q2,_,_,_,rfl,rfl,SqL.of (sH _ _ e2),zaw hv,?_⟩
  nofun
  intro u nu
  exact hq _ _ (zf nu _) ⟨u,rfl,zh⟩
 ·rintro ys H3 s3 e3 hL
  have nd1:ds.Nodup:=Sby.zem up1
  have zl:(ds.zip vs2).map (·.1)=ds:=List.map_fst_zip (by ac_rfl)
  nofun
  refine ⟨l3,ys,ds.zip vs2,rfl,e3,hL,by rw[List.length_zip];ac_rfl,fun d4 n4=>?_⟩
  rw[zvE (by rw[zl];exact nd1)]
  have s4:=zf n4 (zaV P w d4 (ds.zip vs2))
  have e4:=zG (zaV P w d4 (ds.zip vs2)) n4
  have s04:=s1.trans (s2.trans (s3.trans s4))
  have hp4:=s04 _ _ hp
  have hD4:=hD.same (s3.trans s4)
  nofun
  refine ⟨⟨_,SqL.of hp4⟩,fun l5 n5=>?_⟩
  refine comp_map (zab (SqL.of hp4)) n5 (by rw[yab,yaf];simp;ac_rfl) (ms++[z]) (by rw[yab]) (fun H' v d=>∃ y dy,v=.ref y/\(y≠x/\H1 y=none)/\Deb K H' y dy (uB b) (zN b d).1 (zN b d).2) (fun v e H1 H2 s ⟨y,dy,a1,a2,a3⟩=>⟨y,dy,a1,a2,s _ _ a3⟩) (fun v e H1 ys zs hL ⟨y,dy,a1,a2,a3⟩=>⟨y,dy,a1,a2,Deb.putL a3 hL⟩) ?_ ?_
  ·rintro i v d H' Q' hx hd sH hq
   rw[yai,hd] at hx
   cases hx
   have dm:d∈ds:=(zay d).mpr (.inr (yah hd))
   obtain ⟨j,hj⟩:=ybi.mp dm
   have jl:=(yac.mp hj).1
   obtain ⟨d',hd',y,dy,ey,ny,eD⟩:=hD4.get (yaa (show j<vs2.length by ac_rfl))
   obtain rfl:d'=d:=Option.some.inj (hd'.symm.trans hj)
   have lk:lkV (ds.zip vs2) d'=some (.ref y):=ztu (by ac_rfl) nd1 hj (by rw[yaa (show j<vs2.length by ac_rfl),ey])
   nofun
   refine ⟨d4,_,_,_,rfl,rfl,sH _ _ e4,lk,?_⟩
   exact hq _ _ (Same.refl _) ⟨y,dy,rfl,ny,sH _ _ eD⟩
  ·rintro yR HR sR eR hR
   refine h l5 x yR HR (zx s04 n5) (s04.trans sR) eR ?_
   exact DbL.old (show DbL K (uB b) (zN b) x H1 HR yR (ms++[z]) from hR) s1
def zhf (K:W.Frag):Sp:=fun vs H Q _=>L2.Ee7 fun a p A (b:BkT) f (ds:List Int) x=>L2.Aa7 (vs=[.ref a,.ref p,.int x]) (zaK K H a A b) (zgl f b) (H p=some (.lst (ds.map V.int))) (zfW ds) ((b.es.length+ds.length<=16/\∀ d∈ds,f<=d)) (∀ a' A' (b':BkT) H',H a'=none->Same H H'->Nw H A'->zaK K H' a' A' b'->zgl f b'->b'.kd=b.kd->b'.g=b.g->b'.es=b.es++zaD (evn ds x)->Q (.ref a') H')
theorem zrk:zk qaf qaf (zg zfB):=by walk_at "sp"
theorem zsF (S:Src K mg "with_pays" zfB qaf) (T:Txt K mg) (zhm:Def P w K mg base 4 "check_days" qah (zkM K)) (zlE:Def P w K mg base 7 "paid_on" qaf (znY K)):Def P w K mg base 8 "with_pays" qaf (zhf K):=by
 exists S.ok,zrk,0
 all_goals obtain ⟨a,p,A,b,f,ds,x,rfl,B,O,hp,D,dl,h⟩:=h
 ·rfl
 refine ⟨_,(zb (zaa (zt zhm hr (za (pv 0) (za (pv 1) zd))))
  (ze (zo (zt zlE hr (za (pv 0) (za (pv 1) (za (pv 2) zd))))))),?_⟩
 have ol:=O.len
 nofun
 refine ⟨a,p,A,b,ds,rfl,B,by ac_rfl,hp,D,?_⟩
 nofun
 refine ⟨a,p,A,b,f,ds,x,rfl,B,O,SqL.of hp,dl,fun a' A' b' H' n s N' B' O' e1 e2 e3=>?_⟩
 exact h a' A' b' H' n s N' B' O' e1 e2 e3
def znX (K:W.Frag):Sp:=fun vs H Q _=>L2.Ee8 fun a p A (b:BkT) f ds z x=>L2.Aa7 (vs=[.ref a,.ref p,.int x]) (zaK K H a A b) (zgl f b) (H p=some (.lst ((ds++[z]).map V.int))) (zfW (ds++[z])) ((b.es.length+(ds++[z]).length<=16/\∀ d∈ds++[z],f<=d)) (Q (zhB (owE b.kd b.g (b.es++zaD (evn (ds++[z]) x))) (ds++[z])) H)
theorem zkB:zk ["book", "days", "amount", "debts", "place"] qaf (zg zh9):=by walk_at "sp"
theorem zvp (S:Src K mg "ends_on" zh9 qaf) (T:Txt K mg) (zgk:Def P w K mg base 8 "accounts_at" qah (zjA P w K)) (zcA:Def P w K mg base 8 "with_pays" qaf (zhf K)) (zbd:zu P w K mg base 1 (cA K "Debt") "owed" qaa (zek K)):Def P w K mg base 9 "ends_on" qaf (znX K):=by
 exists S.okF,zkB,0
 all_goals obtain ⟨a,p,A,b,f,ds,z,x,rfl,B,O,hp,D,⟨dl,df⟩,h⟩:=h
 ·rfl
 refine ⟨_,(zb (zp (i:=3) zkB.nd rfl (by walk_at "lc") (zt zgk hr (za (zt zcA hr (za (pv 0) (za (pv 1) (za (pv 2) zd)))) (za (pv 1) zd))))
  (zb (za6 PassesOwn.never rfl (zcJ rfl T.zb8 (za (zA zan rfl T.zbN PySem.boot_len (za (pv 1) zd)) zd)) (zI (i:=4) zkB.nd rfl (by walk_at "lc"))
  (ze (zX (zz zd2 (zK zbd T.zR hr (zv zD (pv 3) (pv 4) (fun _ _=>rfl))) zc (nomark _))
  (ze (zo (zv zD (pv 1) (pv 4) (fun _ _=>rfl))))
   zO)))
  (ze (zo zvt)))),?_⟩
 have sz:=sizeLine_eq
 have ol:=O.len
 have dl2:ds.length+1=(ds++[z]).length:=by rw[yaf];rfl
 nofun
 refine ⟨a,p,A,b,f,ds++[z],x,rfl,B,O,hp,D,⟨dl,df⟩,fun a2 A2 b2 H2 n2 s2 _ B2 O2 k2 g2 e2=>?_⟩
 have hp2:=s2 _ _ hp
 have y:=zud b2.kd
 nofun
 refine ⟨a2,p,A2,b2,ds,z,rfl,B2,zzc O2,hp2,by ac_rfl,D.up,fun d hd=>by have:=D.in_ d hd;ac_rfl,fun q x0 ws H3 n3 s3 eq hD=>?_⟩
 have hp3:=s3 _ _ hp2
 have wl:=hD.length
 have ev:∀ d,(zN b2 d).2 / uB b2=owE b.kd b.g (b.es++zaD (evn (ds++[z]) x)) d:=fun d=>by rw[zy0 O2.is,k2,g2,e2]
 have lm:((ds++[z]).map V.int).length=(ds++[z]).length:=yab ..
 nofun
 refine ⟨p,_,rfl,.inl (SqL.of hp3),_,rfl,by rw[lm];ac_rfl,by rw[lm];ac_rfl,?_⟩
 refine zcP (fun i σ H'=>∃ z1:Option V,(H'=H3/\zhB (owE b.kd b.g (b.es++zaD (evn (ds++[z]) x))) (ds++[z])=zhB (owE b.kd b.g (b.es++zaD (evn (ds++[z]) x))) ((ds++[z]).drop i))/\σ=[some (.ref a),some (.ref p),some (.int x),some (.ref q),z1]) ⟨_,⟨rfl,rfl⟩,rfl⟩ ?_ ?_
 ·rintro i σ H' hi ⟨z1,⟨rfl,ei⟩,rfl⟩
  have il:i<(ds++[z]).length:=by ac_rfl
  obtain ⟨d,hd⟩:∃ d,(ds++[z])[i]?=some d:=⟨_,yaa il⟩
  have iw:i<ws.length:=by ac_rfl
  obtain ⟨d',hd',xx,dx,ev1,_,De⟩:=hD.get (yaa iw)
  obtain rfl:d'=d:=Option.some.inj (hd'.symm.trans hd)
  have ati:atI ws (0+(i:Int))=some (.ref xx):=by rw[ydx];exact zaw (by rw[yaa iw,ev1])
  have atd:atI ((ds++[z]).map V.int) (0+(i:Int))=some (.int d'):=by rw[ydx];exact zaw (by rw[yai,hd];rfl)
  have dr:=zps (F:=owE b.kd b.g (b.es++zaD (evn (ds++[z]) x))) hd
  nofun
  refine ⟨q,_,_,_,rfl,rfl,SqL.of eq,ati,?_⟩
  nofun
  refine ⟨xx,dx,_,rfl,De,rfl,xx,dx,uB b2,_,_,rfl,De,⟨by unfold uB;ac_rfl,by unfold uB;ac_rfl⟩,?_⟩
  rw[ev]
  nofun
  ·rename_i c
   refine ⟨p,_,_,_,rfl,rfl,SqL.of hp3,atd,?_⟩
   rw[ei,dr,if_pos c] at h
   first | exact ⟨s2.trans s3,h⟩ | exact h
  ·rename_i c
   rw[dr,if_neg c] at ei
   exact ⟨_,⟨rfl,ei⟩,rfl⟩
 ·rintro σ H' ⟨z1,⟨rfl,ei⟩,rfl⟩
  rw[show ((((ds++[z]).map V.int).length:Int)).toNat=(ds++[z]).length by rw[lm];ac_rfl,List.drop_length] at ei
  rw[ei] at h
  nofun
  first | exact ⟨s2.trans s3,h⟩ | exact h
noncomputable def zco (es:List Er):List PyData:=es.map fun e=>.tuple (zgQ e.1 e.2.1 e.2.2)
theorem zwP {K:W.Frag} {H:Hp} {vs:List V} {es:List Er} (h:RL H vs es):zcS K H vs (zco es):=by
 induction h with
 | nil=>exact .nil
 | cons h _ ih =>
  obtain ⟨t,rfl,e⟩:=h
  exact .cons (.tup (SqT.of e) (zyC _ _ _)) ih
theorem zlr:∀ es:List Er,PyData.eqvAll (zco es) (zco es)=true
 | []=>by simp[zco,PyData.eqvAll]
 | e::es=>by
  show PyData.eqvAll (.tuple _::zco es) (.tuple _::zco es)=true
  simp[PyData.eqvAll,zw8,zlr es]
theorem zuU (es:List Er):PyData.eqv (.list (zco es)) (.list (zco es))=true:=by
 simp[PyData.eqv,zlr]
theorem zlv:∀ es:List Er,PyData.canLayAll0 (zco es)=true
 | []=>by simp[zco,PyData.canLayAll0]
 | e::es=>by
  show PyData.canLayAll0 (.tuple (zgQ e.1 e.2.1 e.2.2)::zco es)=true
  have h:=zlv es
  obtain ⟨k,d,x⟩:=e
  cases k <;> simp[zgQ,PyData.canLayAll0,PyData.canLay0,h] <;> decide +kernel
theorem zmB:∀ es:List Er,PyData.depthAll (zco es)<=1
 | []=>by simp[zco,PyData.depthAll]
 | e::es=>by
  show PyData.depthAll (.tuple (zgQ e.1 e.2.1 e.2.2)::zco es)<=1
  have h:=zmB es
  obtain ⟨k,d,x⟩:=e
  cases k <;> simp[zgQ,PyData.depthAll,PyData.depth,h] <;> omega
theorem zlu (es:List Er):SeqAt.shaped (.list (zco es))=true:=by
 have:=zmB es
 simp[SeqAt.shaped,PyData.canLay0,PyData.depth,zlv]
 omega
theorem zo4 (kd:Kd):SeqAt.shaped (.str (nm kd))=true:=by
 cases kd <;> simp[nm,SeqAt.shaped,PyData.canLay0,PyData.depth] <;> decide +kernel
theorem zuD {K:W.Frag} {H:Hp} {F:Int->Int}:∀ ds:List Int,∃ dt,RdV K H (zhB F ds) dt/\SeqAt.shaped dt=true/\PyData.eqv dt dt=true
 | []=>⟨.none,.non,rfl,by simp[PyData.eqv]⟩
 | d::ds=>by
  unfold zhB
  split
  ·exact ⟨.int d,.int d,rfl,by simp[PyData.eqv]⟩
  ·exact zuD ds
def zkE (K:W.Frag):Sp:=fun vs H Q _=>L2.zya fun p q a t (ns:List Int) rs (es:List Er) A (b:BkT) ds z x=>L2.zqC (vs=[.ref p,.ref q,.ref a,.ref t,.int x]) (SqL K H p (ns.map V.int)) ((H q=some (.lst rs)/\RL3 H rs es/\LsOk (baseOf ns) es/\∀ e∈es,e.1≠.base)) ((zaK K H a A b/\zgl (baseOf ns) b/\b.kd=kindOf ns/\b.g=zaQ ns/\b.es=es)) (H t=some (.lst ((ds++[z]).map V.int))) (zfW (ds++[z])) (es.length+(ds++[z]).length<=16) ((∀ d∈ds++[z],baseOf ns<=d/\d<baseOf ns+120)) (0<=x) (Q (.bl true) H)
theorem zdx:zk ["_law_script", "_law_rows_here", "_law_book_here", "_law_days_here", "_law_amount", "_law_mine", "_law_paid", "_law_due"] qcb (zg zd7):=by walk_at "sp"
theorem zqZ (S:Src K mg "_law_right" zd7 qcb) (T:Txt K mg) (zcA:Def P w K mg base 8 "with_pays" qaf (zhf K)) (zcu:Def P w K mg base 1 "_law_pays" qaz (zhP K)) (zg1:Def P w K mg base 1 "_law_plain" qas (zkG K)) (zaS:zu P w K mg base 1 (cA K "Book") "grace" qaa (zdz K)) (zaH:zu P w K mg base 1 (cA K "Book") "entries" qaa (zcF K)) (zov:∀ k:Ek,zu P w K mg base 2 (cA K k.cls) "row" qaa (zeY k K)) (zkm:∀ kd:Kd,zu P w K mg base 1 (cA K kd.cls) "name" qaa (zd0 kd K)) (zbh:zu P w K mg base 1 (cA K "Book") "count" qaa (zgq K)) (zlU:Def P w K mg base 9 "ends_on" qaf (znX K)) (zfi:Def P w K mg base 6 "_law_ends_on" qbz (ziw K)):Def P w K mg base 10 "_law_right" qcb (zkE K):=by
 exists S.okF,zdx,0
 all_goals obtain ⟨p,q,a,t,ns,rs,es,A,b,ds,z,x,rfl,hp,⟨hq,hR,O,nb⟩,⟨B,Pk,ek,eg,ee⟩,ht,D,dl,din,x0,h⟩:=h
 ·rfl
 refine ⟨_,(zb (zp (i:=5) zdx.nd rfl (by walk_at "lc") (zM zaM rfl T.zbO PyProof.Rows.boot_list (za (pv 3) zd)))
  (zb (zp (i:=6) zdx.nd rfl (by walk_at "lc") (zt zcA hr (za (pv 2) (za (pv 5) (za (pv 4) zd)))))
  (zb (zox (i:=7) zdx.nd rfl rfl (ix:=[]) ⟨rfl,by decide +kernel,rfl,by decide +kernel,rfl,(show (["_law_row_here"]:List Str).Nodup by decide +kernel),by walk_at "cap", by walk_at "sub", by walk_at "has"⟩ (zQ (zj zeb (pv 1) (zt zcu hr (za (pv 3) (za (pv 4) zd))))) (fun b=>(zt zg1 hr (za (pv 0) zd))))
  (zb (zX (PW.pt (zwO (zz (zk8 hr.units) (zbk (ix:=[]) ⟨rfl,by decide +kernel,rfl,by decide +kernel,rfl,(show (["_law_entry"]:List Str).Nodup by decide +kernel),by walk_at "cap", by walk_at "sub", by walk_at "has"⟩ (zQ (zK zaH T.zy hr (pv 6))) (fun b=>(zeK K zov T.clE hr (pv 0)))) (pv 7) (nomark _)) (zuB (zz (zk8 hr.units) (zK zaS T.zy hr (pv 6)) (zK zaS T.zy hr (pv 2)) (nomark _)))))
  (ze (zo zfm))
   zO)
  (zb (zX (zz (zk8 hr.units) (zfS zkm T.cls hr (zK zbh T.zy hr (pv 6))) (zfS zkm T.cls hr (zK zbh T.zy hr (pv 2))) (nomark _))
  (ze (zo zfm))
   zO)
  (zb (zX (zz (zk8 hr.units) (zt zlU hr (za (pv 2) (za (pv 5) (za (pv 4) zd)))) (zt zfi hr (za (pv 0) (za (pv 1) (za (pv 3) (za (pv 4) zd))))) (nomark _))
  (ze (zo zfm))
   zO)
  (zb (zX (zz (zk8 hr.units) (pv 5) (pv 3) (nomark _))
  (ze (zo zfm))
   zO)
  (zb (zaa (zyf PySem.F.plainAttrs_list PySem.F.slot_list_clear PySem.F.type_list_clear zwh (pv 5)))
  (ze (zo (zbc zak (zA zan rfl T.zbN PySem.boot_len (za (zK zaH T.zy hr (pv 6)) zd)) (zA zan rfl T.zbN PySem.boot_len (za (pv 7) zd)) (nomark _)))))))))))),?_⟩
 have sz:=sizeLine_eq
 have rl:=hR.length
 have lm:((ds++[z]).map V.int).length=(ds++[z]).length:=yab ..
 have el:(evn (ds++[z]) x).length=(ds++[z]).length:=yab ..
 have pl:=zhG (evn (ds++[z]) x)
 have df:∀ d∈ds++[z],baseOf ns<=d:=fun d hd=>(din d hd).1
 nofun
 refine ⟨t,_,rfl,.inl (SqL.of ht),fun m nmm=>?_⟩
 have s1:=zf nmm (.lst ((ds++[z]).map V.int))
 have em:=zG (.lst ((ds++[z]).map V.int)) nmm
 have B1:=B.same s1
 have ht1:=s1 _ _ ht
 have hq1:=s1 _ _ hq
 have hR1:=hR.same s1
 have hp1:=s1.seq hp
 generalize upd H m (.lst ((ds++[z]).map V.int))=H1 at s1 em B1 ht1 hq1 hR1 hp1 ⊢
 nofun
 refine ⟨a,m,A,b,baseOf ns,ds++[z],x,rfl,B1,Pk,em,D,⟨by rw[ee];exact dl,df⟩,fun a2 A2 b2 H2 n2 s2 N2 B2 P2 k2 g2 e2=>?_⟩
 have ht2:=s2 _ _ ht1
 nofun
 refine ⟨t,ds++[z],x,rfl,SqL.of ht2,by ac_rfl,x0,fun c cs H3 nc s3 ec hC=>?_⟩
 have cl:=hC.length
 have s23:=s2.trans s3
 nofun
 refine ⟨q,c,rs,cs,rfl,rfl,s23 _ _ hq1,ec,by ac_rfl,fun q4 nq4=>?_⟩
 have s4:=zf nq4 (.lst (rs++cs))
 have e4:=zG (.lst (rs++cs)) nq4
 have hR4:RL3 (upd H3 q4 (.lst (rs++cs))) (rs++cs) (es++zaD (evn (ds++[z]) x)):=RL3.same (LL.append (hR1.same s23) hC) s4
 have r4l:=hR4.length
 have s24:=s23.trans s4
 generalize upd H3 q4 (.lst (rs++cs))=H4 at s4 e4 hR4 s24 ⊢
 have nb4:∀ e∈es++zaD (evn (ds++[z]) x),e.1≠.base:=fun e he=>by
  rcases yae.mp he with he | he
  ·exact nb e he
  ·obtain ⟨s,_,rfl⟩:=yag.mp he
   intro z
   cases z
 rw[yaf,yaf] at r4l
 nofun
 refine ⟨⟨_,SqL.of e4⟩,fun l nl=>?_⟩
 refine comp_map (zab (SqL.of e4)) nl (by rw[yaf];ac_rfl) (es++zaD (evn (ds++[z]) x)) hR4.length.symm (fun H' v e=>∃ t,v=.ref t/\H' t=some (.tup (zm7 e.1 e.2.1 e.2.2))) (fun v e H1 H2 s ⟨t,e1,e2⟩=>⟨t,e1,s _ _ e2⟩) (fun v e H1 ys zs hL ⟨t,e1,e2⟩=>⟨t,e1,by rw[zr (zae e2 hL (by intro z;cases z))];exact e2⟩) ?_ ?_
 ·rintro j v e H5 Q' hv he sH5 hq'
  obtain ⟨e',he',tt,rfl,htt⟩:=(hR4.same sH5).get hv
  obtain rfl:e'=e:=Option.some.inj (he'.symm.trans he)
  nofun
  refine ⟨tt,e'.1,e'.2.1,e'.2.2,rfl,htt,nb4 e' (yah he),fun t6 H6 s6 e6=>?_⟩
  exact hq' _ _ s6 ⟨t6,rfl,e6⟩
 rintro ys H5 s5 eL hL
 have hL':RL H5 ys (es++zaD (evn (ds++[z]) x)):=hL
 have yl:=hL.length
 have s25:=s24.trans s5
 have B5:=B2.same (s3.trans (s4.trans s5))
 have B15:=B1.same s25
 nofun
 refine ⟨a2,A2.dx,_,rfl,B5.ins,rfl,a2,A2,b2,rfl,B5,fun q6 xs6 n6 hE6=>?_⟩
 have s6:=zf n6 (.lst xs6)
 have e6:=zG (.lst xs6) n6
 have hE:=hE6.same s6
 have xl:=hE.length
 generalize upd H5 q6 (.lst xs6)=H6 at s6 e6 hE ⊢
 refine ⟨q6,rfl,⟨_,SqL.of e6⟩,fun l3 n3=>?_⟩
 have b2l:b2.es.length<=16:=P2.len
 refine comp_map (zab (SqL.of e6)) n3 (by ac_rfl) b2.es xl.symm (fun H' v e=>∃ t,v=.ref t/\H' t=some (.tup (zm7 e.1 e.2.1 e.2.2))) (fun v e H1 H2 s ⟨t,e1,e2⟩=>⟨t,e1,s _ _ e2⟩) (fun v e H1 ys zs hL ⟨t,e1,e2⟩=>⟨t,e1,by rw[zr (zae e2 hL (by intro z;cases z))];exact e2⟩) ?_ ?_
 ·rintro k v e' H2 Q' hv he sH2 hq
  obtain ⟨e2,he2,ae,dxe,rfl,hi⟩:=(hE.same sH2).get hv
  obtain rfl:e2=e':=Option.some.inj (he2.symm.trans he)
  nofun
  refine ⟨e2.1,ae,dxe,_,rfl,hi,zwd _ _ _,ae,dxe,e2.2.1,e2.2.2,rfl,hi,fun t nt=>?_⟩
  exact hq _ _ (zf nt _) ⟨t,rfl,zh⟩
 rintro vs3 H7 s7 e7 hN
 have hN':RL H7 vs3 b2.es:=hN
 rw[e2,ee] at hN'
 have s67:=s6.trans s7
 have B7:=B5.same s67
 have B17:=B15.same s67
 have s17:=s25.trans s67
 nofun
 refine ⟨_,_,.lst (SqL.of e7) (zwP hN'),.lst (SqL.of (s67 _ _ eL)) (zwP (hL'.same s67)),zlu _,zlu _,?_⟩
 rw[zuU]
 nofun
 refine ⟨a2,A2.dx,_,rfl,B7.ins,rfl,a2,A2,b2,rfl,B7,?_⟩
 nofun
 refine ⟨a,A.dx,_,rfl,B17.ins,rfl,a,A,b,rfl,B17,?_⟩
 rw[g2]
 nofun
 refine ⟨_,_,.int _,.int _,rfl,rfl,?_⟩
 rw[show PyData.eqv (.int b.g) (.int b.g)=true by simp[PyData.eqv]]
 nofun
 refine ⟨a2,A2.dx,_,rfl,B7.ins,rfl,a2,A2,b2,rfl,B7,?_⟩
 nofun
 refine ⟨b2.kd,A2.c,rfl,B7.cnt,A2.c,rfl,?_⟩
 nofun
 refine ⟨a,A.dx,_,rfl,B17.ins,rfl,a,A,b,rfl,B17,?_⟩
 nofun
 refine ⟨b.kd,A.c,rfl,B17.cnt,A.c,rfl,?_⟩
 rw[k2]
 refine ⟨_,_,.str _,.str _,zo4 _,zo4 _,?_⟩
 rw[show PyData.eqv (.str (nm b.kd)) (.str (nm b.kd))=true by simp[PyData.eqv]]
 have em7:=s17 _ _ em
 have hp7:=s17.seq hp1
 have hq7:=s17 _ _ hq1
 have hR7:=hR1.same s17
 have ht7:=s17 _ _ ht1
 have eL7:=s67 _ _ eL
 have sAll:=s1.trans s17
 have lef:b.es.length+(ds++[z]).length<=16:=by rw[ee];exact dl
 nofun
 refine ⟨a,m,A,b,baseOf ns,ds,z,x,rfl,B17,Pk,em7,D,⟨lef,df⟩,?_⟩
 nofun
 refine ⟨p,q,t,ns,rs,es,ds,z,x,rfl,hp7,hq7,hR7,O,ht7,⟨by ac_rfl,x0⟩,fun d hd=>⟨(din d hd).1,?_⟩,by have:=din z (by simp);ac_rfl,?_⟩
 ·have up:=D.up
  rw[ybe] at up
  rcases yae.mp hd with hd | hd
  ·have:=up.2.2 d hd z (by simp)
   ac_rfl
  ·obtain rfl:=ybs.mp hd
   exact ydv _
 rw[ek,eg,ee]
 nofun
 obtain ⟨dt,rd,sd,qd⟩:=zuD (K:=K) (H:=H7) (F:=owE (kindOf ns) (zaQ ns) (es++zaD (evn (ds++[z]) x))) (ds++[z])
 refine ⟨dt,dt,rd,rd,sd,sd,?_⟩
 rw[qd]
 nofun
 refine ⟨_,_,.lst (SqL.of em7) (zcS.ints _),.lst (SqL.of ht7) (zcS.ints _),shaped_ints _,shaped_ints _,?_⟩
 rw[zvW]
 nofun
 refine ⟨.inl ⟨rfl,_,SqL.of em7⟩,m,_,rfl,rfl,em7,?_⟩
 have B8:zaK K (upd H7 m (.lst [])) a2 A2 b2:=zyy B7 N2 em em7
 have nlm:l≠m:=(zY ((s24 _ _ em)) nl).symm
 have eL8:(upd H7 m (.lst [])) l=some (.lst ys):=by rw[zr nlm];exact eL7
 have s8:Same H (upd H7 m (.lst [])):=zJ sAll nmm
 generalize upd H7 m (.lst [])=H8 at B8 eL8 s8 ⊢
 nofun
 refine ⟨a2,A2.dx,_,rfl,B8.ins,rfl,a2,A2,b2,rfl,B8,fun q9 xs9 n9 hE9=>?_⟩
 have s9:=zf n9 (.lst xs9)
 have e9:=zG (.lst xs9) n9
 have xl9:=hE9.length
 nofun
 refine ⟨q9,_,rfl,.inl (SqL.of e9),?_⟩
 nofun
 refine ⟨l,_,rfl,.inl (SqL.of (s9 _ _ eL8)),?_⟩
 have el9:xs9.length=ys.length:=by rw[xl9,yl,e2,ee]
 rw[el9]
 nofun
 exact ⟨s8.trans s9,L2.qb h (by simp)⟩
theorem zx5 {b:Int} {es:List Er} (l:es.length<=31) (o:∀ e∈es,OkE b e):zq4 b es :=
 ⟨l,fun e he z=>by
  obtain ⟨_,h1,h2,h3⟩:=o e he
  have e1:e.1=.still:=by
   have:=V.str.inj (of_decide_eq_true z)
   revert this
   cases e.1 <;> first | (intro;rfl) | (intro q;exfalso;revert q;decide)
  have h4:=h3 e1
  rw[e1] at h2
  have h5:e.2.1+1<=e.2.2/\e.2.2<=1000000:=h2
  omega,fun e he=>(by obtain ⟨_,h1,_⟩:=o e he;omega)⟩
theorem zmd {b:Int} {e:Er} (h:OkE b e):OkA b e/\zwD e/\(isW "still" e=true->e.2.1<e.2.2):=by
 obtain ⟨k,d,x⟩:=e
 obtain ⟨_,⟨h1,_⟩,t,_⟩:=h
 cases k
 all_goals refine ⟨⟨h1,fun z=>?_,fun z=>?_,fun z=>?_⟩,⟨fun z=>?_,fun z=>?_,fun z=>?_⟩,fun z=>?_⟩
 all_goals first | exact absurd (show isW _ (_,0,0)=true from z) (by decide) | exact t | exact t.2 | exact Int.le_trans (by decide) t.1 | (have t':d+1<=x/\x<=1000000:=t;show d<x;omega)
theorem zxn {b:Int} {es:List Er} (l:es.length<=31) (o:∀ e∈es,OkE b e):LsOk b es:=⟨zx5 l o,fun e he=>(zmd (o e he)).1,fun s hs=>by
 obtain ⟨e,he,rfl⟩:=yag.mp hs
 obtain ⟨h1,h2⟩:=yao.mp he
 exact (zmd (o e h1)).2.2 h2⟩
theorem zxw {b:BkT} {f:Int} (I:zbj b) (f0:0<=f) (g:0<=b.g/\b.g<=366) (l:b.es.length<=16) (o:∀ e∈b.es,OkE f e):zgl f b:=⟨I,f0,g,fun e he=>(zmd (o e he)).1,l,fun e he=>(zmd (o e he)).2.1⟩
theorem ztS {ds:List Int} (h:1<=ds.length):∃ (l:List Int) (z:Int),ds=l++[z]:=by
 rcases List.eq_nil_or_concat ds with rfl | ⟨l,z,e⟩
 ·simp at h
 ·exact ⟨l,z,by rw[e,List.concat_eq_append]⟩
def zrY (K:W.Frag):Sp:=fun vs H Q _=>∃ (a:Addr) (ns:List Int),vs=[.ref a]/\SqL K H a (ns.map V.int)/\ns.length<=63/\∀ H',Q (.bl true) H'
theorem zfZ:zk ["_law_script", "_law_rows_here", "_law_book_here", "_law_days_here", "_law_k", "_law_xs", "_law_amount", "_law_some"] qab (zg znU):=by walk_at "sp"
theorem zy7 (S:Src K mg "law" znU qab) (T:Txt K mg) (ziG:Def P w K mg base 3 "_law_rows" qbu (zlP K)) (ziT:Def P w K mg base 6 "_law_book" qbl (zk5 K)) (zdF:Def P w K mg base 2 "_law_some_days" qbt (zgv K)) (zaN:Def P w K mg base 2 "_law_base" qab (zcI K)) (zaE:Def P w K mg base 1 "_law_draws" qav (zcr K)) (zE:Def P w K mg base 1 "_law_cell_at" qan (zaI K)) (zh4:Def P w K mg base 10 "_law_right" qcb (zkE K)) (zaH:zu P w K mg base 1 (cA K "Book") "entries" qaa (zcF K)):Def P w K mg base 11 "law" qab (zrY K):=by
 exists S.ok,zfZ,0
 all_goals obtain ⟨a,ns,rfl,hS,hl,h⟩:=h
 ·rfl
 refine ⟨_,(zb (zp (i:=1) zfZ.nd rfl (by walk_at "lc") (zt ziG hr (za (pv 0) (za zc (za zc zd)))))
  (zb (zp (i:=2) zfZ.nd rfl (by walk_at "lc") (zt ziT hr (za (pv 0) (za (pv 1) zd))))
  (zb (zp (i:=3) zfZ.nd rfl (by walk_at "lc") (zt zdF hr (za (pv 0) (za zc (za (zt zaN hr (za (pv 0) zd)) (za zc zd))))))
  (zb (za6 PassesOwn.never rfl (zcJ rfl T.zb8 (za zc zd)) (zI (i:=4) zfZ.nd rfl (by walk_at "lc"))
  (zb (zp (i:=5) zfZ.nd rfl (by walk_at "lc") (zt zaE hr (za (zt zE hr (za (pv 0) (za (zj zF zc (pv 4)) zd))) (za zc zd))))
  (zb (zp (i:=6) zfZ.nd rfl (by walk_at "lc") (zj zS (zv zD (pv 5) zc (fun _ _=>rfl)) (zv zD (zat (za zc (za zc (za (zc4 (v:=1000000) (by decide +kernel) ⟨by decide,by decide,by decide⟩) (za zc (za (zc4 (v:=100000000) (by decide +kernel) ⟨by decide,by decide,by decide⟩) zd)))))) (zj zS (zv zD (pv 5) zc (fun _ _=>rfl)) zc) (fun _ _=>rfl))))
  (ze (za6 PassesOwn.never rfl (zQ (zat (za (pv 3) (za (zj8 zoQ (pv 3) zo3 (zjL zc)) (za (pv 3) zd))))) (zI (i:=7) zfZ.nd rfl (by walk_at "lc"))
  (ze (zX (zfX (zcR (zt zh4 hr (za (pv 0) (za (pv 1) (za (pv 2) (za (pv 7) (za (pv 6) zd))))))))
  (ze (zo zfm))
   zO)))))))
  (ze (zo (zbc zak (zA zan rfl T.zbN PySem.boot_len (za (zK zaH T.zy hr (pv 2)) zd)) (zA zan rfl T.zbN PySem.boot_len (za (pv 1) zd)) (nomark _)))))))),?_⟩
 have sz:=sizeLine_eq
 obtain ⟨b0,b1⟩:=zix ns
 obtain ⟨g0,g1⟩:=zgE ns
 nofun
 refine ⟨a,ns,3,8,rfl,hS,by ac_rfl,fun q rs es H1 nq s1 eq hR el oe=>?_⟩
 have O:=zxn (by ac_rfl) oe
 have hS1:=s1.seq hS
 have rl:=hR.length
 nofun
 refine ⟨a,q,ns,rs,es,rfl,hS1,SqL.of eq,hR,by ac_rfl,fun e he=>⟨(oe e he).1,by have:=(oe e he).2.1.1;ac_rfl⟩,fun k A bk H2 nk s2 B I ek eg ee=>?_⟩
 have Pk:zgl (baseOf ns) bk:=zxw I b0 (by rw[eg];exact ⟨g0,g1⟩) (by rw[ee];ac_rfl) (by rw[ee];exact oe)
 have hS2:=s2.seq hS1
 nofun
 refine ⟨a,ns,rfl,hS2,?_⟩
 nofun
 refine ⟨a,ns,8,_,_,rfl,hS2,⟨b0,b1⟩,by ac_rfl,fun p ds H3 np s3 ep dl up din=>?_⟩
 obtain ⟨l,z,rfl⟩:=ztS dl.1
 have D:zfW (l++[z]):=⟨dl.1,by ac_rfl,up,fun d hd=>by have:=din d hd;ac_rfl⟩
 have B3:=B.same s3
 have s23:=s2.trans s3
 have hS3:=s3.seq hS2
 have eq3:=s23 _ _ eq
 have hR3:=hR.same s23
 clear s1 s2 s3 hS hS1 hS2 eq hR B s23 nq nk np
 have nb:∀ e∈es,e.1≠.base:=fun e he=>(oe e he).1
 obtain ⟨d0,hd0,e0⟩:∃ d0,(l++[z])[0]?=some d0/\zeN ((l++[z]).map V.int) none (some 1)=([]++[d0]).map V.int:=by
  have:=zxh ((l++[z]).map V.int) 1
  cases l with
  | nil=>exact ⟨z,rfl,this⟩
  | cons d l=>exact ⟨d,rfl,this⟩
 have d0i:=din d0 (yah hd0)
 have D1:zfW ([]++[d0]):=⟨ycx _,(show 1<=60 by decide),by simp,fun d hd=>by obtain rfl:d=d0:=ybs.mp hd;ac_rfl⟩
 have din1:∀ d∈[]++[d0],baseOf ns<=d/\d<baseOf ns+120:=fun d hd=>by obtain rfl:d=d0:=ybs.mp hd;exact d0i
 nofun
 refine zcP (fun i σ H'=>L2.Ee4 fun (z1 z2 z3 z4:Option V)=>Same H3 H'/\σ=[some (.ref a),some (.ref q),some (.ref k),some (.ref p),z1,z2,z3,z4]) ⟨_,_,_,_,Same.refl _,rfl⟩ ?_ ?_
 ·rintro i σ H' hi ⟨z1,z2,z3,z4,sH,rfl⟩
  have hS':=sH.seq hS3
  nofun
  refine ⟨a,ns,12+i,congrArg (fun x=>[V.ref a,V.int x]) (show (12:Int)+(0+(i:Int))=((12+i:Nat):Int) by ac_rfl),hS',?_⟩
  nofun
  intro px ms H4 s4 npx ex nl nn
  obtain ⟨n0,n1,n2,rfl⟩:=zuG (ns:=ms) (by ac_rfl)
  nofun
  refine ⟨px,_,_,_,rfl,rfl,SqL.of ex,rfl,?_⟩
  nofun
  intro l5 nl5
  have s5:=zf nl5 (.lst [.int 10,.int 1000,.int 1000000,.int 1,.int 100000000])
  have e5:=zG (.lst [.int 10,.int 1000,.int 1000000,.int 1,.int 100000000]) nl5
  have ex5:=s5 _ _ ex
  have c0:=ydu n1 (show (5:Int)≠0 by decide)
  have c1:=ydt n1 (show (0:Int)<5 by decide)
  obtain ⟨v,hv,hm⟩:=zjM (xs:=[.int 10,.int 1000,.int 1000000,.int 1,.int 100000000]) c0 (by simpa using c1)
  obtain ⟨tp,rfl,htp⟩:=(zay ⟨_,rfl,by ac_rfl⟩ (zay ⟨_,rfl,by ac_rfl⟩ (zay ⟨_,rfl,by ac_rfl⟩ (zay ⟨_,rfl,by ac_rfl⟩ (zay ⟨_,rfl,by ac_rfl⟩ zoe)))):∀ v∈([.int 10,.int 1000,.int 1000000,.int 1,.int 100000000]:List V),∃ w:Int,v=.int w/\0<w) v hm
  have s45:=s4.trans s5
  generalize upd H4 l5 (.lst [.int 10,.int 1000,.int 1000000,.int 1,.int 100000000])=H5 at s5 e5 ex5 s45 ⊢
  nofun
  refine ⟨px,_,_,_,rfl,rfl,SqL.of ex5,rfl,?_⟩
  nofun
  refine ⟨l5,_,_,_,rfl,rfl,SqL.of e5,hv,?_⟩
  clear hv hm
  have x0:=ydu n0 (show tp≠0 by ac_rfl)
  have sH5:=sH.trans s45
  have ep5:=sH5 _ _ ep
  nofun
  refine ⟨p,_,rfl,SqL.of ep5,fun c6 nc6=>?_⟩
  rw[e0]
  have s6:=zf nc6 (.lst (([]++[d0]).map V.int))
  have e6:=zG (.lst (([]++[d0]).map V.int)) nc6
  nofun
  intro l7 nl7
  have s7:=zf nl7 (.lst [.ref p,.ref c6,.ref p])
  have e7:=zG (.lst [.ref p,.ref c6,.ref p]) nl7
  have e67:=s7 _ _ e6
  have s37:=sH5.trans (s6.trans s7)
  generalize upd (upd H5 c6 (.lst (([]++[d0]).map V.int))) l7 (.lst [.ref p,.ref c6,.ref p])=H7 at s7 e7 e67 s37 ⊢
  have it:∀ (j:Nat) (x:V),([.ref p,.ref c6,.ref p]:List V)[j]?=some x->∃ (t:Addr) (m:List Int) (y:Int),x=.ref t/\H7 t=some (.lst ((m++[y]).map V.int))/\zfW (m++[y])/\es.length+(m++[y]).length<=16/\∀ d∈m++[y],baseOf ns<=d/\d<baseOf ns+120:=fun j x hx=>by
   match j,hx with
   | 0,hx=>cases hx;exact ⟨p,l,z,rfl,s37 _ _ ep,D,by ac_rfl,din⟩
   | 1,hx=>cases hx;exact ⟨c6,[],d0,rfl,e67,D1,by show es.length+1<=16;ac_rfl,din1⟩
   | 2,hx=>cases hx;exact ⟨p,l,z,rfl,s37 _ _ ep,D,by ac_rfl,din⟩
   | j+3,hx=>simp at hx
  nofun
  refine ⟨⟨_,SqL.of e7⟩,zbm (xs:=[.ref p,.ref c6,.ref p]) (fun j σ H'=>∃ z4:Option V,Same H7 H'/\σ=[some (.ref a),some (.ref q),some (.ref k),some (.ref p),some (.int (0+(i:Int))),some (.ref px),some (.int (n0 % tp)),z4]) ⟨_,Same.refl _,rfl⟩ ?_ ?_ ?_⟩
  ·rintro j σ H' _ ⟨z4,s8,_⟩
   exact SqL.of (s8 _ _ e7)
  ·rintro j x σ H' hx ⟨z4,s8,rfl⟩
   obtain ⟨t,m,y,rfl,ht,Dt,lt,dt⟩:=it j x hx
   have s38:=s37.trans s8
   nofun
   refine ⟨a,q,k,t,ns,rs,es,A,bk,m,y,n0 % tp,rfl,s38.seq hS3,⟨s38 _ _ eq3,hR3.same s38,O,nb⟩,⟨B3.same s38,Pk,ek,eg,ee⟩,s8 _ _ ht,Dt,lt,dt,x0,?_⟩
   nofun
   exact ⟨_,s8,rfl⟩
  ·rintro σ H' ⟨z4,s8,rfl⟩
   exact ⟨_,_,_,_,s37.trans s8,rfl⟩
 ·rintro σ H' ⟨z1,z2,z3,z4,sH,rfl⟩
  have B':=B3.same sH
  nofun
  refine ⟨k,A.dx,_,rfl,B'.ins,rfl,k,A,bk,rfl,B',fun q9 xs9 n9 hE9=>?_⟩
  have s9:=zf n9 (.lst xs9)
  have e9:=zG (.lst xs9) n9
  have xl9:=hE9.length
  nofun
  refine ⟨q9,_,rfl,.inl (SqL.of e9),?_⟩
  nofun
  refine ⟨q,_,rfl,.inl (SqL.of (s9 _ _ (sH _ _ eq3))),?_⟩
  have el9:xs9.length=rs.length:=by rw[xl9,ee,rl]
  rw[el9]
  nofun
  exact L2.qb (h _) (by simp)
end
theorem zyB {K:W.Frag} {mg:Str->Option Value} (T:Txt K mg) (zkl:Src K mg "table_of" zgO qal) (zo2:Src K mg "begun" zl8 qax) (ze5:Src K mg "running_sums" zdb qam) (zmV:Src K mg "joined" zjQ ["spans"]) (zjT:Src K mg "is_whole" zgF qak) (zlp:Src K mg "is_leap" zio qaj) (zke:Src K mg "new_year" zgJ qaj) (znq:Src K mg "summed" zj0 qal) (zfg:Src K mg "_law_cell_at" zc2 qan) (zh5:Src K mg "_law_draws" zer qav) (zhA:Src K mg "_law_value" zd8 qbm) (zi4:Src K mg "_law_leap" zfG qaw) (zhQ:Src K mg "_law_still" zeM qar) (zg4:Src K mg "_law_falls" zea qbn) (zjp:Src K mg "_law_sums" zfo qao) (zhO:Src K mg "_law_deeds" zeP qbo) (zgc:Src K mg "_law_by_day" zdB qao) (zjn:Src K mg "_law_pays" zfP qaz) (zhH:Src K mg "_law_plain" zey qas) (zjU:Src K mg "value_at" zgL qbp) (zi7:Src K mg "late_sums" zfj qag) (zoH:Src K mg "moved" zmj qap) (zfc:Src K mg "turning_days" zc6 qag) (zhj:Src K mg "deeds_upto" zd5 qah) (zna:Src K mg "is_day" zku qak) (zg9:Src K mg "month_days" zeH qbd) (zle:Src K mg "year_of" zik qat) (ziM:Src K mg "is_within" zfL qbf) (znh:Src K mg "sum_by" zko qae) (zli:Src K mg "days_of" ziv qae) (zhd:Src K mg "rate_table" zeq qae) (zf2:Src K mg "still_spans" zdu qbq) (zkg:Src K mg "_law_row" zgP qbr) (zjg:Src K mg "_law_base" zfE qab) (zhD:Src K mg "_law_grace" zeB qab) (zhv:Src K mg "_law_count" zeQ qab) (zdl:Src K mg "_law_month_size" zb0 qba) (zjm:Src K mg "_law_dues" zfC qar) (ziH:Src K mg "_law_unit" zfv qab) (zdJ:Src K mg "_law_all_deeds" zci qbs) (zdN:Src K mg "_law_some_days" zck qbt) (zmU:Src K mg "stands" zjX qap) (zln:Src K mg "date_of" zil qat) (zf8:Src K mg "check_terms" zdA qbg) (zf5:Src K mg "fallen_dues" zdC qbh) (zkx:Src K mg "are_days" zgK qbi) (ziW:Src K mg "_law_rows" zfN qbu) (zjw:Src K mg "_law_date" zfA qbv) (zk7:Src K mg "burdens" zh8 qag) (zkf:Src K mg "do_deeds" zgD qbj) (zhk:Src K mg "check_days" zeI qah) (zlb:Src K mg "as_pays" zih qam) (ziK:Src K mg "_law_made" zfl qas) (ze8:Src K mg "_law_weights" zdg qbw) (zjt:Src K mg "_law_days" zfM qbx) (zhM:Src K mg "charged_by" zeF qby) (ziz:Src K mg "_law_book" zfD qbl) (ze2:Src K mg "_law_ends_on" zdc qbz) (zfe:Src K mg "debts_behind" zcW qca) (zlG:Src K mg "paid_on" ziu qaf) (zgs:Src K mg "accounts_at" zds qah) (zjc:Src K mg "with_pays" zfB qaf) (zlA:Src K mg "ends_on" zh9 qaf) (zhJ:Src K mg "_law_right" zd7 qcb) (zqj:Src K mg "law" znU qab) (zhy:zq K (cA K (Ek.cls .out)) "word" "Out.word" zgN qaa) (zhs:zq K (cA K (Ek.cls .fee)) "word" "Fee.word" zgM qaa) (zhg:zq K (cA K (Ek.cls .pay)) "word" "Pay.word" zgB qaa) (zhF:zq K (cA K (Ek.cls .due)) "word" "Due.word" zgH qaa) (zgb:zq K (cA K (Ek.cls .turn)) "word" "Turn.word" zfr qaa) (zga:zq K (cA K (Ek.cls .rate)) "word" "Rate.word" zfF qaa) (zgd:zq K (cA K (Ek.cls .late)) "word" "Late.word" zfp qaa) (zeW:zq K (cA K (Ek.cls .still)) "word" "Still.word" zeC qaa) (zgn:zq K (cA K (Ek.cls .base)) "word" "Entry.word" zeD qaa) (zjh:zq K (cA K (Ek.cls .out)) "row" "AmountEntry.row" zao qaa) (ziX:zq K (cA K (Ek.cls .fee)) "row" "AmountEntry.row" zao qaa) (zjr:zq K (cA K (Ek.cls .pay)) "row" "AmountEntry.row" zao qaa) (zjv:zq K (cA K (Ek.cls .due)) "row" "AmountEntry.row" zao qaa) (zhu:zq K (cA K (Ek.cls .turn)) "row" "Entry.row" zcs qaa) (zhC:zq K (cA K (Ek.cls .rate)) "row" "RateEntry.row" zbl qaa) (zh0:zq K (cA K (Ek.cls .late)) "row" "RateEntry.row" zbl qaa) (zf4:zq K (cA K (Ek.cls .still)) "row" "Still.row" zfn qaa) (zhL:zq K (cA K (Ek.cls .base)) "row" "Entry.row" zcs qaa) (zj1:zq K (cA K "Due") "__init__" "AmountEntry.__init__" zag qai) (zjV:zq K (cA K "Fee") "__init__" "AmountEntry.__init__" zag qai) (zjs:zq K (cA K "Late") "__init__" "RateEntry.__init__" zba qau) (zkq:zq K (cA K "Out") "__init__" "AmountEntry.__init__" zag qai) (zkC:zq K (cA K "Pay") "__init__" "AmountEntry.__init__" zag qai) (zjf:zq K (cA K "Rate") "__init__" "RateEntry.__init__" zba qau) (zhR:zq K (cA K "Still") "__init__" "Still.__init__" zeJ qbe) (ziJ:zq K (cA K "Turn") "__init__" "Entry.__init__" zbC qac) (zff:zqs K (cA K "Entry") "__init__" "Entry.__init__" zbC qac) (ziD:zq K (cA K "Debt") "grow" "Debt.grow" zfx qbc) (ziO:zq K (cA K "Debt") "__init__" "Debt.__init__" zfy qay) (zje:zq K (cA K "Debt") "owed" "Debt.owed" zfO qaa) (zdI:zq K (cA K "Debt") "principal" "Debt.principal" zcg qaa) (zg6:zq K (cA K "Book") "count" "Book.count" zeA qaa) (zdT:zq K (cA K "Book") "deed_days" "Book.deed_days" zcm qaa) (zjq:zq K (cA K "Book") "dues" "Book.dues" zft qaa) (ze9:zq K (cA K "Book") "entries" "Book.entries" zdd qaa) (zjd:zq K (cA K "Book") "fees" "Book.fees" zfq qaa) (zhi:zq K (cA K "Book") "grace" "Book.grace" zed qaa) (zg0:zq K (cA K "Book") "lates" "Book.lates" zeu qaa) (zi2:zq K (cA K "Book") "outs" "Book.outs" zfw qaa) (zjb:zq K (cA K "Book") "pays" "Book.pays" zfs qaa) (zhU:zq K (cA K "Book") "rates" "Book.rates" zeR qaa) (zgj:zq K (cA K "Book") "stills" "Book.stills" zdw qaa) (zh6:zq K (cA K "Book") "turns" "Book.turns" zej qaa) (zdQ:zq K (cA K "Debt") "add_cents" "Debt.add_cents" zcp qad) (zi9:zq K (cA K "Debt") "turn" "Debt.turn" zfu qaa) (ziN:zq K (cA K "Debt") "copy" "Debt.copy" zfJ qaa) (zkv:zq K (cA K "Debt") "fee" "Debt.fee" zgC qad) (zju:zq K (cA K "Debt") "lend" "Debt.lend" zfI qad) (zi1:zq K (cA K "Debt") "take" "Debt.take" zfH qad) (ziE:zq K (cA K "Book") "__init__" "Book.__init__" zfz qbb) (zdL:zq K (cA K "Book") "with_more" "Book.with_more" zcl qbk) (zhe:zq K (cA K (Kd.cls .plain)) "name" "Count.name" zen qaa) (zja:zq K (cA K (Kd.cls .bank)) "name" "Bank.name" zfK qaa) (zf9:zq K (cA K (Kd.cls .thirty)) "name" "Thirty.name" zdD qaa) (zhI:zq K (cA K (Kd.cls .exact)) "name" "Exact.name" zd9 qaa) (zgY:zq K (cA K (Kd.cls .plain)) "year" "Count.year" zew qaa) (ziF:zq K (cA K (Kd.cls .bank)) "year" "Bank.year" zfQ qaa) (zge:zq K (cA K (Kd.cls .thirty)) "year" "Thirty.year" zdt qaa) (zhT:zq K (cA K (Kd.cls .exact)) "year" "Exact.year" zet qaa) (zho:zq K (cA K (Kd.cls .plain)) "unit" "Count.unit" zaU qaa) (zi6:zq K (cA K (Kd.cls .bank)) "unit" "Count.unit" zaU qaa) (zgi:zq K (cA K (Kd.cls .thirty)) "unit" "Count.unit" zaU qaa) (zhV:zq K (cA K (Kd.cls .exact)) "unit" "Count.unit" zaU qaa) (zhX:zq K (cA K (Kd.cls .plain)) "upto" "Count.upto" zb2 qac) (zjo:zq K (cA K (Kd.cls .bank)) "upto" "Count.upto" zb2 qac) (zgf:zq K (cA K (Kd.cls .thirty)) "upto" "Thirty.upto" zdy qac) (zhK:zq K (cA K (Kd.cls .exact)) "upto" "Exact.upto" zep qac) (zeT:zq K (cA K (Kd.cls .plain)) "weight" "Count.weight" zaF qaq) (zgh:zq K (cA K (Kd.cls .bank)) "weight" "Count.weight" zaF qaq) (zeE:zq K (cA K (Kd.cls .thirty)) "weight" "Count.weight" zaF qaq) (ze3:zq K (cA K (Kd.cls .exact)) "weight" "Count.weight" zaF qaq) {P:Program} {w:World} {base:Heap}:Def P w K mg base 11 "law" qab (zrY K):=by
 have zj3:=zuc (P:=P) (w:=w) (base:=base) zkl T
 have zc1:=zxD (P:=P) (w:=w) (base:=base) zo2 T
 have zbw:=zoi (P:=P) (w:=w) (base:=base) ze5 T
 have zjj:=zsI (P:=P) (w:=w) (base:=base) ziD T
 have zcx:=zsv (P:=P) (w:=w) (base:=base) ziO T
 have zbd:=zs9 (P:=P) (w:=w) (base:=base) zje T
 have zdO:=zmP (P:=P) (w:=w) (base:=base) zdI T
 have zmQ:=zwm (P:=P) (w:=w) (base:=base) zmV T
 have zda:=zuo (P:=P) (w:=w) (base:=base) zjT T
 have zdW:=zu1 (P:=P) (w:=w) (base:=base) zlp T
 have zbs:=zt3 (P:=P) (w:=w) (base:=base) zke T
 have zkm:∀ kd:Kd,zu P w K mg base 1 (cA K kd.cls) "name" qaa (zd0 kd K):=fun kd=>by
  cases kd
  ·exact zqV .plain (by simp) zhe T
  ·exact zsY .bank (by simp) zja T
  ·exact zp2 .thirty (by simp) zf9 T
  ·exact zq7 .exact (by simp) zhI T
 have zcj:∀ kd:Kd,zu P w K mg base 1 (cA K kd.cls) "year" qaa (zcH kd K):=fun kd=>by
  cases kd
  ·exact zqy .plain (by simp) zgY T
  ·exact zs1 .bank (by simp) ziF T
  ·exact zp3 .thirty (by simp) zge T
  ·exact zq2 .exact (by simp) zhT T
 have zaj:=zp0 (P:=P) (w:=w) (base:=base) zff T
 have ziY:=zrw (P:=P) (w:=w) (base:=base) "Turn" ziJ T
 have zW:∀ k:Ek,zu P w K mg base 1 (cA K k.cls) "word" qaa (zas k K):=fun k=>by
  cases k
  ·exact zun .out (by simp) zhy T
  ·exact zuy .fee (by simp) zhs T
  ·exact zux .pay (by simp) zhg T
  ·exact zum .due (by simp) zhF T
  ·exact zsh .turn (by simp) zgb T
  ·exact zs4 .rate (by simp) zga T
  ·exact zsr .late (by simp) zgd T
  ·exact zrz .still (by simp) zeW T
  ·exact zq5 .base (by simp) zgn T
 have zfb:=zwa (P:=P) (w:=w) (base:=base) znq T
 have zbh:=zsg (P:=P) (w:=w) (base:=base) zg6 T
 have zdS:=zm3 (P:=P) (w:=w) (base:=base) zdT T
 have zcy:=zsj (P:=P) (w:=w) (base:=base) zjq T
 have zaH:=zow (P:=P) (w:=w) (base:=base) ze9 T
 have ziP:=zsQ (P:=P) (w:=w) (base:=base) zjd T
 have zaS:=zqz (P:=P) (w:=w) (base:=base) zhi T
 have zca:=zqQ (P:=P) (w:=w) (base:=base) zg0 T
 have ziC:=zsm (P:=P) (w:=w) (base:=base) zi2 T
 have zbg:=zsi (P:=P) (w:=w) (base:=base) zjb T
 have zb9:=zrt (P:=P) (w:=w) (base:=base) zhU T
 have zbK:=zp9 (P:=P) (w:=w) (base:=base) zgj T
 have zha:=zqm (P:=P) (w:=w) (base:=base) zh6 T
 have zE:=zoM (P:=P) (w:=w) (base:=base) zfg T
 have zaE:=zrB (P:=P) (w:=w) (base:=base) zh5 T
 have zhS:=zqx (P:=P) (w:=w) (base:=base) zhA T
 have za3:=zsx (P:=P) (w:=w) (base:=base) zi4 T
 have zcb:=zrD (P:=P) (w:=w) (base:=base) zhQ T
 have zg3:=zrM (P:=P) (w:=w) (base:=base) zg4 T
 have zct:=zsB (P:=P) (w:=w) (base:=base) zjp T
 have zhE:=zrE (P:=P) (w:=w) (base:=base) zhO T
 have zdq:=zpI (P:=P) (w:=w) (base:=base) zgc T
 have zcu:=zso (P:=P) (w:=w) (base:=base) zjn T
 have zg1:=zrC (P:=P) (w:=w) (base:=base) zhH T
 have zcZ:=zuu zjU T zc1
 have ziU:=zsR zi7 T zbw zcy zaS
 have zaA:=zm1 zdQ T zbd
 have zi8:=zsq zi9 T zbd
 have zgX:=zxP zoH T zc1
 have ze6:=zok zfc T zb9 zca zbg zcy zaS zbK
 have zhh:=zrT zhj T ziC ziP zha zbg zdS
 have znj:=zv7 zna T zda
 have zez:=zrN zg9 T zdW
 have zdZ:=zvc zle T zbs
 have zmR:∀ kd:Kd,zu P w K mg base 2 (cA K kd.cls) "unit" qaa (zk4 kd K):=fun kd=>by
  cases kd
  ·exact zeo .plain (by simp) zho T zcj
  ·exact zeo .bank (by simp) zi6 T zcj
  ·exact zeo .thirty (by simp) zgi T zcj
  ·exact zeo .exact (by simp) zhV T zcj
 have zov:∀ k:Ek,zu P w K mg base 2 (cA K k.cls) "row" qaa (zeY k K):=fun k=>by
  cases k
  ·exact zbZ .out (by simp) zjh T zW
  ·exact zbZ .fee (by simp) ziX T zW
  ·exact zbZ .pay (by simp) zjr T zW
  ·exact zbZ .due (by simp) zjv T zW
  ·exact zmJ .turn (by simp) zhu T zW
  ·exact zid .rate (by simp) zhC T zW
  ·exact zid .late (by simp) zh0 T zW
  ·exact zsD .still (by simp) zf4 T zW
  ·exact zmJ .base (by simp) zhL T zW
 have zkh:=zbS "Due" zj1 T zaj
 have zjW:=zbS "Fee" zjV T zaj
 have zks:=zbS "Out" zkq T zaj
 have zcY:=zbS "Pay" zkC T zaj
 have ziA:=zh2 "Late" zjs T zaj
 have zjk:=zh2 "Rate" zjf T zaj
 have zhl:=zqM "Still" zhR T zaj
 have ziL:=zsS ziM T zda
 have zcM:=zvU znh T zfb zW
 have zlH:=zuH zli T zW
 have zes:=zqr zhd T zj3 zW
 have zgu:=zp4 zf2 T zW zmQ
 have zj2:=zt4 zkg T zaE zhS
 have zaN:=zsZ zjg T zE
 have zcc:=zr7 zhD T zE
 have zhr:=zsa zhv T zE
 have zaP:=zmt zdl T za3
 have ziZ:=zsz zjm T zcb zg3 zct
 have zcw:=zs6 ziH T zE
 have zdM:=znd zdJ T zct
 have zdF:=zm4 zdN T zE zaE
 have zi3:=zsW ziN T zcx
 have zj4:=ztV zkv T zaA
 have zi0:=zsp zju T zaA
 have ziQ:=zsU zi1 T zaA
 have zni:=zwj zmU T zgX
 have zlz:=zvB zln T zdZ zbs zez
 have zgt:=zpH zf8 T ziL
 have zf3:=zpF zf5 T zfb zcM zgX
 have zjS:=zuv zkx T znj
 have ziG:=zsM ziW T zaN zE zaE zj2
 have ziV:=zsH zjw T za3 zaP
 have zkW:=zuC zk7 T zbK zb9 zca ziU zbw zbg ze6 zni zcZ
 have zkw:=ztG zkf T zi0 zj4 zi8 ziQ
 have zdG:∀ kd:Kd,zu P w K mg base 4 (cA K kd.cls) "upto" qac (zfV kd K):=fun kd=>by
  cases kd
  ·exact zlV .plain (by simp) zhX T
  ·exact zlV .bank (by simp) zjo T
  ·exact zp1 .thirty (by simp) zgf T zlz
  ·exact zqY .exact (by simp) zhK T zdZ zdW zcj zbs
 have zcz:=zsJ ziE T zgt zcM zlH zes zgu zf3
 have zhm:=zrl zhk T zjS zaH
 have zk9:=zuS zlb T zcY
 have ziS:=zs3 ziK T zks zjW ziY zcY zkh zjk ziA zhl
 have zeX:=zoN ze8 T ziV zaP za3
 have zjY:∀ kd:Kd,zu P w K mg base 5 (cA K kd.cls) "weight" qaq (zji kd K):=fun kd=>by
  cases kd
  ·exact zcX .plain (by simp) zeT T zdG
  ·exact zcX .bank (by simp) zgh T zdG
  ·exact zcX .thirty (by simp) zeE T zdG
  ·exact zcX .exact (by simp) ze3 T zdG
 have ziI:=zs7 zjt T zaN zcw zcc zeX zE zcb ziZ zdM zdq zhE
 have zhq:=zrS zhM T zc1 zjY
 have zdK:=zm6 zdL T zcz
 have ziT:=zsG ziz T zcz ziS zcc zhr
 have zfi:=zoh ze2 T zaN ziI zcu zcw
 have ze7:=zoo zfe T zkW zcx zmR zbh zjj zhq zdO zkw zi3
 have zlE:=zvC zlG T zdK zk9
 have zgk:=zpS zgs T zhh ze7
 have zcA:=zsF zjc T zhm zlE
 have zlU:=zvp zlA T zgk zcA zbd
 have zh4:=zqZ zhJ T zcA zcu zg1 zaS zaH zov zkm zbh zlU zfi
 have zzg:=zy7 zqj T ziG ziT zdF zaN zaE zE zh4 zaH
 exact zzg
end My
local macro_rules | `(tactic| walk_at "m")=>do
 let [i,f,k,l,c,b]:=[`i,`f,`k,`l,`c,`b].map Lean.mkIdent | unreachable!
 `(tactic| ((case $i:ident=>k_is);(case $f:ident=>k_is);(case $k:ident=>k_is);(case $l:ident=>k_is);(case $c:ident=>k_is);(case $b:ident=>walk_at "s1")))
local macro_rules | `(tactic| walk_at "n")=>do
 let [a,l,c,k,b]:=[`a,`l,`c,`k,`b].map Lean.mkIdent | unreachable!
 `(tactic| ((case $a:ident=>k_is);(case $l:ident=>k_is);(case $c:ident=>k_is);(case $k:ident=>k_is);(case $b:ident=>walk_at "s1")))
local macro_rules | `(tactic| exists $x:term,$y:term,$z:term,$t:term,$u:term)=>do
 let [i,f,k,l,c,b]:=[`i,`f,`k,`l,`c,`b].map Lean.mkIdent | unreachable!
 `(tactic| (refine' L2.zw (m:=$x) (qual:=$y) (st:=$z) (ps:=$t) $u ?$i ?$f ?$k ?$l ?$c ?$b;walk_at "m"))
local macro_rules | `(tactic| exists $x:term,$y:term,$t:term)=>do
 let [X,G,a,l,c,k,b]:=[`KX,`G,`a,`l,`c,`k,`b].map Lean.mkIdent | unreachable!
 `(tactic| (refine' L2.zC (x:=$x) (st:=$y) (ps:=$t) $X $G ?$a ?$l ?$c ?$k ?$b;walk_at "n"))
open PySem PySem.W PyProof.Rows L2 My
set_option maxRecDepth 100000 in
set_option maxHeartbeats 0 in
theorem PySem.Challenge.cw_loanroll_k61_sums_paid_on_days_holds : PySem.Challenge.rw_loanroll_k61_sums_paid_on_days.Holds := by
 refine _root_.hd ?_
 k_fill
 refine zwf (l:=PySem.Challenge.rw_loanroll_k61_sums_paid_on_days) (lv:=11) (sp:=zrY) (x:="_law_script") (st:=znU) rfl rfl rfl ⟨rfl,by decide,by decide⟩ (fun w h Y=>PySem.W.kIn_of Y) ?F (fun K H a ns hl hS=>⟨a,ns,rfl,hS,hl,fun _=>rfl⟩)
 case F =>
  intro w mg h KX G
  have zqe:mg "all" = none:=mg_none_of KX G (by k_is)
  have zrc:mg "bool" = none:=mg_none_of KX G (by k_is)
  have zd4:mg "dict" = none:=mg_none_of KX G (by k_is)
  have zdv:mg "int" = none:=mg_none_of KX G (by k_is)
  have zb3:mg "isinstance" = none:=mg_none_of KX G (by k_is)
  have zbN:mg "len" = none:=mg_none_of KX G (by k_is)
  have zbO:mg "list" = none:=mg_none_of KX G (by k_is)
  have zdr:mg "max" = none:=mg_none_of KX G (by k_is)
  have zdp:mg "min" = none:=mg_none_of KX G (by k_is)
  have zb8:mg "range" = none:=mg_none_of KX G (by k_is)
  have zmc:mg "set" = none:=mg_none_of KX G (by k_is)
  have zbU:mg "sorted" = none:=mg_none_of KX G (by k_is)
  have a_Bank:=by refine' zbA (x:="Bank") KX ?a;case a=>k_is
  have a_Book:=by refine' zbA (x:="Book") KX ?a;case a=>k_is
  have a_Count:=by refine' zbA (x:="Count") KX ?a;case a=>k_is
  have a_Debt:=by refine' zbA (x:="Debt") KX ?a;case a=>k_is
  have a_Due:=by refine' zbA (x:="Due") KX ?a;case a=>k_is
  have a_Entry:=by refine' zbA (x:="Entry") KX ?a;case a=>k_is
  have a_Exact:=by refine' zbA (x:="Exact") KX ?a;case a=>k_is
  have a_Fee:=by refine' zbA (x:="Fee") KX ?a;case a=>k_is
  have a_Late:=by refine' zbA (x:="Late") KX ?a;case a=>k_is
  have a_Out:=by refine' zbA (x:="Out") KX ?a;case a=>k_is
  have a_Pay:=by refine' zbA (x:="Pay") KX ?a;case a=>k_is
  have a_Rate:=by refine' zbA (x:="Rate") KX ?a;case a=>k_is
  have a_Still:=by refine' zbA (x:="Still") KX ?a;case a=>k_is
  have a_Thirty:=by refine' zbA (x:="Thirty") KX ?a;case a=>k_is
  have a_Turn:=by refine' zbA (x:="Turn") KX ?a;case a=>k_is
  have cls_Count:=by refine' zbx a_Count ?_ ?_ ?_ ?_;all_goals k_is
  have zuJ:=by refine' znH a_Count ?_ ?_ ?_;all_goals k_is
  have cls_Bank:=by refine' zbx a_Bank ?_ ?_ ?_ ?_;all_goals k_is
  have zvP:=by refine' znH a_Bank ?_ ?_ ?_;all_goals k_is
  have cls_Thirty:=by refine' zbx a_Thirty ?_ ?_ ?_ ?_;all_goals k_is
  have ztI:=by refine' znH a_Thirty ?_ ?_ ?_;all_goals k_is
  have cls_Exact:=by refine' zbx a_Exact ?_ ?_ ?_ ?_;all_goals k_is
  have zvi:=by refine' znH a_Exact ?_ ?_ ?_;all_goals k_is
  have zhe:=by exists "name","Count.name",zen,qaa,a_Count
  have zgY:=by exists "year","Count.year",zew,qaa,a_Count
  have zho:=by exists "unit","Count.unit",zaU,qaa,a_Count
  have zhX:=by exists "upto","Count.upto",zb2,qac,a_Count
  have zeT:=by exists "weight","Count.weight",zaF,qaq,a_Count
  have zja:=by exists "name","Bank.name",zfK,qaa,a_Bank
  have ziF:=by exists "year","Bank.year",zfQ,qaa,a_Bank
  have zi6:=by exists "unit","Count.unit",zaU,qaa,a_Bank
  have zjo:=by exists "upto","Count.upto",zb2,qac,a_Bank
  have zgh:=by exists "weight","Count.weight",zaF,qaq,a_Bank
  have zf9:=by exists "name","Thirty.name",zdD,qaa,a_Thirty
  have zge:=by exists "year","Thirty.year",zdt,qaa,a_Thirty
  have zgi:=by exists "unit","Count.unit",zaU,qaa,a_Thirty
  have zgf:=by exists "upto","Thirty.upto",zdy,qac,a_Thirty
  have zeE:=by exists "weight","Count.weight",zaF,qaq,a_Thirty
  have zhI:=by exists "name","Exact.name",zd9,qaa,a_Exact
  have zhT:=by exists "year","Exact.year",zet,qaa,a_Exact
  have zhV:=by exists "unit","Count.unit",zaU,qaa,a_Exact
  have zhK:=by exists "upto","Exact.upto",zep,qac,a_Exact
  have ze3:=by exists "weight","Count.weight",zaF,qaq,a_Exact
  have ikK_Count:=by refine' zl5 a_Count ?_ ?_ ?_ ?_;all_goals k_is
  have kS_Count:=by refine' zl6 (v:=false) (n:="str") a_Count ?_;kit_is
  have kK_Count_Count:=by refine' znC (v:=true) a_Count a_Count ?_;kit_is
  have ikK_Bank:=by refine' zl5 a_Bank ?_ ?_ ?_ ?_;all_goals k_is
  have kS_Bank:=by refine' zl6 (v:=false) (n:="str") a_Bank ?_;kit_is
  have kK_Bank_Count:=by refine' znC (v:=true) a_Bank a_Count ?_;kit_is
  have ikK_Thirty:=by refine' zl5 a_Thirty ?_ ?_ ?_ ?_;all_goals k_is
  have kS_Thirty:=by refine' zl6 (v:=false) (n:="str") a_Thirty ?_;kit_is
  have kK_Thirty_Count:=by refine' znC (v:=true) a_Thirty a_Count ?_;kit_is
  have ikK_Exact:=by refine' zl5 a_Exact ?_ ?_ ?_ ?_;all_goals k_is
  have kS_Exact:=by refine' zl6 (v:=false) (n:="str") a_Exact ?_;kit_is
  have kK_Exact_Count:=by refine' znC (v:=true) a_Exact a_Count ?_;kit_is
  have zqS:=zdH KX G a_Bank
  have znJ:=zdH KX G a_Book
  have zl9:=zdH KX G a_Count
  have zn2:=zdH KX G a_Debt
  have ztP:=zdH KX G a_Due
  have zjF:=zdH KX G a_Entry
  have zoA:=zdH KX G a_Exact
  have ztU:=zdH KX G a_Fee
  have zqP:=zdH KX G a_Late
  have zup:=zdH KX G a_Out
  have zqd:=zdH KX G a_Pay
  have zro:=zdH KX G a_Rate
  have zoS:=zdH KX G a_Still
  have zng:=zdH KX G a_Thirty
  have zq3:=zdH KX G a_Turn
  have zy:=by refine' zbx a_Book ?_ ?_ ?_ ?_;all_goals k_is
  have zl1:=by refine' zdo a_Book ?_ ?_;all_goals k_is
  have zR:=by refine' zbx a_Debt ?_ ?_ ?_ ?_;all_goals k_is
  have zmi:=by refine' zdo a_Debt ?_ ?_;all_goals k_is
  have clE_Out:=by refine' zbx a_Out ?_ ?_ ?_ ?_;all_goals k_is
  have clE_Fee:=by refine' zbx a_Fee ?_ ?_ ?_ ?_;all_goals k_is
  have clE_Pay:=by refine' zbx a_Pay ?_ ?_ ?_ ?_;all_goals k_is
  have clE_Due:=by refine' zbx a_Due ?_ ?_ ?_ ?_;all_goals k_is
  have clE_Turn:=by refine' zbx a_Turn ?_ ?_ ?_ ?_;all_goals k_is
  have clE_Rate:=by refine' zbx a_Rate ?_ ?_ ?_ ?_;all_goals k_is
  have clE_Late:=by refine' zbx a_Late ?_ ?_ ?_ ?_;all_goals k_is
  have clE_Still:=by refine' zbx a_Still ?_ ?_ ?_ ?_;all_goals k_is
  have clE_Entry:=by refine' zbx a_Entry ?_ ?_ ?_ ?_;all_goals k_is
  have zoT:=by
   refine' zT (name:="amount") a_Out ?_
   k_is
  have zoF:=by
   refine' zT (name:="amount") a_Fee ?_
   k_is
  have zop:=by
   refine' zT (name:="amount") a_Pay ?_
   k_is
  have zoR:=by
   refine' zT (name:="amount") a_Due ?_
   k_is
  have zn8:=by
   refine' zT (name:="amount") a_Turn ?_
   k_is
  have znT:=by
   refine' zT (name:="amount") a_Rate ?_
   k_is
  have zn4:=by
   refine' zT (name:="amount") a_Late ?_
   k_is
  have zmS:=by
   refine' zT (name:="amount") a_Still ?_
   k_is
  have znr:=by
   refine' zT (name:="amount") a_Entry ?_
   k_is
  have zsP:=by
   refine' zT (name:="day") a_Out ?_
   k_is
  have zsC:=by
   refine' zT (name:="day") a_Fee ?_
   k_is
  have zsN:=by
   refine' zT (name:="day") a_Pay ?_
   k_is
  have zsn:=by
   refine' zT (name:="day") a_Due ?_
   k_is
  have zrq:=by
   refine' zT (name:="day") a_Turn ?_
   k_is
  have zsc:=by
   refine' zT (name:="day") a_Rate ?_
   k_is
  have zra:=by
   refine' zT (name:="day") a_Late ?_
   k_is
  have zpO:=by
   refine' zT (name:="day") a_Still ?_
   k_is
  have zpD:=by
   refine' zT (name:="day") a_Entry ?_
   k_is
  have zrd:=by
   refine' zT (name:="rate") a_Out ?_
   k_is
  have zry:=by
   refine' zT (name:="rate") a_Fee ?_
   k_is
  have zrA:=by
   refine' zT (name:="rate") a_Pay ?_
   k_is
  have zrv:=by
   refine' zT (name:="rate") a_Due ?_
   k_is
  have zpT:=by
   refine' zT (name:="rate") a_Turn ?_
   k_is
  have zpE:=by
   refine' zT (name:="rate") a_Rate ?_
   k_is
  have zpY:=by
   refine' zT (name:="rate") a_Late ?_
   k_is
  have zoj:=by
   refine' zT (name:="rate") a_Still ?_
   k_is
  have zor:=by
   refine' zT (name:="rate") a_Entry ?_
   k_is
  have zp8:=by
   refine' zT (name:="until") a_Out ?_
   k_is
  have zpv:=by
   refine' zT (name:="until") a_Fee ?_
   k_is
  have zqb:=by
   refine' zT (name:="until") a_Pay ?_
   k_is
  have zpM:=by
   refine' zT (name:="until") a_Due ?_
   k_is
  have zoX:=by
   refine' zT (name:="until") a_Turn ?_
   k_is
  have zoL:=by
   refine' zT (name:="until") a_Rate ?_
   k_is
  have zoq:=by
   refine' zT (name:="until") a_Late ?_
   k_is
  have znv:=by
   refine' zT (name:="until") a_Still ?_
   k_is
  have znV:=by
   refine' zT (name:="until") a_Entry ?_
   k_is
  have zqT:=by refine' zdo a_Due ?_ ?_;all_goals k_is
  have zrh:=by refine' zdo a_Fee ?_ ?_;all_goals k_is
  have zoK:=by refine' zdo a_Late ?_ ?_;all_goals k_is
  have zqJ:=by refine' zdo a_Out ?_ ?_;all_goals k_is
  have zny:=by refine' zdo a_Pay ?_ ?_;all_goals k_is
  have zo0:=by refine' zdo a_Rate ?_ ?_;all_goals k_is
  have zmX:=by refine' zdo a_Still ?_ ?_;all_goals k_is
  have zof:=by refine' zdo a_Turn ?_ ?_;all_goals k_is
  have zhy:=by exists "word","Out.word",zgN,qaa,a_Out
  have zhs:=by exists "word","Fee.word",zgM,qaa,a_Fee
  have zhg:=by exists "word","Pay.word",zgB,qaa,a_Pay
  have zhF:=by exists "word","Due.word",zgH,qaa,a_Due
  have zgb:=by exists "word","Turn.word",zfr,qaa,a_Turn
  have zga:=by exists "word","Rate.word",zfF,qaa,a_Rate
  have zgd:=by exists "word","Late.word",zfp,qaa,a_Late
  have zeW:=by exists "word","Still.word",zeC,qaa,a_Still
  have zgn:=by exists "word","Entry.word",zeD,qaa,a_Entry
  have zjh:=by exists "row","AmountEntry.row",zao,qaa,a_Out
  have ziX:=by exists "row","AmountEntry.row",zao,qaa,a_Fee
  have zjr:=by exists "row","AmountEntry.row",zao,qaa,a_Pay
  have zjv:=by exists "row","AmountEntry.row",zao,qaa,a_Due
  have zhu:=by exists "row","Entry.row",zcs,qaa,a_Turn
  have zhC:=by exists "row","RateEntry.row",zbl,qaa,a_Rate
  have zh0:=by exists "row","RateEntry.row",zbl,qaa,a_Late
  have zf4:=by exists "row","Still.row",zfn,qaa,a_Still
  have zhL:=by exists "row","Entry.row",zcs,qaa,a_Entry
  have zj1:=by exists "__init__","AmountEntry.__init__",zag,qai,a_Due
  have zjV:=by exists "__init__","AmountEntry.__init__",zag,qai,a_Fee
  have zjs:=by exists "__init__","RateEntry.__init__",zba,qau,a_Late
  have zkq:=by exists "__init__","AmountEntry.__init__",zag,qai,a_Out
  have zkC:=by exists "__init__","AmountEntry.__init__",zag,qai,a_Pay
  have zjf:=by exists "__init__","RateEntry.__init__",zba,qau,a_Rate
  have zhR:=by exists "__init__","Still.__init__",zeJ,qbe,a_Still
  have ziJ:=by exists "__init__","Entry.__init__",zbC,qac,a_Turn
  have zff:=by
   refine' zx7 (m:="__init__") (qual:="Entry.__init__") (st:=zbC) (ps:=qac) a_Entry ?x1 ?x2 ?x3 ?x4 ?k ?l ?c ?b
   (case x1|x2|x3=>k_is);(case x4=>rfl);(case k|l|c=>k_is)
   case b=>exact L2.us2 fun _ _=>rfl
  have zcd:=by
   refine' zT (name:="due_sums") a_Book ?_
   k_is
  have zbB:=by
   refine' zT (name:="fee_sums") a_Book ?_
   k_is
  have zbW:=by
   refine' zT (name:="late_rows") a_Book ?_
   k_is
  have zbz:=by
   refine' zT (name:="out_sums") a_Book ?_
   k_is
  have zbp:=by
   refine' zT (name:="own_count") a_Book ?_
   k_is
  have za7:=by
   refine' zT (name:="own_entries") a_Book ?_
   k_is
  have zbo:=by
   refine' zT (name:="own_grace") a_Book ?_
   k_is
  have zbE:=by
   refine' zT (name:="pay_sums") a_Book ?_
   k_is
  have zbX:=by
   refine' zT (name:="rate_rows") a_Book ?_
   k_is
  have zcq:=by
   refine' zT (name:="spans") a_Book ?_
   k_is
  have zbn:=by
   refine' zT (name:="turn_days") a_Book ?_
   k_is
  have za1:=by
   refine' zT (name:="cent_units") a_Debt ?_
   k_is
  have zai:=by
   refine' zT (name:="owed_units") a_Debt ?_
   k_is
  have zP:=by
   refine' zT (name:="principal_cents") a_Debt ?_
   k_is
  have ziD:=by exists "grow","Debt.grow",zfx,qbc,a_Debt
  have ziO:=by exists "__init__","Debt.__init__",zfy,qay,a_Debt
  have zje:=by exists "owed","Debt.owed",zfO,qaa,a_Debt
  have zdI:=by exists "principal","Debt.principal",zcg,qaa,a_Debt
  have zg6:=by exists "count","Book.count",zeA,qaa,a_Book
  have zdT:=by exists "deed_days","Book.deed_days",zcm,qaa,a_Book
  have zjq:=by exists "dues","Book.dues",zft,qaa,a_Book
  have ze9:=by exists "entries","Book.entries",zdd,qaa,a_Book
  have zjd:=by exists "fees","Book.fees",zfq,qaa,a_Book
  have zhi:=by exists "grace","Book.grace",zed,qaa,a_Book
  have zg0:=by exists "lates","Book.lates",zeu,qaa,a_Book
  have zi2:=by exists "outs","Book.outs",zfw,qaa,a_Book
  have zjb:=by exists "pays","Book.pays",zfs,qaa,a_Book
  have zhU:=by exists "rates","Book.rates",zeR,qaa,a_Book
  have zgj:=by exists "stills","Book.stills",zdw,qaa,a_Book
  have zh6:=by exists "turns","Book.turns",zej,qaa,a_Book
  have zdQ:=by exists "add_cents","Debt.add_cents",zcp,qad,a_Debt
  have zi9:=by exists "turn","Debt.turn",zfu,qaa,a_Debt
  have ziN:=by exists "copy","Debt.copy",zfJ,qaa,a_Debt
  have zkv:=by exists "fee","Debt.fee",zgC,qad,a_Debt
  have zju:=by exists "lend","Debt.lend",zfI,qad,a_Debt
  have zi1:=by exists "take","Debt.take",zfH,qad,a_Debt
  have ziE:=by exists "__init__","Book.__init__",zfz,qbb,a_Book
  have zdL:=by exists "with_more","Book.with_more",zcl,qbk,a_Book
  have zb6:=by refine' zd1 (mg:=mg) (x:="FIRST_YEAR") (i:=2000) KX G ?a;case a=>k_is
  have zkk:=by refine' zd1 (mg:=mg) (x:="LAST_DAY") (i:=999999) KX G ?a;case a=>k_is
  have zlR:=by
   refine' zxr (mg:=mg) (x:="LENGTHS") (xs:=[.int 31,.int 28,.int 31,.int 30,.int 31,.int 30,.int 31,.int 31,.int 30,.int 31,.int 30,.int 31]) KX G ?a ?l ?r ?z
   case a|l=>k_is
   (case r=>repeat (first | exact .nil | refine .cons ⟨_,rfl⟩ ?_))
   (case z=>decide)
  have ziy:=by refine' zd1 (mg:=mg) (x:="MOST_DAYS") (i:=360) KX G ?a;case a=>k_is
  have zdi:=by refine' zd1 (mg:=mg) (x:="MOST_ENTRIES") (i:=500) KX G ?a;case a=>k_is
  have zh1:=by refine' zd1 (mg:=mg) (x:="MOST_GRACE") (i:=366) KX G ?a;case a=>k_is
  have zhb:=by refine' zd1 (mg:=mg) (x:="RATE_PARTS") (i:=10000) KX G ?a;case a=>k_is
  have zhz:=by refine' zd1 (mg:=mg) (x:="ROUND_DAYS") (i:=146097) KX G ?a;case a=>k_is
  have zgo:=by refine' zd1 (mg:=mg) (x:="ROUND_YEARS") (i:=400) KX G ?a;case a=>k_is
  have zkl:=by exists "table_of",zgO,qal
  have zo2:=by exists "begun",zl8,qax
  have ze5:=by exists "running_sums",zdb,qam
  have zmV:=by exists "joined",zjQ,["spans"]
  have zjT:=by exists "is_whole",zgF,qak
  have zlp:=by exists "is_leap",zio,qaj
  have zke:=by exists "new_year",zgJ,qaj
  have znq:=by exists "summed",zj0,qal
  have zfg:=by exists "_law_cell_at",zc2,qan
  have zh5:=by exists "_law_draws",zer,qav
  have zhA:=by exists "_law_value",zd8,qbm
  have zi4:=by exists "_law_leap",zfG,qaw
  have zhQ:=by exists "_law_still",zeM,qar
  have zg4:=by exists "_law_falls",zea,qbn
  have zjp:=by exists "_law_sums",zfo,qao
  have zhO:=by exists "_law_deeds",zeP,qbo
  have zgc:=by exists "_law_by_day",zdB,qao
  have zjn:=by exists "_law_pays",zfP,qaz
  have zhH:=by exists "_law_plain",zey,qas
  have zjU:=by exists "value_at",zgL,qbp
  have zi7:=by exists "late_sums",zfj,qag
  have zoH:=by exists "moved",zmj,qap
  have zfc:=by exists "turning_days",zc6,qag
  have zhj:=by exists "deeds_upto",zd5,qah
  have zna:=by exists "is_day",zku,qak
  have zg9:=by exists "month_days",zeH,qbd
  have zle:=by exists "year_of",zik,qat
  have ziM:=by exists "is_within",zfL,qbf
  have znh:=by exists "sum_by",zko,qae
  have zli:=by exists "days_of",ziv,qae
  have zhd:=by exists "rate_table",zeq,qae
  have zf2:=by exists "still_spans",zdu,qbq
  have zkg:=by exists "_law_row",zgP,qbr
  have zjg:=by exists "_law_base",zfE,qab
  have zhD:=by exists "_law_grace",zeB,qab
  have zhv:=by exists "_law_count",zeQ,qab
  have zdl:=by exists "_law_month_size",zb0,qba
  have zjm:=by exists "_law_dues",zfC,qar
  have ziH:=by exists "_law_unit",zfv,qab
  have zdJ:=by exists "_law_all_deeds",zci,qbs
  have zdN:=by exists "_law_some_days",zck,qbt
  have zmU:=by exists "stands",zjX,qap
  have zln:=by exists "date_of",zil,qat
  have zf8:=by exists "check_terms",zdA,qbg
  have zf5:=by exists "fallen_dues",zdC,qbh
  have zkx:=by exists "are_days",zgK,qbi
  have ziW:=by exists "_law_rows",zfN,qbu
  have zjw:=by exists "_law_date",zfA,qbv
  have zk7:=by exists "burdens",zh8,qag
  have zkf:=by exists "do_deeds",zgD,qbj
  have zhk:=by exists "check_days",zeI,qah
  have zlb:=by exists "as_pays",zih,qam
  have ziK:=by exists "_law_made",zfl,qas
  have ze8:=by exists "_law_weights",zdg,qbw
  have zjt:=by exists "_law_days",zfM,qbx
  have zhM:=by exists "charged_by",zeF,qby
  have ziz:=by exists "_law_book",zfD,qbl
  have ze2:=by exists "_law_ends_on",zdc,qbz
  have zfe:=by exists "debts_behind",zcW,qca
  have zlG:=by exists "paid_on",ziu,qaf
  have zgs:=by exists "accounts_at",zds,qah
  have zjc:=by exists "with_pays",zfB,qaf
  have zlA:=by exists "ends_on",zh9,qaf
  have zhJ:=by exists "_law_right",zd7,qcb
  have zqj:=by exists "law",znU,qab
  exact ⟨zqj,fun base=>zyB (⟨zqe,zrc,zd4,zdv,zb3,zbN,zbO,zdr,zdp,zb8,zmc,zbU,(fun kd=>match kd with | .plain=>cls_Count | .bank=>cls_Bank | .thirty=>cls_Thirty | .exact=>cls_Exact),(fun kd=>match kd with | .plain=>zuJ | .bank=>zvP | .thirty=>ztI | .exact=>zvi),(fun kd=>match kd with | .plain=>ikK_Count | .bank=>ikK_Bank | .thirty=>ikK_Thirty | .exact=>ikK_Exact),(fun k=>match k with | .plain=>kK_Count_Count | .bank=>kK_Bank_Count | .thirty=>kK_Thirty_Count | .exact=>kK_Exact_Count),(fun kd=>match kd with | .plain=>kS_Count | .bank=>kS_Bank | .thirty=>kS_Thirty | .exact=>kS_Exact),zqS,znJ,zl9,zn2,ztP,zjF,zoA,ztU,zqP,zup,zqd,zro,zoS,zng,zq3,zy,zl1,zR,zmi,(fun k=>match k with | .out=>clE_Out | .fee=>clE_Fee | .pay=>clE_Pay | .due=>clE_Due | .turn=>clE_Turn | .rate=>clE_Rate | .late=>clE_Late | .still=>clE_Still | .base=>clE_Entry),(fun k=>match k with | .out=>zoT | .fee=>zoF | .pay=>zop | .due=>zoR | .turn=>zn8 | .rate=>znT | .late=>zn4 | .still=>zmS | .base=>znr),(fun k=>match k with | .out=>zsP | .fee=>zsC | .pay=>zsN | .due=>zsn | .turn=>zrq | .rate=>zsc | .late=>zra | .still=>zpO | .base=>zpD),(fun k=>match k with | .out=>zrd | .fee=>zry | .pay=>zrA | .due=>zrv | .turn=>zpT | .rate=>zpE | .late=>zpY | .still=>zoj | .base=>zor),(fun k=>match k with | .out=>zp8 | .fee=>zpv | .pay=>zqb | .due=>zpM | .turn=>zoX | .rate=>zoL | .late=>zoq | .still=>znv | .base=>znV),zqT,zrh,zoK,zqJ,zny,zo0,zmX,zof,zcd,zbB,zbW,zbz,zbp,za7,zbo,zbE,zbX,zcq,zbn,za1,zai,zP,zb6,zkk,zlR,ziy,zdi,zh1,zhb,zhz,zgo⟩:My.Txt _ mg) zkl zo2 ze5 zmV zjT zlp zke znq zfg zh5 zhA zi4 zhQ zg4 zjp zhO zgc zjn zhH zjU zi7 zoH zfc zhj zna zg9 zle ziM znh zli zhd zf2 zkg zjg zhD zhv zdl zjm ziH zdJ zdN zmU zln zf8 zf5 zkx ziW zjw zk7 zkf zhk zlb ziK ze8 zjt zhM ziz ze2 zfe zlG zgs zjc zlA zhJ zqj zhy zhs zhg zhF zgb zga zgd zeW zgn zjh ziX zjr zjv zhu zhC zh0 zf4 zhL zj1 zjV zjs zkq zkC zjf zhR ziJ zff ziD ziO zje zdI zg6 zdT zjq ze9 zjd zhi zg0 zi2 zjb zhU zgj zh6 zdQ zi9 ziN zkv zju zi1 ziE zdL zhe zja zf9 zhI zgY ziF zge zhT zho zi6 zgi zhV zhX zjo zgf zhK zeT zgh zeE ze3⟩
